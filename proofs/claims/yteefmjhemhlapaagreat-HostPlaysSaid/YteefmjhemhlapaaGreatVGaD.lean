/- Package gate as it landed: Do, and where the rows that it hands out lie: the replies' as it was, the trace's as it was or new. -/
import Derived.Test.YteefmjhemhlapaaGreatVGaB
import Derived.Test.YteefmjhemhlapaaGreatVMeR
namespace Go.Proofs.YteefmjhemhlapaaGreat.Mm
open Go.ChangeShapes Go.WideShapes Go.ChangeAt Go.RowKit
set_option linter.unusedVariables false
set_option linter.unusedSimpArgs false

structure GdS (w:World) (cs ds:List Value) (W:World):Prop where
  c:HasB W w.heap.size 77 cs
  d:HasB W (w.heap.size+1) 80 ds
  rc:HasB W (w.heap.size+1+1) 77 [.int .u32 0,.int .u32 0,.int .u32 0,.int .u32 0,.int .u32 0,.int .u32 0,.int .u32 0,.int .u32 0,.int .u32 0,.int .u32 0,.int .u32 0]
  rd:HasB W (w.heap.size+1+1+1) 80 [.slice none 0 0,.int .i64 0,.slice none 0 0,.bool false,.int .u32 0]
  bel:Below w.heap.size w W
theorem GdS.below {w W W':World} {cs ds:List Value} (k:GdS w cs ds W) (hb:Below W.heap.size W W'):GdS w cs ds W':=
  ⟨k.c.below hb,k.d.below hb,k.rc.below hb,k.rd.below hb,bel_then k.bel hb⟩
theorem GdS.lt {w W:World} {cs ds:List Value} (k:GdS w cs ds W):w.heap.size+4≤W.heap.size:=by have:=k.rd.lt;omega
theorem GdS.new (w:World) (cs ds:List Value) :
    ∃ W,(((w.alloc (.cells cs.toArray 77)).alloc (.cells ds.toArray 80)).alloc (.cells #[.int .u32 0,.int .u32 0,.int .u32 0,.int .u32 0,.int .u32 0,.int .u32 0,.int .u32 0,.int .u32 0,.int .u32 0,.int .u32 0,.int .u32 0] 77)).alloc (.cells #[.slice none 0 0,.int .i64 0,.slice none 0 0,.bool false,.int .u32 0] 80)=W∧GdS w cs ds W:=by
  refine ⟨_,rfl,⟨?_,?_,?_,?_,bel_al (bel_al (bel_al (bel_al (Below.refl _ _) _) _) _) _⟩⟩
  · exact (((HasB.new w _ cs).al _).al _).al _
  · exact (((HasB.newAt _ _ _ ds.toArray (by simp)).al _).al _)
  · exact ((HasB.newAt _ _ _ #[.int .u32 0,.int .u32 0,.int .u32 0,.int .u32 0,.int .u32 0,.int .u32 0,.int .u32 0,.int .u32 0,.int .u32 0,.int .u32 0,.int .u32 0] (by simp)).al _)
  · exact HasB.newAt _ _ _ #[.slice none 0 0,.int .i64 0,.slice none 0 0,.bool false,.int .u32 0] (by simp)
theorem GdS.setC {w W:World} {cs ds:List Value} (k:GdS w cs ds W) (i:Nat) (v:Value) :
    ∃ W',W.setCell ⟨w.heap.size,i,none⟩ v=W'∧GdS w (cs.set i v) ds W'∧Chg w.heap.size w.heap.size W W':=by
  have c:Chg w.heap.size w.heap.size W (W.setCell ⟨w.heap.size,i,none⟩ v):=chg_set (Chg.refl _ _ _) _ (.inl rfl) _ _
  exact ⟨_,rfl,⟨has_set k.c i v,k.d.chg c (by omega) (by omega),k.rc.chg c (by omega) (by omega),k.rd.chg c (by omega) (by omega),c.below k.bel k.bel.size (by omega) (by omega)⟩,c⟩
theorem GdS.setD {w W:World} {cs ds:List Value} (k:GdS w cs ds W) (i:Nat) (v:Value) :
    ∃ W',W.setCell ⟨w.heap.size+1,i,none⟩ v=W'∧GdS w cs (ds.set i v) W'∧Chg (w.heap.size+1) (w.heap.size+1) W W':=by
  have c:Chg (w.heap.size+1) (w.heap.size+1) W (W.setCell ⟨w.heap.size+1,i,none⟩ v):=chg_set (Chg.refl _ _ _) _ (.inl rfl) _ _
  exact ⟨_,rfl,⟨k.c.chg c (by omega) (by omega),has_set k.d i v,k.rc.chg c (by omega) (by omega),k.rd.chg c (by omega) (by omega),c.below k.bel k.bel.size (by omega) (by omega)⟩,c⟩
theorem gst16 {w W:World} (bel:Below w.heap.size w W) (v0 v1 v2 v3 v4 v5 v6 v7 v8 v9 v10 u0 u1 u2 u3 u4:Value) :
    let w':=((((((((((((((((W.setCell ⟨w.heap.size+1+1,0,none⟩ v0).setCell ⟨w.heap.size+1+1,1,none⟩ v1).setCell ⟨w.heap.size+1+1,2,none⟩ v2).setCell ⟨w.heap.size+1+1,3,none⟩ v3).setCell ⟨w.heap.size+1+1,4,none⟩ v4).setCell ⟨w.heap.size+1+1,5,none⟩ v5).setCell ⟨w.heap.size+1+1,6,none⟩ v6).setCell ⟨w.heap.size+1+1,7,none⟩ v7).setCell ⟨w.heap.size+1+1,8,none⟩ v8).setCell ⟨w.heap.size+1+1,9,none⟩ v9).setCell ⟨w.heap.size+1+1,10,none⟩ v10).setCell ⟨w.heap.size+1+1+1,0,none⟩ u0).setCell ⟨w.heap.size+1+1+1,1,none⟩ u1).setCell ⟨w.heap.size+1+1+1,2,none⟩ u2).setCell ⟨w.heap.size+1+1+1,3,none⟩ u3).setCell ⟨w.heap.size+1+1+1,4,none⟩ u4)
    Chg (w.heap.size+1+1) (w.heap.size+1+1+1) W w'.drew∧Below w.heap.size w w'.drew:=by
  intro w'
  have c1:Chg (w.heap.size+1+1) (w.heap.size+1+1+1) W w':=chg_set (chg_set (chg_set (chg_set (chg_set (chg_set (chg_set (chg_set (chg_set (chg_set (chg_set (chg_set (chg_set (chg_set (chg_set (chg_set (Chg.refl _ _ _) _ (.inl rfl) _ _) _ (.inl rfl) _ _) _ (.inl rfl) _ _) _ (.inl rfl) _ _) _ (.inl rfl) _ _) _ (.inl rfl) _ _) _ (.inl rfl) _ _) _ (.inl rfl) _ _) _ (.inl rfl) _ _) _ (.inl rfl) _ _) _ (.inl rfl) _ _) _ (.inr rfl) _ _) _ (.inr rfl) _ _) _ (.inr rfl) _ _) _ (.inr rfl) _ _) _ (.inr rfl) _ _
  have c2:=chg_drew c1
  exact ⟨c2,c2.below bel bel.size (by omega) (by omega)⟩
theorem has11G {w:World} {g:Nat} {t:TypeId} {v0 v1 v2 v3 v4 v5 v6 v7 v8 v9 v10:Value} (k:HasB w g t [v0,v1,v2,v3,v4,v5,v6,v7,v8,v9,v10]) :
    (w.cell? ⟨g,0,none⟩=some v0∧w.cell? ⟨g,1,none⟩=some v1∧w.cell? ⟨g,2,none⟩=some v2∧w.cell? ⟨g,3,none⟩=some v3∧w.cell? ⟨g,4,none⟩=some v4∧w.cell? ⟨g,5,none⟩=some v5∧w.cell? ⟨g,6,none⟩=some v6∧w.cell? ⟨g,7,none⟩=some v7∧w.cell? ⟨g,8,none⟩=some v8∧w.cell? ⟨g,9,none⟩=some v9∧w.cell? ⟨g,10,none⟩=some v10) ∧
    (w.frozen? ⟨g,0,none⟩=false∧w.frozen? ⟨g,1,none⟩=false∧w.frozen? ⟨g,2,none⟩=false∧w.frozen? ⟨g,3,none⟩=false∧w.frozen? ⟨g,4,none⟩=false∧w.frozen? ⟨g,5,none⟩=false∧w.frozen? ⟨g,6,none⟩=false∧w.frozen? ⟨g,7,none⟩=false∧w.frozen? ⟨g,8,none⟩=false∧w.frozen? ⟨g,9,none⟩=false∧w.frozen? ⟨g,10,none⟩=false):=
  ⟨⟨k.cell 0,k.cell 1,k.cell 2,k.cell 3,k.cell 4,k.cell 5,k.cell 6,k.cell 7,k.cell 8,k.cell 9,k.cell 10⟩,⟨k.frozen 0,k.frozen 1,k.frozen 2,k.frozen 3,k.frozen 4,k.frozen 5,k.frozen 6,k.frozen 7,k.frozen 8,k.frozen 9,k.frozen 10⟩⟩
def WithP (w':World) (tr:List Ev) (k:Nat) (x:Ev) (e:Ending) (w'':World):Prop:=
  ∃ g cap',e=.returned (.slice (some ⟨g,0,none⟩) (k+1) cap')∧EvRow w'' (some ⟨g,0,none⟩) cap' (tr ++ [x])∧Below w'.heap.size w' w''∧w'.heap.size≤g
set_option maxRecDepth 100000 in
set_option maxHeartbeats 8000000 in
theorem do_over (pc r0 r1 r2 r3 r4 r5 r6 r7 b s:Int) (pv:Option Addr) (RA:Option Addr) (rc n:Nat) (tk cd:Int) (T:Option Addr) (ct k:Nat) (w:World) (nn:Int) :
    Calls Tryz.prog 87 #[.agg #[.int .u32 pc,.int .u32 r0,.int .u32 r1,.int .u32 r2,.int .u32 r3,.int .u32 r4,.int .u32 r5,.int .u32 r6,.int .u32 r7,.int .u32 b,.int .u32 s],.pointer pv,.agg #[.slice RA n rc,.int .i64 tk,.slice T k ct,.bool true,.int .u32 cd],.int .i64 nn] w fun e w'=>e=.returned (.tuple #[.agg #[.int .u32 pc,.int .u32 r0,.int .u32 r1,.int .u32 r2,.int .u32 r3,.int .u32 r4,.int .u32 r5,.int .u32 r6,.int .u32 r7,.int .u32 b,.int .u32 s],.agg #[.slice RA n rc,.int .i64 tk,.slice T k ct,.bool true,.int .u32 cd]])∧Below w.heap.size w w':=by
  obtain ⟨G1,e1,g1⟩:=GdS.new w [.int .u32 pc,.int .u32 r0,.int .u32 r1,.int .u32 r2,.int .u32 r3,.int .u32 r4,.int .u32 r5,.int .u32 r6,.int .u32 r7,.int .u32 b,.int .u32 s] [.slice RA n rc,.int .i64 tk,.slice T k ct,.bool true,.int .u32 cd]
  obtain ⟨⟨a0,a1,a2,a3,a4,a5,a6,a7,a8,a9,a10⟩,⟨e0,e1',e2',e3',e4',e5,e6,e7,e8,e9,e10⟩⟩:=has11G g1.c
  obtain ⟨⟨b0,b1,b2,b3,b4⟩,⟨h0,h1,h2,h3,h4⟩⟩:=has5 g1.d
  go_enter Tryz.func87,Tryz.ntmps87
  obtain ⟨⟨m0,m1,m2,m3,m4,m5,m6,m7,m8,m9,m10⟩,⟨f0,f1,f2,f3,f4,f5,f6,f7,f8,f9,f10⟩⟩:=has11G g1.rc
  obtain ⟨⟨n0,n1,n2,n3,n4⟩,⟨q0,q1,q2,q3,q4⟩⟩:=has5 g1.rd
  have GB:=Lib.hid g1.bel
  clear g1
  go_wp2_with fail
  go_region
  all_goals go_wp2_with fail
  all_goals refine bodyPost_ret (v:=.tuple #[.agg #[.int .u32 pc,.int .u32 r0,.int .u32 r1,.int .u32 r2,.int .u32 r3,.int .u32 r4,.int .u32 r5,.int .u32 r6,.int .u32 r7,.int .u32 b,.int .u32 s],.agg #[.slice RA n rc,.int .i64 tk,.slice T k ct,.bool true,.int .u32 cd]]) (by simp [results,Tryz.results87,go_sem,m0,m1,m2,m3,m4,m5,m6,m7,m8,m9,m10,n0,n1,n2,n3,n4]) rfl ?_
  all_goals obtain ⟨x1,x2⟩:=gst16 GB.out (.int .u32 pc) (.int .u32 r0) (.int .u32 r1) (.int .u32 r2) (.int .u32 r3) (.int .u32 r4) (.int .u32 r5) (.int .u32 r6) (.int .u32 r7) (.int .u32 b) (.int .u32 s) (.slice RA n rc) (.int .i64 tk) (.slice T k ct) (.bool true) (.int .u32 cd)
  all_goals exact ⟨rfl,x2⟩
set_option maxRecDepth 100000 in
set_option maxHeartbeats 8000000 in
theorem do_none (pc r0 r1 r2 r3 r4 r5 r6 r7 b s:Int) (pv:Option Addr) (RA:Option Addr) (rc n:Nat) (tk cd:Int) (T:Option Addr) (ct k:Nat) (w:World) (nn:Int) (hn:nn≠0∧nn≠1∧nn≠2∧nn≠3) :
    Calls Tryz.prog 87 #[.agg #[.int .u32 pc,.int .u32 r0,.int .u32 r1,.int .u32 r2,.int .u32 r3,.int .u32 r4,.int .u32 r5,.int .u32 r6,.int .u32 r7,.int .u32 b,.int .u32 s],.pointer pv,.agg #[.slice RA n rc,.int .i64 tk,.slice T k ct,.bool false,.int .u32 cd],.int .i64 nn] w fun e w'=>e=.returned (.tuple #[.agg #[.int .u32 pc,.int .u32 r0,.int .u32 r1,.int .u32 r2,.int .u32 r3,.int .u32 r4,.int .u32 r5,.int .u32 r6,.int .u32 r7,.int .u32 b,.int .u32 s],.agg #[.slice RA n rc,.int .i64 tk,.slice T k ct,.bool false,.int .u32 cd]])∧Below w.heap.size w w':=by
  obtain ⟨G1,e1,g1⟩:=GdS.new w [.int .u32 pc,.int .u32 r0,.int .u32 r1,.int .u32 r2,.int .u32 r3,.int .u32 r4,.int .u32 r5,.int .u32 r6,.int .u32 r7,.int .u32 b,.int .u32 s] [.slice RA n rc,.int .i64 tk,.slice T k ct,.bool false,.int .u32 cd]
  have k0:(nn == 0)=false:=by simp;omega
  have k1:(nn == 1)=false:=by simp;omega
  have k2:(nn == 2)=false:=by simp;omega
  have k3:(nn == 3)=false:=by simp;omega
  clear hn
  obtain ⟨⟨a0,a1,a2,a3,a4,a5,a6,a7,a8,a9,a10⟩,⟨e0,e1',e2',e3',e4',e5,e6,e7,e8,e9,e10⟩⟩:=has11G g1.c
  obtain ⟨⟨b0,b1,b2,b3,b4⟩,⟨h0,h1,h2,h3,h4⟩⟩:=has5 g1.d
  go_enter Tryz.func87,Tryz.ntmps87
  obtain ⟨⟨m0,m1,m2,m3,m4,m5,m6,m7,m8,m9,m10⟩,⟨f0,f1,f2,f3,f4,f5,f6,f7,f8,f9,f10⟩⟩:=has11G g1.rc
  obtain ⟨⟨n0,n1,n2,n3,n4⟩,⟨q0,q1,q2,q3,q4⟩⟩:=has5 g1.rd
  have GB:=Lib.hid g1.bel
  clear g1
  go_wp2_with fail
  go_region
  all_goals go_wp2_with fail
  all_goals refine bodyPost_ret (v:=.tuple #[.agg #[.int .u32 pc,.int .u32 r0,.int .u32 r1,.int .u32 r2,.int .u32 r3,.int .u32 r4,.int .u32 r5,.int .u32 r6,.int .u32 r7,.int .u32 b,.int .u32 s],.agg #[.slice RA n rc,.int .i64 tk,.slice T k ct,.bool false,.int .u32 cd]]) (by simp [results,Tryz.results87,go_sem,m0,m1,m2,m3,m4,m5,m6,m7,m8,m9,m10,n0,n1,n2,n3,n4]) rfl ?_
  all_goals obtain ⟨x1,x2⟩:=gst16 GB.out (.int .u32 pc) (.int .u32 r0) (.int .u32 r1) (.int .u32 r2) (.int .u32 r3) (.int .u32 r4) (.int .u32 r5) (.int .u32 r6) (.int .u32 r7) (.int .u32 b) (.int .u32 s) (.slice RA n rc) (.int .i64 tk) (.slice T k ct) (.bool false) (.int .u32 cd)
  all_goals exact ⟨rfl,x2⟩
set_option maxRecDepth 100000 in
set_option maxHeartbeats 8000000 in
theorem do_0 (pc r0 r1 r2 r3 r4 r5 r6 r7 b s:Int) (pv:Option Addr) (RA:Option Addr) (rc n:Nat) (tk cd:Int) (T:Option Addr) (ct k:Nat) (tr:List Ev) (w:World) (WC:Hid (∀ w',Below w.heap.size w w'→Calls Tryz.prog 104 #[.slice T k ct,.agg #[.int .i64 0,.int .u32 r0]] w' (WithP w' tr k (0,r0)))) :
    Calls Tryz.prog 87 #[.agg #[.int .u32 pc,.int .u32 r0,.int .u32 r1,.int .u32 r2,.int .u32 r3,.int .u32 r4,.int .u32 r5,.int .u32 r6,.int .u32 r7,.int .u32 b,.int .u32 s],.pointer pv,.agg #[.slice RA n rc,.int .i64 tk,.slice T k ct,.bool false,.int .u32 cd],.int .i64 0] w fun e w'=>∃ A9 c9,e=.returned (.tuple #[.agg #[.int .u32 pc,.int .u32 r0,.int .u32 r1,.int .u32 r2,.int .u32 r3,.int .u32 r4,.int .u32 r5,.int .u32 r6,.int .u32 r7,.int .u32 b,.int .u32 s],.agg #[.slice RA n rc,.int .i64 tk,.slice A9 (k+1) c9,.bool true,.int .u32 r0]])∧EvRow w' A9 c9 (tr ++ [(0,r0)])∧Below w.heap.size w w'∧∀ x,A9=some x→w.heap.size≤x.block:=by
  obtain ⟨G1,e1,g1⟩:=GdS.new w [.int .u32 pc,.int .u32 r0,.int .u32 r1,.int .u32 r2,.int .u32 r3,.int .u32 r4,.int .u32 r5,.int .u32 r6,.int .u32 r7,.int .u32 b,.int .u32 s] [.slice RA n rc,.int .i64 tk,.slice T k ct,.bool false,.int .u32 cd]
  obtain ⟨G2,e2,g2,_⟩:=g1.setD 3 (.bool true)
  obtain ⟨G3,e3,g3,_⟩:=g2.setD 4 (.int .u32 r0)
  simp only [List.set_cons_zero,List.set_cons_succ] at g2 g3
  have g4:GdS w [.int .u32 pc,.int .u32 r0,.int .u32 r1,.int .u32 r2,.int .u32 r3,.int .u32 r4,.int .u32 r5,.int .u32 r6,.int .u32 r7,.int .u32 b,.int .u32 s] [.slice RA n rc,.int .i64 tk,.slice T k ct,.bool true,.int .u32 r0] G3.drew:=g3.below (Below.refl _ _).drew
  have W9:=Lib.hid (WC.out _ g4.bel)
  obtain ⟨⟨a0,a1,a2,a3,a4,a5,a6,a7,a8,a9,a10⟩,⟨e0,e1',e2',e3',e4',e5,e6,e7,e8,e9,e10⟩⟩:=has11G g1.c
  obtain ⟨⟨b0,b1,b2,b3,b4⟩,⟨h0,h1,h2,h3,h4⟩⟩:=has5 g1.d
  have u2:=g2.c.cell 1
  have u4:=g2.d.cell 4
  have uf4:=g2.d.frozen 4
  simp only [List.getElem?_cons_succ,List.getElem?_cons_zero] at u2 u4
  obtain ⟨⟨aa0,aa1,aa2,aa3,aa4,aa5,aa6,aa7,aa8,aa9,aa10⟩,⟨ee0,ee1',ee2',ee3',ee4',ee5,ee6,ee7,ee8,ee9,ee10⟩⟩:=has11G g3.c
  obtain ⟨⟨bb0,bb1,bb2,bb3,bb4⟩,⟨hh0,hh1,hh2,hh3,hh4⟩⟩:=has5 g3.d
  clear g2 g3
  go_enter Tryz.func87,Tryz.ntmps87
  go_upto_region 6 with fail
  go_region
  all_goals (
    go_wp2_with fail
    refine W9.out.mono ?_;rintro e w9 ⟨g9,c9,rfl,row9,hb9,ge9⟩
    have x9:=g4.below hb9
    have lt9:w.heap.size+4≤g9:=Nat.le_trans g4.lt ge9
    clear a0 a1 a2 a3 a4 a5 a6 a7 a8 a9 a10 e0 e1' e2' e3' e4' e5 e6 e7 e8 e9 e10 b0 b1 b2 b3 b4 h0 h1 h2 h3 h4
    clear aa0 aa1 aa2 aa3 aa4 aa5 aa6 aa7 aa8 aa9 aa10 ee0 ee1' ee2' ee3' ee4' ee5 ee6 ee7 ee8 ee9 ee10 bb0 bb1 bb2 bb3 bb4 hh0 hh1 hh2 hh3 hh4
    clear g1 e2 e3 u2 u4 uf4
    clear W9 hb9 ge9
    obtain ⟨Wa,ea,y9,ch9⟩:=x9.setD 2 (.slice (some ⟨g9,0,none⟩) (k+1) c9)
    obtain ⟨⟨_,_,z2,_,_⟩,⟨_,_,zf2,_,_⟩⟩:=has5 x9.d
    have ROW:=Lib.hid (row9.chg ch9 (fun x hx=>by cases hx;simp only;omega) (fun x hx=>by cases hx;simp only;omega))
    clear row9 ch9 x9
    simp only [List.set_cons_zero,List.set_cons_succ] at y9
    obtain ⟨⟨a0,a1,a2,a3,a4,a5,a6,a7,a8,a9,a10⟩,⟨e0,e1',e2',e3',e4',e5,e6,e7,e8,e9,e10⟩⟩:=has11G y9.c
    obtain ⟨⟨b0,b1,b2,b3,b4⟩,⟨h0,h1,h2,h3,h4⟩⟩:=has5 y9.d
    obtain ⟨⟨m0,m1,m2,m3,m4,m5,m6,m7,m8,m9,m10⟩,⟨f0,f1,f2,f3,f4,f5,f6,f7,f8,f9,f10⟩⟩:=has11G y9.rc
    obtain ⟨⟨n0,n1,n2,n3,n4⟩,⟨q0,q1,q2,q3,q4⟩⟩:=has5 y9.rd
    have GB:=Lib.hid y9.bel
    clear y9
    go_wp2_with fail
    go_region
    all_goals go_wp2_with fail
    all_goals refine bodyPost_ret (v:=.tuple #[.agg #[.int .u32 pc,.int .u32 r0,.int .u32 r1,.int .u32 r2,.int .u32 r3,.int .u32 r4,.int .u32 r5,.int .u32 r6,.int .u32 r7,.int .u32 b,.int .u32 s],.agg #[.slice RA n rc,.int .i64 tk,.slice (some ⟨g9,0,none⟩) (k+1) c9,.bool true,.int .u32 r0]]) (by simp [results,Tryz.results87,go_sem,m0,m1,m2,m3,m4,m5,m6,m7,m8,m9,m10,n0,n1,n2,n3,n4]) rfl ?_
    all_goals obtain ⟨x1,x2⟩:=gst16 GB.out (.int .u32 pc) (.int .u32 r0) (.int .u32 r1) (.int .u32 r2) (.int .u32 r3) (.int .u32 r4) (.int .u32 r5) (.int .u32 r6) (.int .u32 r7) (.int .u32 b) (.int .u32 s) (.slice RA n rc) (.int .i64 tk) (.slice (some ⟨g9,0,none⟩) (k+1) c9) (.bool true) (.int .u32 r0)
    all_goals exact ⟨_,c9,rfl,ROW.out.chg x1 (fun x hx=>by cases hx;simp only;omega) (fun x hx=>by cases hx;simp only;omega),x2,fun x hx=>by cases hx;simp only;omega⟩)
set_option maxRecDepth 100000 in
set_option maxHeartbeats 8000000 in
theorem do_1 (pc r0 r1 r2 r3 r4 r5 r6 r7 b s:Int) (pv:Option Addr) (RA:Option Addr) (rc n:Nat) (tk cd:Int) (T:Option Addr) (ct k:Nat) (tr:List Ev) (w:World) (WC:Hid (∀ w',Below w.heap.size w w'→Calls Tryz.prog 104 #[.slice T k ct,.agg #[.int .i64 1,.int .u32 r0]] w' (WithP w' tr k (1,r0)))) :
    Calls Tryz.prog 87 #[.agg #[.int .u32 pc,.int .u32 r0,.int .u32 r1,.int .u32 r2,.int .u32 r3,.int .u32 r4,.int .u32 r5,.int .u32 r6,.int .u32 r7,.int .u32 b,.int .u32 s],.pointer pv,.agg #[.slice RA n rc,.int .i64 tk,.slice T k ct,.bool false,.int .u32 cd],.int .i64 1] w fun e w'=>∃ A9 c9,e=.returned (.tuple #[.agg #[.int .u32 pc,.int .u32 r0,.int .u32 r1,.int .u32 r2,.int .u32 r3,.int .u32 r4,.int .u32 r5,.int .u32 r6,.int .u32 r7,.int .u32 b,.int .u32 s],.agg #[.slice RA n rc,.int .i64 tk,.slice A9 (k+1) c9,.bool false,.int .u32 cd]])∧EvRow w' A9 c9 (tr ++ [(1,r0)])∧Below w.heap.size w w'∧∀ x,A9=some x→w.heap.size≤x.block:=by
  obtain ⟨G1,e1,g1⟩:=GdS.new w [.int .u32 pc,.int .u32 r0,.int .u32 r1,.int .u32 r2,.int .u32 r3,.int .u32 r4,.int .u32 r5,.int .u32 r6,.int .u32 r7,.int .u32 b,.int .u32 s] [.slice RA n rc,.int .i64 tk,.slice T k ct,.bool false,.int .u32 cd]
  obtain ⟨⟨a0,a1,a2,a3,a4,a5,a6,a7,a8,a9,a10⟩,⟨e0,e1',e2',e3',e4',e5,e6,e7,e8,e9,e10⟩⟩:=has11G g1.c
  obtain ⟨⟨b0,b1,b2,b3,b4⟩,⟨h0,h1,h2,h3,h4⟩⟩:=has5 g1.d
  go_enter Tryz.func87,Tryz.ntmps87
  have W9:=Lib.hid (WC.out _ g1.bel)
  go_wp2_with fail
  refine W9.out.mono ?_;rintro e w9 ⟨g9,c9,rfl,row9,hb9,ge9⟩
  have x9:=g1.below hb9
  have lt9:w.heap.size+4≤g9:=Nat.le_trans g1.lt ge9
  clear a0 a1 a2 a3 a4 a5 a6 a7 a8 a9 a10 e0 e1' e2' e3' e4' e5 e6 e7 e8 e9 e10 b0 b1 b2 b3 b4 h0 h1 h2 h3 h4
  clear W9 hb9 ge9
  obtain ⟨Wa,ea,y9,ch9⟩:=x9.setD 2 (.slice (some ⟨g9,0,none⟩) (k+1) c9)
  obtain ⟨⟨_,_,z2,_,_⟩,⟨_,_,zf2,_,_⟩⟩:=has5 x9.d
  have ROW:=Lib.hid (row9.chg ch9 (fun x hx=>by cases hx;simp only;omega) (fun x hx=>by cases hx;simp only;omega))
  clear row9 ch9 x9
  simp only [List.set_cons_zero,List.set_cons_succ] at y9
  obtain ⟨⟨a0,a1,a2,a3,a4,a5,a6,a7,a8,a9,a10⟩,⟨e0,e1',e2',e3',e4',e5,e6,e7,e8,e9,e10⟩⟩:=has11G y9.c
  obtain ⟨⟨b0,b1,b2,b3,b4⟩,⟨h0,h1,h2,h3,h4⟩⟩:=has5 y9.d
  obtain ⟨⟨m0,m1,m2,m3,m4,m5,m6,m7,m8,m9,m10⟩,⟨f0,f1,f2,f3,f4,f5,f6,f7,f8,f9,f10⟩⟩:=has11G y9.rc
  obtain ⟨⟨n0,n1,n2,n3,n4⟩,⟨q0,q1,q2,q3,q4⟩⟩:=has5 y9.rd
  have GB:=Lib.hid y9.bel
  clear y9
  go_wp2_with fail
  go_region
  all_goals go_wp2_with fail
  all_goals refine bodyPost_ret (v:=.tuple #[.agg #[.int .u32 pc,.int .u32 r0,.int .u32 r1,.int .u32 r2,.int .u32 r3,.int .u32 r4,.int .u32 r5,.int .u32 r6,.int .u32 r7,.int .u32 b,.int .u32 s],.agg #[.slice RA n rc,.int .i64 tk,.slice (some ⟨g9,0,none⟩) (k+1) c9,.bool false,.int .u32 cd]]) (by simp [results,Tryz.results87,go_sem,m0,m1,m2,m3,m4,m5,m6,m7,m8,m9,m10,n0,n1,n2,n3,n4]) rfl ?_
  all_goals obtain ⟨x1,x2⟩:=gst16 GB.out (.int .u32 pc) (.int .u32 r0) (.int .u32 r1) (.int .u32 r2) (.int .u32 r3) (.int .u32 r4) (.int .u32 r5) (.int .u32 r6) (.int .u32 r7) (.int .u32 b) (.int .u32 s) (.slice RA n rc) (.int .i64 tk) (.slice (some ⟨g9,0,none⟩) (k+1) c9) (.bool false) (.int .u32 cd)
  all_goals exact ⟨_,c9,rfl,ROW.out.chg x1 (fun x hx=>by cases hx;simp only;omega) (fun x hx=>by cases hx;simp only;omega),x2,fun x hx=>by cases hx;simp only;omega⟩
set_option maxRecDepth 100000 in
set_option maxHeartbeats 8000000 in
theorem do_2 (pc r0 r1 r2 r3 r4 r5 r6 r7 b s:Int) (pv:Option Addr) (RA:Option Addr) (rc n:Nat) (tk cd:Int) (T:Option Addr) (ct k:Nat) (tr:List Ev) (rv tv:Int) (w:World) (WC:Hid (∀ w',Below w.heap.size w w'→Calls Tryz.prog 104 #[.slice T k ct,.agg #[.int .i64 2,.int .u32 rv]] w' (WithP w' tr k (2,rv))))
    (TC:Hid (∀ w',Below w.heap.size w w'→HasB w' (w.heap.size+1) 80 [.slice RA n rc,.int .i64 tk,.slice T k ct,.bool false,.int .u32 cd]→Calls Tryz.prog 102 #[.pointer (some ⟨w.heap.size+1,0,none⟩)] w' fun e w''=>e=.returned (.int .u32 rv)∧w''=w'.setCell ⟨w.heap.size+1,1,none⟩ (.int .i64 tv))) :
    Calls Tryz.prog 87 #[.agg #[.int .u32 pc,.int .u32 r0,.int .u32 r1,.int .u32 r2,.int .u32 r3,.int .u32 r4,.int .u32 r5,.int .u32 r6,.int .u32 r7,.int .u32 b,.int .u32 s],.pointer pv,.agg #[.slice RA n rc,.int .i64 tk,.slice T k ct,.bool false,.int .u32 cd],.int .i64 2] w fun e w'=>∃ A9 c9,e=.returned (.tuple #[.agg #[.int .u32 pc,.int .u32 rv,.int .u32 r1,.int .u32 r2,.int .u32 r3,.int .u32 r4,.int .u32 r5,.int .u32 r6,.int .u32 r7,.int .u32 b,.int .u32 s],.agg #[.slice RA n rc,.int .i64 tv,.slice A9 (k+1) c9,.bool false,.int .u32 cd]])∧EvRow w' A9 c9 (tr ++ [(2,rv)])∧Below w.heap.size w w'∧∀ x,A9=some x→w.heap.size≤x.block:=by
  obtain ⟨G1,e1,g1⟩:=GdS.new w [.int .u32 pc,.int .u32 r0,.int .u32 r1,.int .u32 r2,.int .u32 r3,.int .u32 r4,.int .u32 r5,.int .u32 r6,.int .u32 r7,.int .u32 b,.int .u32 s] [.slice RA n rc,.int .i64 tk,.slice T k ct,.bool false,.int .u32 cd]
  obtain ⟨G2,e2,g2,_⟩:=g1.setD 1 (.int .i64 tv)
  obtain ⟨G3,e3,g3,_⟩:=g2.setC 1 (.int .u32 rv)
  simp only [List.set_cons_zero,List.set_cons_succ] at g2 g3
  have T1:=Lib.hid (TC.out G1 g1.bel g1.d)
  obtain ⟨⟨a0,a1,a2,a3,a4,a5,a6,a7,a8,a9,a10⟩,⟨e0,e1',e2',e3',e4',e5,e6,e7,e8,e9,e10⟩⟩:=has11G g1.c
  obtain ⟨⟨b0,b1,b2,b3,b4⟩,⟨h0,h1,h2,h3,h4⟩⟩:=has5 g1.d
  go_enter Tryz.func87,Tryz.ntmps87
  go_wp2_with fail
  refine T1.out.mono ?_;rintro e w2 ⟨rfl,hw2⟩
  rw [e2] at hw2
  subst hw2
  clear a0 a1 a2 a3 a4 a5 a6 a7 a8 a9 a10 e0 e1' e2' e3' e4' e5 e6 e7 e8 e9 e10 b0 b1 b2 b3 b4 h0 h1 h2 h3 h4
  have u1:=g2.c.cell 1
  have uf1:=g2.c.frozen 1
  simp only [List.getElem?_cons_succ,List.getElem?_cons_zero] at u1
  obtain ⟨⟨a0,a1,a2,a3,a4,a5,a6,a7,a8,a9,a10⟩,⟨e0,e1',e2',e3',e4',e5,e6,e7,e8,e9,e10⟩⟩:=has11G g3.c
  obtain ⟨⟨b0,b1,b2,b3,b4⟩,⟨h0,h1,h2,h3,h4⟩⟩:=has5 g3.d
  have W9:=Lib.hid (WC.out _ g3.bel)
  go_wp2_with fail
  refine W9.out.mono ?_;rintro e w9 ⟨g9,c9,rfl,row9,hb9,ge9⟩
  have x9:=g3.below hb9
  have lt9:w.heap.size+4≤g9:=Nat.le_trans g3.lt ge9
  clear a0 a1 a2 a3 a4 a5 a6 a7 a8 a9 a10 e0 e1' e2' e3' e4' e5 e6 e7 e8 e9 e10 b0 b1 b2 b3 b4 h0 h1 h2 h3 h4
  clear W9 hb9 ge9
  obtain ⟨Wa,ea,y9,ch9⟩:=x9.setD 2 (.slice (some ⟨g9,0,none⟩) (k+1) c9)
  obtain ⟨⟨_,_,z2,_,_⟩,⟨_,_,zf2,_,_⟩⟩:=has5 x9.d
  have ROW:=Lib.hid (row9.chg ch9 (fun x hx=>by cases hx;simp only;omega) (fun x hx=>by cases hx;simp only;omega))
  clear row9 ch9 x9
  simp only [List.set_cons_zero,List.set_cons_succ] at y9
  obtain ⟨⟨a0,a1,a2,a3,a4,a5,a6,a7,a8,a9,a10⟩,⟨e0,e1',e2',e3',e4',e5,e6,e7,e8,e9,e10⟩⟩:=has11G y9.c
  obtain ⟨⟨b0,b1,b2,b3,b4⟩,⟨h0,h1,h2,h3,h4⟩⟩:=has5 y9.d
  obtain ⟨⟨m0,m1,m2,m3,m4,m5,m6,m7,m8,m9,m10⟩,⟨f0,f1,f2,f3,f4,f5,f6,f7,f8,f9,f10⟩⟩:=has11G y9.rc
  obtain ⟨⟨n0,n1,n2,n3,n4⟩,⟨q0,q1,q2,q3,q4⟩⟩:=has5 y9.rd
  have GB:=Lib.hid y9.bel
  clear y9
  go_wp2_with fail
  go_region
  all_goals go_wp2_with fail
  all_goals refine bodyPost_ret (v:=.tuple #[.agg #[.int .u32 pc,.int .u32 rv,.int .u32 r1,.int .u32 r2,.int .u32 r3,.int .u32 r4,.int .u32 r5,.int .u32 r6,.int .u32 r7,.int .u32 b,.int .u32 s],.agg #[.slice RA n rc,.int .i64 tv,.slice (some ⟨g9,0,none⟩) (k+1) c9,.bool false,.int .u32 cd]]) (by simp [results,Tryz.results87,go_sem,m0,m1,m2,m3,m4,m5,m6,m7,m8,m9,m10,n0,n1,n2,n3,n4]) rfl ?_
  all_goals obtain ⟨x1,x2⟩:=gst16 GB.out (.int .u32 pc) (.int .u32 rv) (.int .u32 r1) (.int .u32 r2) (.int .u32 r3) (.int .u32 r4) (.int .u32 r5) (.int .u32 r6) (.int .u32 r7) (.int .u32 b) (.int .u32 s) (.slice RA n rc) (.int .i64 tv) (.slice (some ⟨g9,0,none⟩) (k+1) c9) (.bool false) (.int .u32 cd)
  all_goals exact ⟨_,c9,rfl,ROW.out.chg x1 (fun x hx=>by cases hx;simp only;omega) (fun x hx=>by cases hx;simp only;omega),x2,fun x hx=>by cases hx;simp only;omega⟩
set_option maxRecDepth 100000 in
set_option maxHeartbeats 8000000 in
theorem do_3 (pc r0 r1 r2 r3 r4 r5 r6 r7 b s:Int) (pv:Option Addr) (RA:Option Addr) (rc n:Nat) (tk cd:Int) (T:Option Addr) (ct k:Nat) (tr:List Ev) (sv:Int) (w:World) (WC:Hid (∀ w',Below w.heap.size w w'→Calls Tryz.prog 104 #[.slice T k ct,.agg #[.int .i64 3,.int .u32 sv]] w' (WithP w' tr k (3,sv))))
    (SC:Hid (∀ w',Below w.heap.size w w'→Calls Tryz.prog 103 #[.agg #[.int .u32 pc,.int .u32 r0,.int .u32 r1,.int .u32 r2,.int .u32 r3,.int .u32 r4,.int .u32 r5,.int .u32 r6,.int .u32 r7,.int .u32 b,.int .u32 s],.pointer pv] w' fun e w''=>e=.returned (.int .u32 sv)∧Below w'.heap.size w' w'')) :
    Calls Tryz.prog 87 #[.agg #[.int .u32 pc,.int .u32 r0,.int .u32 r1,.int .u32 r2,.int .u32 r3,.int .u32 r4,.int .u32 r5,.int .u32 r6,.int .u32 r7,.int .u32 b,.int .u32 s],.pointer pv,.agg #[.slice RA n rc,.int .i64 tk,.slice T k ct,.bool false,.int .u32 cd],.int .i64 3] w fun e w'=>∃ A9 c9,e=.returned (.tuple #[.agg #[.int .u32 pc,.int .u32 sv,.int .u32 r1,.int .u32 r2,.int .u32 r3,.int .u32 r4,.int .u32 r5,.int .u32 r6,.int .u32 r7,.int .u32 b,.int .u32 s],.agg #[.slice RA n rc,.int .i64 tk,.slice A9 (k+1) c9,.bool false,.int .u32 cd]])∧EvRow w' A9 c9 (tr ++ [(3,sv)])∧Below w.heap.size w w'∧∀ x,A9=some x→w.heap.size≤x.block:=by
  obtain ⟨G1,e1,g1⟩:=GdS.new w [.int .u32 pc,.int .u32 r0,.int .u32 r1,.int .u32 r2,.int .u32 r3,.int .u32 r4,.int .u32 r5,.int .u32 r6,.int .u32 r7,.int .u32 b,.int .u32 s] [.slice RA n rc,.int .i64 tk,.slice T k ct,.bool false,.int .u32 cd]
  have S1:=Lib.hid (SC.out G1 g1.bel)
  obtain ⟨⟨a0,a1,a2,a3,a4,a5,a6,a7,a8,a9,a10⟩,⟨e0,e1',e2',e3',e4',e5,e6,e7,e8,e9,e10⟩⟩:=has11G g1.c
  obtain ⟨⟨b0,b1,b2,b3,b4⟩,⟨h0,h1,h2,h3,h4⟩⟩:=has5 g1.d
  go_enter Tryz.func87,Tryz.ntmps87
  go_wp2_with fail
  refine S1.out.mono ?_;rintro e w2 ⟨rfl,hb2⟩
  have g2:=g1.below hb2
  clear a0 a1 a2 a3 a4 a5 a6 a7 a8 a9 a10 e0 e1' e2' e3' e4' e5 e6 e7 e8 e9 e10 b0 b1 b2 b3 b4 h0 h1 h2 h3 h4
  clear hb2 S1
  obtain ⟨G3,e3,g3,_⟩:=g2.setC 1 (.int .u32 sv)
  simp only [List.set_cons_zero,List.set_cons_succ] at g3
  have u1:=g2.c.cell 1
  have uf1:=g2.c.frozen 1
  simp only [List.getElem?_cons_succ,List.getElem?_cons_zero] at u1
  obtain ⟨⟨a0,a1,a2,a3,a4,a5,a6,a7,a8,a9,a10⟩,⟨e0,e1',e2',e3',e4',e5,e6,e7,e8,e9,e10⟩⟩:=has11G g3.c
  obtain ⟨⟨b0,b1,b2,b3,b4⟩,⟨h0,h1,h2,h3,h4⟩⟩:=has5 g3.d
  have W9:=Lib.hid (WC.out _ g3.bel)
  go_wp2_with fail
  refine W9.out.mono ?_;rintro e w9 ⟨g9,c9,rfl,row9,hb9,ge9⟩
  have x9:=g3.below hb9
  have lt9:w.heap.size+4≤g9:=Nat.le_trans g3.lt ge9
  clear a0 a1 a2 a3 a4 a5 a6 a7 a8 a9 a10 e0 e1' e2' e3' e4' e5 e6 e7 e8 e9 e10 b0 b1 b2 b3 b4 h0 h1 h2 h3 h4
  clear W9 hb9 ge9
  obtain ⟨Wa,ea,y9,ch9⟩:=x9.setD 2 (.slice (some ⟨g9,0,none⟩) (k+1) c9)
  obtain ⟨⟨_,_,z2,_,_⟩,⟨_,_,zf2,_,_⟩⟩:=has5 x9.d
  have ROW:=Lib.hid (row9.chg ch9 (fun x hx=>by cases hx;simp only;omega) (fun x hx=>by cases hx;simp only;omega))
  clear row9 ch9 x9
  simp only [List.set_cons_zero,List.set_cons_succ] at y9
  obtain ⟨⟨a0,a1,a2,a3,a4,a5,a6,a7,a8,a9,a10⟩,⟨e0,e1',e2',e3',e4',e5,e6,e7,e8,e9,e10⟩⟩:=has11G y9.c
  obtain ⟨⟨b0,b1,b2,b3,b4⟩,⟨h0,h1,h2,h3,h4⟩⟩:=has5 y9.d
  obtain ⟨⟨m0,m1,m2,m3,m4,m5,m6,m7,m8,m9,m10⟩,⟨f0,f1,f2,f3,f4,f5,f6,f7,f8,f9,f10⟩⟩:=has11G y9.rc
  obtain ⟨⟨n0,n1,n2,n3,n4⟩,⟨q0,q1,q2,q3,q4⟩⟩:=has5 y9.rd
  have GB:=Lib.hid y9.bel
  clear y9
  go_wp2_with fail
  go_region
  all_goals go_wp2_with fail
  all_goals refine bodyPost_ret (v:=.tuple #[.agg #[.int .u32 pc,.int .u32 sv,.int .u32 r1,.int .u32 r2,.int .u32 r3,.int .u32 r4,.int .u32 r5,.int .u32 r6,.int .u32 r7,.int .u32 b,.int .u32 s],.agg #[.slice RA n rc,.int .i64 tk,.slice (some ⟨g9,0,none⟩) (k+1) c9,.bool false,.int .u32 cd]]) (by simp [results,Tryz.results87,go_sem,m0,m1,m2,m3,m4,m5,m6,m7,m8,m9,m10,n0,n1,n2,n3,n4]) rfl ?_
  all_goals obtain ⟨x1,x2⟩:=gst16 GB.out (.int .u32 pc) (.int .u32 sv) (.int .u32 r1) (.int .u32 r2) (.int .u32 r3) (.int .u32 r4) (.int .u32 r5) (.int .u32 r6) (.int .u32 r7) (.int .u32 b) (.int .u32 s) (.slice RA n rc) (.int .i64 tk) (.slice (some ⟨g9,0,none⟩) (k+1) c9) (.bool false) (.int .u32 cd)
  all_goals exact ⟨_,c9,rfl,ROW.out.chg x1 (fun x hx=>by cases hx;simp only;omega) (fun x hx=>by cases hx;simp only;omega),x2,fun x hx=>by cases hx;simp only;omega⟩
def DoGP2 (w:World) (RA:Option Addr) (rc:Nat) (TA0:Option Addr) (tc0:Nat) (tr0:List Ev) (r:Cp×Wd) (e:Ending) (w':World):Prop:=
  ∃ TA tc,e=.returned (.tuple #[r.1.val,r.2.val RA rc TA tc])∧KRow .u32 w' RA rc r.2.rep∧EvRow w' TA tc r.2.tr∧Below w.heap.size w w'∧((TA=TA0∧tc=tc0∧r.2.tr=tr0)∨∀ y,TA=some y→w.heap.size≤y.block)
def DoGC2:Prop:=∀ (c:Cp) (pv:Option Addr) (W:Wd) (n sum:Int),c.Ok→W.Ok→(-9223372036854775808≤n∧n≤9223372036854775807)→∀ (w:World) (RA:Option Addr) (rc:Nat) (TA:Option Addr) (tc:Nat),
  KRow .u32 w RA rc W.rep→EvRow w TA tc W.tr→(n=3→W.ov=false→SumIs w c pv sum) →
  Calls Tryz.prog 87 #[c.val,.pointer pv,W.val RA rc TA tc,.int .i64 n] w (DoGP2 w RA rc TA tc W.tr (gateS c sum W n))
set_option maxHeartbeats 4000000 in
theorem do_code2:DoGC2:=by
  intro c pv W n sum o oW hn w RA rc TA tc RK RT HS
  have u0:=o.reg 0 (by omega) (by omega)
  have SUM:=Lib.hid (fun (h3:n=3) (hov:W.ov=false)=>HS h3 hov)
  have WITH:=Lib.hid (fun (y:Ev) (hy:evWf y) w' (b:Below w.heap.size w w')=>with_code TA tc W.tr.length W.tr rfl oW.tr y.1 y.2 hy w' (RT.below b))
  have TAKE:=Lib.hid (fun w' (b:Below w.heap.size w w') (H:HasB w' (w.heap.size+1) 80 [.slice RA W.rep.length rc,.int .i64 W.tk,.slice TA W.tr.length tc,.bool W.ov,.int .u32 W.cd])=>
    take_code w' (w.heap.size+1) W oW RA rc TA tc H (RK.below b) (fun hne x hx=>by
      obtain ⟨p,hp,hlt,_⟩:=RK.2.2.2 hne
      rw [hp] at hx
      cases hx
      omega))
  have SC:=Lib.hid (fun p g h B T (m:MemAt w p g h B T) w' (b:Below w.heap.size w w')=>sum_code c o w' p g h B T (m.below b))
  clear HS
  obtain ⟨r0,r1,r2,r3,r4,r5,r6,r7,hr⟩:=o.eight
  obtain ⟨pc,r,b,s⟩:=c
  simp only at hr
  subst hr
  obtain ⟨rep,tk,tr,ov,cd⟩:=W
  have hlen:∀ x:Ev,(tr ++ [x]).length=tr.length+1:=fun x=>by simp
  have VAL:(⟨pc,[r0,r1,r2,r3,r4,r5,r6,r7],b,s⟩:Cp).val=.agg #[.int .u32 pc,.int .u32 r0,.int .u32 r1,.int .u32 r2,.int .u32 r3,.int .u32 r4,.int .u32 r5,.int .u32 r6,.int .u32 r7,.int .u32 b,.int .u32 s]:=rfl
  have SETV:∀ v,((⟨pc,[r0,r1,r2,r3,r4,r5,r6,r7],b,s⟩:Cp).setR 0 v).val=.agg #[.int .u32 pc,.int .u32 v,.int .u32 r1,.int .u32 r2,.int .u32 r3,.int .u32 r4,.int .u32 r5,.int .u32 r6,.int .u32 r7,.int .u32 b,.int .u32 s]:=fun v=>rfl
  have REG:(⟨pc,[r0,r1,r2,r3,r4,r5,r6,r7],b,s⟩:Cp).reg 0=r0:=rfl
  rw [REG] at u0
  unfold U32 at u0
  obtain ⟨hn0,hn1⟩:=hn
  cases ov
  · by_cases h0:n=0
    · subst h0
      refine (do_0 pc r0 r1 r2 r3 r4 r5 r6 r7 b s pv RA rc rep.length tk cd TA tc tr.length tr w (Lib.hid (WITH.out (0,r0) ⟨by simp,by simp only;omega⟩))).mono ?_
      rintro e w' ⟨A9,c9,rfl,row,bel,off⟩
      exact ⟨A9,c9,by show _=Ending.returned (.tuple #[_,.agg #[_,_,.slice A9 (tr ++ [((0:Int),r0)]).length c9,_,_]]);rw [hlen];rfl,RK.below bel,row,bel,.inr off⟩
    · by_cases h1:n=1
      · subst h1
        refine (do_1 pc r0 r1 r2 r3 r4 r5 r6 r7 b s pv RA rc rep.length tk cd TA tc tr.length tr w (Lib.hid (WITH.out (1,r0) ⟨by simp,by simp only;omega⟩))).mono ?_
        rintro e w' ⟨A9,c9,rfl,row,bel,off⟩
        exact ⟨A9,c9,by show _=Ending.returned (.tuple #[_,.agg #[_,_,.slice A9 (tr ++ [((1:Int),r0)]).length c9,_,_]]);rw [hlen];rfl,RK.below bel,row,bel,.inr off⟩
      · by_cases h2:n=2
        · subst h2
          have hv:U32 (repV ⟨rep,tk,tr,false,cd⟩):=by
            unfold repV
            split
            · rename_i hlt
              have hm:(max tk 0).toNat < rep.length:=by simp only at hlt;omega
              obtain ⟨_,_,_,hwf⟩:=RK.at hm
              have:=bounds_u32 hwf
              unfold U32
              simp only at this ⊢
              omega
            · unfold U32;omega
          generalize hrv:repV ⟨rep,tk,tr,false,cd⟩=rv at *
          generalize htv:repT ⟨rep,tk,tr,false,cd⟩=tv at *
          unfold U32 at hv
          refine (do_2 pc r0 r1 r2 r3 r4 r5 r6 r7 b s pv RA rc rep.length tk cd TA tc tr.length tr rv tv w (Lib.hid (WITH.out (2,rv) ⟨by simp,by simp only;omega⟩)) TAKE).mono ?_
          rintro e w' ⟨A9,c9,rfl,row,bel,off⟩
          have eg:gateS ⟨pc,[r0,r1,r2,r3,r4,r5,r6,r7],b,s⟩ sum ⟨rep,tk,tr,false,cd⟩ 2=((⟨pc,[r0,r1,r2,r3,r4,r5,r6,r7],b,s⟩:Cp).setR 0 rv,⟨rep,tv,tr ++ [(2,rv)],false,cd⟩):=by
            rw [← hrv,← htv];rfl
          rw [eg]
          exact ⟨A9,c9,by show _=Ending.returned (.tuple #[_,.agg #[_,_,.slice A9 (tr ++ [((2:Int),rv)]).length c9,_,_]]);rw [hlen];rfl,RK.below bel,row,bel,.inr off⟩
        · by_cases h3:n=3
          · subst h3
            obtain ⟨p,g,h,B,T,rfl,m,rfl⟩:=SUM.out rfl rfl
            have hv:U32 (sumV ⟨pc,[r0,r1,r2,r3,r4,r5,r6,r7],b,s⟩ B T):=by
              unfold sumV
              split
              · have:=fnvL_bd 2166136261 ((B.drop ((⟨pc,[r0,r1,r2,r3,r4,r5,r6,r7],b,s⟩:Cp).reg 0).toNat).take ((⟨pc,[r0,r1,r2,r3,r4,r5,r6,r7],b,s⟩:Cp).reg 1).toNat) (by omega) (by omega)
                unfold U32;omega
              · unfold U32;omega
            have S1:=SC.out p g h B T m
            generalize sumV ⟨pc,[r0,r1,r2,r3,r4,r5,r6,r7],b,s⟩ B T=sv at *
            unfold U32 at hv
            refine (do_3 pc r0 r1 r2 r3 r4 r5 r6 r7 b s (some ⟨p,0,none⟩) RA rc rep.length tk cd TA tc tr.length tr sv w (Lib.hid (WITH.out (3,sv) ⟨by simp,by simp only;omega⟩)) (Lib.hid S1)).mono ?_
            rintro e w' ⟨A9,c9,rfl,row,bel,off⟩
            exact ⟨A9,c9,by show _=Ending.returned (.tuple #[_,.agg #[_,_,.slice A9 (tr ++ [((3:Int),sv)]).length c9,_,_]]);rw [hlen];rfl,RK.below bel,row,bel,.inr off⟩
          · have eg:gateS ⟨pc,[r0,r1,r2,r3,r4,r5,r6,r7],b,s⟩ sum ⟨rep,tk,tr,false,cd⟩ n=(⟨pc,[r0,r1,r2,r3,r4,r5,r6,r7],b,s⟩,⟨rep,tk,tr,false,cd⟩):=by
              unfold gateS
              rw [if_neg (by simp),if_neg h0,if_neg h1,if_neg h2,if_neg h3]
            rw [eg]
            refine (do_none pc r0 r1 r2 r3 r4 r5 r6 r7 b s pv RA rc rep.length tk cd TA tc tr.length w n ⟨h0,h1,h2,h3⟩).mono ?_
            rintro e w' ⟨rfl,bel⟩
            exact ⟨TA,tc,rfl,RK.below bel,RT.below bel,bel,.inl ⟨rfl,rfl,rfl⟩⟩
  · have eg:=gateS_over ⟨pc,[r0,r1,r2,r3,r4,r5,r6,r7],b,s⟩ sum ⟨rep,tk,tr,true,cd⟩ n rfl
    rw [eg]
    refine (do_over pc r0 r1 r2 r3 r4 r5 r6 r7 b s pv RA rc rep.length tk cd TA tc tr.length w n).mono ?_
    rintro e w' ⟨rfl,bel⟩
    exact ⟨TA,tc,rfl,RK.below bel,RT.below bel,bel,.inl ⟨rfl,rfl,rfl⟩⟩
end Go.Proofs.YteefmjhemhlapaaGreat.Mm
