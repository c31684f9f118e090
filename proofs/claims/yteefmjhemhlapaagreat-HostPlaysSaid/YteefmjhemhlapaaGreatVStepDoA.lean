/- A step of package step: its walks. -/
import Derived.Test.YteefmjhemhlapaaGreatVStepObey
import Derived.Test.YteefmjhemhlapaaGreatVIsB
namespace Go.Proofs.YteefmjhemhlapaaGreat.Mm
open Go.ChangeShapes Go.WideShapes Go.ChangeAt Go.RowKit
set_option linter.unusedVariables false
set_option maxRecDepth 10000
theorem has11 {w:World} {g:Nat} {t:TypeId} {v0 v1 v2 v3 v4 v5 v6 v7 v8 v9 v10:Value} (k:HasB w g t [v0,v1,v2,v3,v4,v5,v6,v7,v8,v9,v10]) :
    (w.cell? ⟨g,0,none⟩=some v0∧w.cell? ⟨g,1,none⟩=some v1∧w.cell? ⟨g,2,none⟩=some v2∧w.cell? ⟨g,3,none⟩=some v3∧w.cell? ⟨g,4,none⟩=some v4∧w.cell? ⟨g,5,none⟩=some v5∧w.cell? ⟨g,6,none⟩=some v6∧w.cell? ⟨g,7,none⟩=some v7∧w.cell? ⟨g,8,none⟩=some v8∧w.cell? ⟨g,9,none⟩=some v9∧w.cell? ⟨g,10,none⟩=some v10) ∧
    (w.frozen? ⟨g,0,none⟩=false∧w.frozen? ⟨g,1,none⟩=false∧w.frozen? ⟨g,2,none⟩=false∧w.frozen? ⟨g,3,none⟩=false∧w.frozen? ⟨g,4,none⟩=false∧w.frozen? ⟨g,5,none⟩=false∧w.frozen? ⟨g,6,none⟩=false∧w.frozen? ⟨g,7,none⟩=false∧w.frozen? ⟨g,8,none⟩=false∧w.frozen? ⟨g,9,none⟩=false∧w.frozen? ⟨g,10,none⟩=false):=
  ⟨⟨k.cell 0,k.cell 1,k.cell 2,k.cell 3,k.cell 4,k.cell 5,k.cell 6,k.cell 7,k.cell 8,k.cell 9,k.cell 10⟩,⟨k.frozen 0,k.frozen 1,k.frozen 2,k.frozen 3,k.frozen 4,k.frozen 5,k.frozen 6,k.frozen 7,k.frozen 8,k.frozen 9,k.frozen 10⟩⟩
theorem has2 {w:World} {g:Nat} {t:TypeId} {v0 v1:Value} (k:HasB w g t [v0,v1]):(w.cell? ⟨g,0,none⟩=some v0∧w.cell? ⟨g,1,none⟩=some v1)∧(w.frozen? ⟨g,0,none⟩=false∧w.frozen? ⟨g,1,none⟩=false):=
  ⟨⟨k.cell 0,k.cell 1⟩,⟨k.frozen 0,k.frozen 1⟩⟩
structure DoS (w:World) (p g h:Nat) (B:List Int) (T:List Bool) (pc r0 r1 r2 r3 r4 r5 r6 r7 b s:Int) (W:World):Prop where
  m:MemAt W p g h B T
  c:HasB W w.heap.size 77 [.int .u32 pc,.int .u32 r0,.int .u32 r1,.int .u32 r2,.int .u32 r3,.int .u32 r4,.int .u32 r5,.int .u32 r6,.int .u32 r7,.int .u32 b,.int .u32 s]
  d:HasB W (w.heap.size+1) 77 [.int .u32 0,.int .u32 0,.int .u32 0,.int .u32 0,.int .u32 0,.int .u32 0,.int .u32 0,.int .u32 0,.int .u32 0,.int .u32 0,.int .u32 0]
  o:HasB W (w.heap.size+1+1) 137 [.int .i64 0,.int .i64 0]
  bel:Below w.heap.size w W
theorem DoS.below {w W W':World} {p g h:Nat} {B:List Int} {T:List Bool} {pc r0 r1 r2 r3 r4 r5 r6 r7 b s:Int} (k:DoS w p g h B T pc r0 r1 r2 r3 r4 r5 r6 r7 b s W) (hb:Below W.heap.size W W'):DoS w p g h B T pc r0 r1 r2 r3 r4 r5 r6 r7 b s W':=
  ⟨k.m.below hb,k.c.below hb,k.d.below hb,k.o.below hb,bel_then k.bel hb⟩
theorem DoS.new {w:World} {p g h:Nat} {B:List Int} {T:List Bool} (m:MemAt w p g h B T) (pc r0 r1 r2 r3 r4 r5 r6 r7 b s:Int) :
    ∃ W,((w.alloc (.cells #[.int .u32 pc,.int .u32 r0,.int .u32 r1,.int .u32 r2,.int .u32 r3,.int .u32 r4,.int .u32 r5,.int .u32 r6,.int .u32 r7,.int .u32 b,.int .u32 s] 77)).alloc (.cells #[.int .u32 0,.int .u32 0,.int .u32 0,.int .u32 0,.int .u32 0,.int .u32 0,.int .u32 0,.int .u32 0,.int .u32 0,.int .u32 0,.int .u32 0] 77)).alloc (.cells #[.int .i64 0,.int .i64 0] 137)=W∧DoS w p g h B T pc r0 r1 r2 r3 r4 r5 r6 r7 b s W:=by
  refine ⟨_,rfl,m.below (bel_al (bel_al (bel_al (Below.refl _ _) _) _) _),?_,?_,?_,bel_al (bel_al (bel_al (Below.refl _ _) _) _) _⟩
  · exact (((HasB.newAt w _ _ _ rfl).al _).al _)
  · exact ((HasB.newAt _ _ _ _ (by simp)).al _)
  · exact HasB.newAt _ _ _ _ (by simp)
theorem DoS.ins {w W:World} {p g h I:Nat} {B:List Int} {T:List Bool} {pc r0 r1 r2 r3 r4 r5 r6 r7 b s:Int} {cs:List Value} (k:DoS w p g h B T pc r0 r1 r2 r3 r4 r5 r6 r7 b s W) (hI:HasB W I 134 cs) (hgt:w.heap.size+1+1 < I) (v0 v1 v2 v3:Value) :
    DoS w p g h B T pc r0 r1 r2 r3 r4 r5 r6 r7 b s ((((W.setCell ⟨I,0,none⟩ v0).setCell ⟨I,1,none⟩ v1).setCell ⟨I,2,none⟩ v2).setCell ⟨I,3,none⟩ v3):=by
  have c:Chg I I W ((((W.setCell ⟨I,0,none⟩ v0).setCell ⟨I,1,none⟩ v1).setCell ⟨I,2,none⟩ v2).setCell ⟨I,3,none⟩ v3):=chg_set (chg_set (chg_set (chg_set (Chg.refl _ _ _) _ (.inl rfl) _ _) _ (.inl rfl) _ _) _ (.inl rfl) _ _) _ (.inl rfl) _ _
  have a1:=k.m.own.ne hI (by decide)
  have a2:=k.m.bytes.ne hI (by decide)
  have a3:=k.m.zones.ne hI (by decide)
  exact ⟨k.m.chg c a1 a1 a2 a2 a3 a3,k.c.chg c (by omega) (by omega),k.d.chg c (by omega) (by omega),k.o.chg c (by omega) (by omega),c.below k.bel k.bel.size (by omega) (by omega)⟩
theorem st13 {w W:World} {p g h:Nat} {B:List Int} {T:List Bool} {ds os:List Value} (m:MemAt W p g h B T) (d:HasB W (w.heap.size+1) 77 ds) (o:HasB W (w.heap.size+1+1) 137 os) (c:Chg g g w W) (v0 v1 v2 v3 v4 v5 v6 v7 v8 v9 v10 u0 u1:Value) :
    let w':=(((((((((((((W.setCell ⟨w.heap.size+1,0,none⟩ v0).setCell ⟨w.heap.size+1,1,none⟩ v1).setCell ⟨w.heap.size+1,2,none⟩ v2).setCell ⟨w.heap.size+1,3,none⟩ v3).setCell ⟨w.heap.size+1,4,none⟩ v4).setCell ⟨w.heap.size+1,5,none⟩ v5).setCell ⟨w.heap.size+1,6,none⟩ v6).setCell ⟨w.heap.size+1,7,none⟩ v7).setCell ⟨w.heap.size+1,8,none⟩ v8).setCell ⟨w.heap.size+1,9,none⟩ v9).setCell ⟨w.heap.size+1,10,none⟩ v10).setCell ⟨w.heap.size+1+1,0,none⟩ u0).setCell ⟨w.heap.size+1+1,1,none⟩ u1)
    MemAt w' p g h B T∧Chg g g w w':=by
  intro w'
  have c1:Chg (w.heap.size+1) (w.heap.size+1+1) W w':=chg_set (chg_set (chg_set (chg_set (chg_set (chg_set (chg_set (chg_set (chg_set (chg_set (chg_set (chg_set (chg_set (Chg.refl _ _ _) _ (.inl rfl) _ _) _ (.inl rfl) _ _) _ (.inl rfl) _ _) _ (.inl rfl) _ _) _ (.inl rfl) _ _) _ (.inl rfl) _ _) _ (.inl rfl) _ _) _ (.inl rfl) _ _) _ (.inl rfl) _ _) _ (.inl rfl) _ _) _ (.inl rfl) _ _) _ (.inr rfl) _ _) _ (.inr rfl) _ _
  exact ⟨m.chg c1 (m.own.ne d (by decide)) (m.own.ne o (by decide)) (m.bytes.ne d (by decide)) (m.bytes.ne o (by decide)) (m.zones.ne d (by decide)) (m.zones.ne o (by decide)),chg_new (chg_new (chg_new (chg_new (chg_new (chg_new (chg_new (chg_new (chg_new (chg_new (chg_new (chg_new (chg_new (c) _ (by omega) _ _) _ (by omega) _ _) _ (by omega) _ _) _ (by omega) _ _) _ (by omega) _ _) _ (by omega) _ _) _ (by omega) _ _) _ (by omega) _ _) _ (by omega) _ _) _ (by omega) _ _) _ (by omega) _ _) _ (by omega) _ _) _ (by omega) _ _⟩
def DoP (w:World) (p g h:Nat) (T:List Bool) (o:Ou) (e:Ending) (w':World):Prop:=
  e=.returned (.tuple #[o.c.val,.agg #[.int .i64 o.what,.int .i64 o.gate]])∧MemAt w' p g h o.B T∧Chg g g w w'
set_option maxRecDepth 100000 in
set_option maxHeartbeats 4000000 in
theorem do_empty {w:World} {p g h:Nat} {B:List Int} {T:List Bool} (m:MemAt w p g h B T) (pc r0 r1 r2 r3 r4 r5 r6 r7 b s:Int) (h0:0≤pc) (h1:pc < 4294967296) (hc:codeL B T pc=[]) :
    Calls Tryz.prog 75 #[.agg #[.int .u32 pc,.int .u32 r0,.int .u32 r1,.int .u32 r2,.int .u32 r3,.int .u32 r4,.int .u32 r5,.int .u32 r6,.int .u32 r7,.int .u32 b,.int .u32 s],.pointer (some ⟨p,0,none⟩)] w (DoP w p g h T ⟨⟨pc,[r0,r1,r2,r3,r4,r5,r6,r7],b,s⟩,B,3,0⟩):=by
  obtain ⟨W,e1,k⟩:=DoS.new m pc r0 r1 r2 r3 r4 r5 r6 r7 b s
  have K:=Lib.hid k
  have y0:=k.c.cell 0
  simp only [List.getElem?_cons_zero] at y0
  have HC:=Lib.hid hc
  clear k m hc
  go_enter Tryz.func75,Tryz.ntmps75
  go_wp2_with fail
  refine (fetch_any K.out.m pc h0 h1).mono ?_;rintro e w1 ⟨A,cap,rfl,hr,hb⟩
  rw [HC.out]
  clear y0 e1 hr
  have K1:=Lib.hid (K.out.below hb)
  clear hb K
  obtain ⟨⟨c0,c1,c2,c3,c4,c5,c6,c7,c8,c9,c10⟩,_⟩:=has11 K1.out.c
  obtain ⟨⟨d0,d1,d2,d3,d4,d5,d6,d7,d8,d9,d10⟩,⟨f0,f1,f2,f3,f4,f5,f6,f7,f8,f9,f10⟩⟩:=has11 K1.out.d
  obtain ⟨⟨o0,o1⟩,⟨q0,q1⟩⟩:=has2 K1.out.o
  go_wp2_with fail
  refine bodyPost_ret (v:=.tuple #[.agg #[.int .u32 pc,.int .u32 r0,.int .u32 r1,.int .u32 r2,.int .u32 r3,.int .u32 r4,.int .u32 r5,.int .u32 r6,.int .u32 r7,.int .u32 b,.int .u32 s],.agg #[.int .i64 3,.int .i64 0]]) (by simp [results,Tryz.results75,go_sem,d0,d1,d2,d3,d4,d5,d6,d7,d8,d9,d10,o0,o1]) rfl ⟨rfl,?_⟩
  exact st13 K1.out.m K1.out.d K1.out.o (Chg.of K1.out.bel) _ _ _ _ _ _ _ _ _ _ _ _ _
set_option maxRecDepth 100000 in
set_option maxHeartbeats 4000000 in
theorem do_broken {w:World} {p g h:Nat} {B:List Int} {T:List Bool} (m:MemAt w p g h B T) (pc r0 r1 r2 r3 r4 r5 r6 r7 b s:Int) (h0:0≤pc) (h1:pc < 4294967296) (hc:codeL B T pc≠[]) (hn:rdB (codeL B T pc)=false) :
    Calls Tryz.prog 75 #[.agg #[.int .u32 pc,.int .u32 r0,.int .u32 r1,.int .u32 r2,.int .u32 r3,.int .u32 r4,.int .u32 r5,.int .u32 r6,.int .u32 r7,.int .u32 b,.int .u32 s],.pointer (some ⟨p,0,none⟩)] w (DoP w p g h T ⟨⟨pc,[r0,r1,r2,r3,r4,r5,r6,r7],b,s⟩,B,5,0⟩):=by
  obtain ⟨W,e1,k⟩:=DoS.new m pc r0 r1 r2 r3 r4 r5 r6 r7 b s
  have K:=Lib.hid k
  have y0:=k.c.cell 0
  simp only [List.getElem?_cons_zero] at y0
  have hl:(codeL B T pc).length≤6:=codeL_le B T pc
  have hl0:0 < (codeL B T pc).length:=List.length_pos_iff.2 hc
  obtain ⟨L,hL⟩:∃ L,codeL B T pc=L:=⟨_,rfl⟩
  have FE:=fun (W:World) (m:MemAt W p g h B T)=>fetch_any m pc h0 h1
  rw [hL] at FE hn hl hl0
  have HN:=Lib.hid hn
  replace FE:=Lib.hid FE
  obtain ⟨n,hLn⟩:∃ n,L.length=n:=⟨_,rfl⟩
  have HLn:=Lib.hid hLn
  rw [hLn] at hl hl0
  have g0:((n:Int) == 0)=false:=by rw [beq_eq_false_iff_ne];omega
  clear k m hc hn hL hLn
  go_enter Tryz.func75,Tryz.ntmps75
  go_wp2_with fail
  refine (FE.out _ K.out.m).mono ?_;rintro e w1 ⟨A,cap,rfl,hr,hb⟩
  rw [HLn.out]
  clear y0 e1
  have K1:=Lib.hid (K.out.below hb)
  clear hb K
  have HR:=Lib.hid hr
  clear hr
  go_wp2_with fail
  have RN:=Read_no L A cap 0 (by rw [HLn.out];omega) (.inr (.inr (by simpa using HN.out))) w1 HR.out
  rw [HLn.out] at RN
  refine RN.mono ?_;rintro e w2 ⟨rfl,hb⟩
  unfold insV
  clear RN
  have K2:=Lib.hid (K1.out.below hb)
  clear hb K1
  obtain ⟨W3,e3⟩:∃ W3,w2.alloc (.cells #[.int .i64 0,.int .i64 0,.int .i64 0,.int .u32 0] 134)=W3:=⟨_,rfl⟩
  have hI:HasB W3 w2.heap.size 134 [.int .i64 0,.int .i64 0,.int .i64 0,.int .u32 0]:=by rw [← e3];exact HasB.newAt _ _ _ _ rfl
  have hb3:Below w2.heap.size w2 W3:=by rw [← e3];exact bel_al (Below.refl _ _) _
  have K3:=Lib.hid (K2.out.below hb3)
  have t0:=hI.cell 0
  have t1:=hI.cell 1
  have t2:=hI.cell 2
  have t3:=hI.cell 3
  have u0:=hI.frozen 0
  have u1:=hI.frozen 1
  have u2:=hI.frozen 2
  have u3:=hI.frozen 3
  simp only [List.getElem?_cons_succ,List.getElem?_cons_zero] at t0 t1 t2 t3
  have z0:=K2.out.o.lt
  have K4:=Lib.hid (DoS.ins K3.out hI z0 (.int .i64 0) (.int .i64 0) (.int .i64 0) (.int .u32 0))
  have n0:¬ w2.heap.size=w.heap.size:=by omega
  have n1:¬ w2.heap.size=w.heap.size+1:=by omega
  have n2:¬ w2.heap.size=w.heap.size+1+1:=by omega
  have n3:¬ w.heap.size=w2.heap.size:=by omega
  have n4:¬ w.heap.size+1=w2.heap.size:=by omega
  have n5:¬ w.heap.size+1+1=w2.heap.size:=by omega
  clear hI K2 hb3
  obtain ⟨⟨c0,c1,c2,c3,c4,c5,c6,c7,c8,c9,c10⟩,_⟩:=has11 K3.out.c
  obtain ⟨⟨d0,d1,d2,d3,d4,d5,d6,d7,d8,d9,d10⟩,⟨f0,f1,f2,f3,f4,f5,f6,f7,f8,f9,f10⟩⟩:=has11 K3.out.d
  obtain ⟨⟨o0,o1⟩,⟨q0,q1⟩⟩:=has2 K3.out.o
  go_wp2_with fail
  refine bodyPost_ret (v:=.tuple #[.agg #[.int .u32 pc,.int .u32 r0,.int .u32 r1,.int .u32 r2,.int .u32 r3,.int .u32 r4,.int .u32 r5,.int .u32 r6,.int .u32 r7,.int .u32 b,.int .u32 s],.agg #[.int .i64 5,.int .i64 0]]) (by simp [results,Tryz.results75,go_sem,d0,d1,d2,d3,d4,d5,d6,d7,d8,d9,d10,o0,o1]) rfl ⟨rfl,?_⟩
  exact st13 K4.out.m K4.out.d K4.out.o (Chg.of K4.out.bel) _ _ _ _ _ _ _ _ _ _ _ _ _
end Go.Proofs.YteefmjhemhlapaaGreat.Mm
