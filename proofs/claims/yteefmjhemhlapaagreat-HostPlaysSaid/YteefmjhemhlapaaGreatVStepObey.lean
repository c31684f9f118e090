/- An instruction done by package step, on a processor that lies in the world. -/
import Derived.Test.YteefmjhemhlapaaGreatVStA
namespace Go.Proofs.YteefmjhemhlapaaGreat.Mm
open Go.ChangeShapes Go.WideShapes Go.ChangeAt Go.RowKit
set_option linter.unusedVariables false
set_option maxRecDepth 10000
def ObP (w:World) (p g h X:Nat) (T:List Bool) (o:Ou) (e:Ending) (w':World):Prop:=
  e=.returned (.agg #[.int .i64 o.what,.int .i64 o.gate])∧MemAt w' p g h o.B T∧(o.what=0∨o.what=2→HasB w' X 77 o.c.cs)∧Chg g X w w'
theorem ob_end {w W1:World} {p g h X j:Nat} {B:List Int} {T:List Bool} {cs cs':List Value} {u:Value} {wh ga:Value} (m:MemAt W1 p g h B T) (K1:HasB W1 X 77 cs) (K3:HasB W1 (w.heap.size+1) 137 [.int .i64 0,.int .i64 0]) (K4:Below w.heap.size w W1) (hl:X < w.heap.size) (hcs:cs.set j u=cs') :
    let w':=(((W1.setCell ⟨X,j,none⟩ u).setCell ⟨w.heap.size+1,0,none⟩ wh).setCell ⟨w.heap.size+1,1,none⟩ ga)
    MemAt w' p g h B T∧HasB w' X 77 cs'∧Chg g X w w':=by
  intro w'
  have n1:=m.own.ne K3 (by decide)
  have n2:=m.bytes.ne K3 (by decide)
  have n3:=m.zones.ne K3 (by decide)
  have x1:=m.own.ne K1 (by decide)
  have x2:=m.bytes.ne K1 (by decide)
  have x3:=m.zones.ne K1 (by decide)
  have hXO:X≠w.heap.size+1:=by omega
  have c1:Chg X (w.heap.size+1) W1 w':=chg_set (chg_set (chg_set (Chg.refl _ _ _) _ (.inl rfl) _ _) _ (.inr rfl) _ _) _ (.inr rfl) _ _
  refine ⟨m.chg c1 x1 n1 x2 n2 x3 n3,?_,?_⟩
  · rw [← hcs]
    exact has_far (has_far (has_set K1 j _) hXO 0 _) hXO 1 _
  · exact chg_new (chg_new (chg_set (Chg.of K4) X (.inr rfl) _ _) _ (by omega) _ _) _ (by omega) _ _
theorem ob_end0 {w W1:World} {p g h X:Nat} {B:List Int} {T:List Bool} {cs:List Value} {wh ga:Value} (m:MemAt W1 p g h B T) (K1:HasB W1 X 77 cs) (K3:HasB W1 (w.heap.size+1) 137 [.int .i64 0,.int .i64 0]) (K4:Below w.heap.size w W1) (hl:X < w.heap.size) :
    let w':=((W1.setCell ⟨w.heap.size+1,0,none⟩ wh).setCell ⟨w.heap.size+1,1,none⟩ ga)
    MemAt w' p g h B T∧HasB w' X 77 cs∧Chg g X w w':=by
  intro w'
  have n1:=m.own.ne K3 (by decide)
  have n2:=m.bytes.ne K3 (by decide)
  have n3:=m.zones.ne K3 (by decide)
  have hXO:X≠w.heap.size+1:=by omega
  have c1:Chg (w.heap.size+1) (w.heap.size+1) W1 w':=chg_set (chg_set (Chg.refl _ _ _) _ (.inl rfl) _ _) _ (.inl rfl) _ _
  exact ⟨m.chg c1 n1 n1 n2 n2 n3 n3,has_far (has_far K1 hXO 0 _) hXO 1 _,chg_new (chg_new (Chg.of K4) _ (by omega) _ _) _ (by omega) _ _⟩
theorem ob_end2 {w w2:World} {p g h X:Nat} {B:List Int} {T:List Bool} {cs:List Value} {wh ga:Value} (m:MemAt w2 p g h B T) (K1:HasB w2 X 77 cs) (K3:HasB w2 (w.heap.size+1) 137 [.int .i64 0,.int .i64 0]) (c:Chg g X w w2) (hl:X < w.heap.size) :
    let w':=((w2.setCell ⟨w.heap.size+1,0,none⟩ wh).setCell ⟨w.heap.size+1,1,none⟩ ga)
    MemAt w' p g h B T∧HasB w' X 77 cs∧Chg g X w w':=by
  intro w'
  have n1:=m.own.ne K3 (by decide)
  have n2:=m.bytes.ne K3 (by decide)
  have n3:=m.zones.ne K3 (by decide)
  have hXO:X≠w.heap.size+1:=by omega
  have c1:Chg (w.heap.size+1) (w.heap.size+1) w2 w':=chg_set (chg_set (Chg.refl _ _ _) _ (.inl rfl) _ _) _ (.inl rfl) _ _
  exact ⟨m.chg c1 n1 n1 n2 n2 n3 n3,has_far (has_far K1 hXO 0 _) hXO 1 _,chg_new (chg_new c _ (by omega) _ _) _ (by omega) _ _⟩
theorem Chg.l {g h:Nat} {w w':World} (c:Chg g g w w'):Chg g h w w':=⟨c.os,c.tape,c.output,c.size,fun k hk h1 _=>c.block k hk h1 h1⟩
theorem Chg.r {g h:Nat} {w w':World} (c:Chg h h w w'):Chg g h w w':=⟨c.os,c.tape,c.output,c.size,fun k hk _ h1=>c.block k hk h1 h1⟩
set_option maxRecDepth 100000 in
set_option maxHeartbeats 4000000 in
theorem obey_1 {w:World} {X p g h:Nat} {B:List Int} {T:List Bool} {d:Cp} (m:MemAt w p g h B T) (o:d.Ok) (hX:HasB w X 77 d.cs) (imm:Int) (a b:Nat) (ha:a < 8) (hb:b < 8) (hi:U32 imm) :
    Calls Tryz.prog 86 #[.pointer (some ⟨X,0,none⟩),.agg #[.int .i64 1,.int .i64 a,.int .i64 b,.int .u32 imm],.pointer (some ⟨p,0,none⟩)] w (ObP w p g h X T ⟨d.setR a imm,B,0,0⟩):=by
  have xa:=Cp.cs_reg o a ha
  have xb:=Cp.cs_reg o b hb
  obtain ⟨a0,a1⟩:=o.reg a (by omega) (by omega)
  obtain ⟨b0,b1⟩:=o.reg b (by omega) (by omega)
  obtain ⟨pc0,pc1⟩:=o.pc
  have hl:=hX.lt
  have A0:(0:Int)≤(a:Int):=by omega
  have A1:(a:Int) < 8:=by omega
  have B0:(0:Int)≤(b:Int):=by omega
  have B1:(b:Int) < 8:=by omega
  obtain ⟨i0,i1⟩:=hi
  obtain ⟨W1,e1,K1,K2,K3,K4⟩:=boxed hX 1 a b imm 0
  have HM:=Lib.hid (m.below K4)
  replace e1:(w.alloc (.cells #[.int .i64 1,.int .i64 a,.int .i64 b,.int .u32 imm] 134)).alloc (.cells #[.int .i64 0,.int .i64 0] 137)=W1:=e1
  have y0:=K2.cell 0
  have y1:=K2.cell 1
  have y2:=K2.cell 2
  have y3:=K2.cell 3
  have fo0:=K3.frozen 0
  have fo1:=K3.frozen 1
  have co0:=K3.cell 0
  have co1:=K3.cell 1
  have fx0:=K1.frozen 0
  have fxa:=K1.frozen (1+a)
  have xpc:=(K1.cell 0).trans Cp.cs_pc
  have xca:=(K1.cell (1+a)).trans xa
  have xcb:=(K1.cell (1+b)).trans xb
  simp only [List.getElem?_cons_succ,List.getElem?_cons_zero] at y0 y1 y2 y3 co0 co1
  replace K1:=Lib.hid K1
  replace K3:=Lib.hid K3
  replace K4:=Lib.hid K4
  clear hX m xa xb K2
  go_enter Tryz.func86,Tryz.ntmps86
  go_wp2_with fail
  go_region
  all_goals go_wp2_with fail
  refine bodyPost_ret (v:=.agg #[.int .i64 0,.int .i64 0]) (by simp [results,Tryz.results86,go_sem,co0,co1]) rfl ⟨rfl,?_⟩
  obtain ⟨q1,q2,q3⟩:=ob_end (wh:=.int .i64 0) (ga:=.int .i64 0) HM.out K1.out K3.out K4.out hl (Cp.cs_setR o a ha imm)
  exact ⟨q1.below (Below.refl _ _).drew,fun _=>drew_has q2,chg_drew q3⟩
set_option maxRecDepth 100000 in
set_option maxHeartbeats 4000000 in
theorem obey_2 {w:World} {X p g h:Nat} {B:List Int} {T:List Bool} {d:Cp} (m:MemAt w p g h B T) (o:d.Ok) (hX:HasB w X 77 d.cs) (imm:Int) (a b:Nat) (ha:a < 8) (hb:b < 8) (hi:U32 imm) :
    Calls Tryz.prog 86 #[.pointer (some ⟨X,0,none⟩),.agg #[.int .i64 2,.int .i64 a,.int .i64 b,.int .u32 imm],.pointer (some ⟨p,0,none⟩)] w (ObP w p g h X T ⟨d.setR a (d.reg b),B,0,0⟩):=by
  have xa:=Cp.cs_reg o a ha
  have xb:=Cp.cs_reg o b hb
  obtain ⟨a0,a1⟩:=o.reg a (by omega) (by omega)
  obtain ⟨b0,b1⟩:=o.reg b (by omega) (by omega)
  obtain ⟨pc0,pc1⟩:=o.pc
  have hl:=hX.lt
  have A0:(0:Int)≤(a:Int):=by omega
  have A1:(a:Int) < 8:=by omega
  have B0:(0:Int)≤(b:Int):=by omega
  have B1:(b:Int) < 8:=by omega
  obtain ⟨i0,i1⟩:=hi
  obtain ⟨W1,e1,K1,K2,K3,K4⟩:=boxed hX 2 a b imm 0
  have HM:=Lib.hid (m.below K4)
  replace e1:(w.alloc (.cells #[.int .i64 2,.int .i64 a,.int .i64 b,.int .u32 imm] 134)).alloc (.cells #[.int .i64 0,.int .i64 0] 137)=W1:=e1
  have y0:=K2.cell 0
  have y1:=K2.cell 1
  have y2:=K2.cell 2
  have y3:=K2.cell 3
  have fo0:=K3.frozen 0
  have fo1:=K3.frozen 1
  have co0:=K3.cell 0
  have co1:=K3.cell 1
  have fx0:=K1.frozen 0
  have fxa:=K1.frozen (1+a)
  have xpc:=(K1.cell 0).trans Cp.cs_pc
  have xca:=(K1.cell (1+a)).trans xa
  have xcb:=(K1.cell (1+b)).trans xb
  simp only [List.getElem?_cons_succ,List.getElem?_cons_zero] at y0 y1 y2 y3 co0 co1
  replace K1:=Lib.hid K1
  replace K3:=Lib.hid K3
  replace K4:=Lib.hid K4
  generalize d.reg b=rb at *
  clear hX m xa xb K2
  go_enter Tryz.func86,Tryz.ntmps86
  go_wp2_with fail
  go_region
  all_goals go_wp2_with fail
  refine bodyPost_ret (v:=.agg #[.int .i64 0,.int .i64 0]) (by simp [results,Tryz.results86,go_sem,co0,co1]) rfl ⟨rfl,?_⟩
  obtain ⟨q1,q2,q3⟩:=ob_end (wh:=.int .i64 0) (ga:=.int .i64 0) HM.out K1.out K3.out K4.out hl (Cp.cs_setR o a ha rb)
  exact ⟨q1.below (Below.refl _ _).drew,fun _=>drew_has q2,chg_drew q3⟩
set_option maxRecDepth 100000 in
set_option maxHeartbeats 4000000 in
theorem obey_19 {w:World} {X p g h:Nat} {B:List Int} {T:List Bool} {d:Cp} (m:MemAt w p g h B T) (o:d.Ok) (hX:HasB w X 77 d.cs) (imm:Int) (a b:Nat) (ha:a < 8) (hb:b < 8) (hi:U32 imm) :
    Calls Tryz.prog 86 #[.pointer (some ⟨X,0,none⟩),.agg #[.int .i64 19,.int .i64 a,.int .i64 b,.int .u32 imm],.pointer (some ⟨p,0,none⟩)] w (ObP w p g h X T ⟨d.setPc (IntKind.u32.wrap (d.pc+imm)),B,0,0⟩):=by
  have xa:=Cp.cs_reg o a ha
  have xb:=Cp.cs_reg o b hb
  obtain ⟨a0,a1⟩:=o.reg a (by omega) (by omega)
  obtain ⟨b0,b1⟩:=o.reg b (by omega) (by omega)
  obtain ⟨pc0,pc1⟩:=o.pc
  have hl:=hX.lt
  have A0:(0:Int)≤(a:Int):=by omega
  have A1:(a:Int) < 8:=by omega
  have B0:(0:Int)≤(b:Int):=by omega
  have B1:(b:Int) < 8:=by omega
  obtain ⟨i0,i1⟩:=hi
  obtain ⟨W1,e1,K1,K2,K3,K4⟩:=boxed hX 19 a b imm 0
  have HM:=Lib.hid (m.below K4)
  replace e1:(w.alloc (.cells #[.int .i64 19,.int .i64 a,.int .i64 b,.int .u32 imm] 134)).alloc (.cells #[.int .i64 0,.int .i64 0] 137)=W1:=e1
  have y0:=K2.cell 0
  have y1:=K2.cell 1
  have y2:=K2.cell 2
  have y3:=K2.cell 3
  have fo0:=K3.frozen 0
  have fo1:=K3.frozen 1
  have co0:=K3.cell 0
  have co1:=K3.cell 1
  have fx0:=K1.frozen 0
  have fxa:=K1.frozen (1+a)
  have xpc:=(K1.cell 0).trans Cp.cs_pc
  have xca:=(K1.cell (1+a)).trans xa
  have xcb:=(K1.cell (1+b)).trans xb
  simp only [List.getElem?_cons_succ,List.getElem?_cons_zero] at y0 y1 y2 y3 co0 co1
  replace K1:=Lib.hid K1
  replace K3:=Lib.hid K3
  replace K4:=Lib.hid K4
  clear hX m xa xb K2
  go_enter Tryz.func86,Tryz.ntmps86
  go_wp2_with fail
  go_region
  all_goals go_wp2_with fail
  refine bodyPost_ret (v:=.agg #[.int .i64 0,.int .i64 0]) (by simp [results,Tryz.results86,go_sem,co0,co1]) rfl ⟨rfl,?_⟩
  obtain ⟨q1,q2,q3⟩:=ob_end (wh:=.int .i64 0) (ga:=.int .i64 0) HM.out K1.out K3.out K4.out hl (Cp.cs_setPc _)
  exact ⟨q1.below (Below.refl _ _).drew,fun _=>drew_has q2,chg_drew q3⟩
set_option maxRecDepth 100000 in
set_option maxHeartbeats 4000000 in
theorem obey_21 {w:World} {X p g h:Nat} {B:List Int} {T:List Bool} {d:Cp} (m:MemAt w p g h B T) (o:d.Ok) (hX:HasB w X 77 d.cs) (imm:Int) (a b:Nat) (ha:a < 8) (hb:b < 8) (hi:U32 imm) :
    Calls Tryz.prog 86 #[.pointer (some ⟨X,0,none⟩),.agg #[.int .i64 21,.int .i64 a,.int .i64 b,.int .u32 imm],.pointer (some ⟨p,0,none⟩)] w (ObP w p g h X T ⟨d.setPc (d.reg a),B,0,0⟩):=by
  have xa:=Cp.cs_reg o a ha
  have xb:=Cp.cs_reg o b hb
  obtain ⟨a0,a1⟩:=o.reg a (by omega) (by omega)
  obtain ⟨b0,b1⟩:=o.reg b (by omega) (by omega)
  obtain ⟨pc0,pc1⟩:=o.pc
  have hl:=hX.lt
  have A0:(0:Int)≤(a:Int):=by omega
  have A1:(a:Int) < 8:=by omega
  have B0:(0:Int)≤(b:Int):=by omega
  have B1:(b:Int) < 8:=by omega
  obtain ⟨i0,i1⟩:=hi
  obtain ⟨W1,e1,K1,K2,K3,K4⟩:=boxed hX 21 a b imm 0
  have HM:=Lib.hid (m.below K4)
  replace e1:(w.alloc (.cells #[.int .i64 21,.int .i64 a,.int .i64 b,.int .u32 imm] 134)).alloc (.cells #[.int .i64 0,.int .i64 0] 137)=W1:=e1
  have y0:=K2.cell 0
  have y1:=K2.cell 1
  have y2:=K2.cell 2
  have y3:=K2.cell 3
  have fo0:=K3.frozen 0
  have fo1:=K3.frozen 1
  have co0:=K3.cell 0
  have co1:=K3.cell 1
  have fx0:=K1.frozen 0
  have fxa:=K1.frozen (1+a)
  have xpc:=(K1.cell 0).trans Cp.cs_pc
  have xca:=(K1.cell (1+a)).trans xa
  have xcb:=(K1.cell (1+b)).trans xb
  simp only [List.getElem?_cons_succ,List.getElem?_cons_zero] at y0 y1 y2 y3 co0 co1
  replace K1:=Lib.hid K1
  replace K3:=Lib.hid K3
  replace K4:=Lib.hid K4
  generalize d.reg a=ra at *
  clear hX m xa xb K2
  go_enter Tryz.func86,Tryz.ntmps86
  go_wp2_with fail
  go_region
  all_goals go_wp2_with fail
  refine bodyPost_ret (v:=.agg #[.int .i64 0,.int .i64 0]) (by simp [results,Tryz.results86,go_sem,co0,co1]) rfl ⟨rfl,?_⟩
  obtain ⟨q1,q2,q3⟩:=ob_end (wh:=.int .i64 0) (ga:=.int .i64 0) HM.out K1.out K3.out K4.out hl (Cp.cs_setPc _)
  exact ⟨q1.below (Below.refl _ _).drew,fun _=>drew_has q2,chg_drew q3⟩
set_option maxRecDepth 100000 in
set_option maxHeartbeats 4000000 in
theorem obey_0 {w:World} {X p g h:Nat} {B:List Int} {T:List Bool} {d:Cp} (m:MemAt w p g h B T) (o:d.Ok) (hX:HasB w X 77 d.cs) (imm:Int) (a b:Nat) (ha:a < 8) (hb:b < 8) (hi:U32 imm) (c:Cp) :
    Calls Tryz.prog 86 #[.pointer (some ⟨X,0,none⟩),.agg #[.int .i64 0,.int .i64 a,.int .i64 b,.int .u32 imm],.pointer (some ⟨p,0,none⟩)] w (ObP w p g h X T ⟨c,B,1,0⟩):=by
  have xa:=Cp.cs_reg o a ha
  have xb:=Cp.cs_reg o b hb
  obtain ⟨a0,a1⟩:=o.reg a (by omega) (by omega)
  obtain ⟨b0,b1⟩:=o.reg b (by omega) (by omega)
  obtain ⟨pc0,pc1⟩:=o.pc
  have hl:=hX.lt
  have A0:(0:Int)≤(a:Int):=by omega
  have A1:(a:Int) < 8:=by omega
  have B0:(0:Int)≤(b:Int):=by omega
  have B1:(b:Int) < 8:=by omega
  obtain ⟨i0,i1⟩:=hi
  obtain ⟨W1,e1,K1,K2,K3,K4⟩:=boxed hX 0 a b imm 0
  have HM:=Lib.hid (m.below K4)
  replace e1:(w.alloc (.cells #[.int .i64 0,.int .i64 a,.int .i64 b,.int .u32 imm] 134)).alloc (.cells #[.int .i64 0,.int .i64 0] 137)=W1:=e1
  have y0:=K2.cell 0
  have y1:=K2.cell 1
  have y2:=K2.cell 2
  have y3:=K2.cell 3
  have fo0:=K3.frozen 0
  have fo1:=K3.frozen 1
  have co0:=K3.cell 0
  have co1:=K3.cell 1
  have fx0:=K1.frozen 0
  have fxa:=K1.frozen (1+a)
  have xpc:=(K1.cell 0).trans Cp.cs_pc
  have xca:=(K1.cell (1+a)).trans xa
  have xcb:=(K1.cell (1+b)).trans xb
  simp only [List.getElem?_cons_succ,List.getElem?_cons_zero] at y0 y1 y2 y3 co0 co1
  replace K1:=Lib.hid K1
  replace K3:=Lib.hid K3
  replace K4:=Lib.hid K4
  clear hX m xa xb K2
  go_enter Tryz.func86,Tryz.ntmps86
  go_wp2_with fail
  refine bodyPost_ret (v:=.agg #[.int .i64 1,.int .i64 0]) (by simp [results,Tryz.results86,go_sem,co0,co1]) rfl ⟨rfl,?_⟩
  obtain ⟨q1,q2,q3⟩:=ob_end0 (wh:=.int .i64 1) (ga:=.int .i64 0) HM.out K1.out K3.out K4.out hl
  exact ⟨q1,(by rintro (h | h) <;> cases h),q3⟩
set_option maxRecDepth 100000 in
set_option maxHeartbeats 4000000 in
theorem obey_22 {w:World} {X p g h:Nat} {B:List Int} {T:List Bool} {d:Cp} (m:MemAt w p g h B T) (o:d.Ok) (hX:HasB w X 77 d.cs) (imm:Int) (a b:Nat) (ha:a < 8) (hb:b < 8) (hi:U32 imm) :
    Calls Tryz.prog 86 #[.pointer (some ⟨X,0,none⟩),.agg #[.int .i64 22,.int .i64 a,.int .i64 b,.int .u32 imm],.pointer (some ⟨p,0,none⟩)] w (ObP w p g h X T ⟨d,B,2,imm⟩):=by
  have xa:=Cp.cs_reg o a ha
  have xb:=Cp.cs_reg o b hb
  obtain ⟨a0,a1⟩:=o.reg a (by omega) (by omega)
  obtain ⟨b0,b1⟩:=o.reg b (by omega) (by omega)
  obtain ⟨pc0,pc1⟩:=o.pc
  have hl:=hX.lt
  have A0:(0:Int)≤(a:Int):=by omega
  have A1:(a:Int) < 8:=by omega
  have B0:(0:Int)≤(b:Int):=by omega
  have B1:(b:Int) < 8:=by omega
  obtain ⟨i0,i1⟩:=hi
  obtain ⟨W1,e1,K1,K2,K3,K4⟩:=boxed hX 22 a b imm 0
  have HM:=Lib.hid (m.below K4)
  replace e1:(w.alloc (.cells #[.int .i64 22,.int .i64 a,.int .i64 b,.int .u32 imm] 134)).alloc (.cells #[.int .i64 0,.int .i64 0] 137)=W1:=e1
  have y0:=K2.cell 0
  have y1:=K2.cell 1
  have y2:=K2.cell 2
  have y3:=K2.cell 3
  have fo0:=K3.frozen 0
  have fo1:=K3.frozen 1
  have co0:=K3.cell 0
  have co1:=K3.cell 1
  have fx0:=K1.frozen 0
  have fxa:=K1.frozen (1+a)
  have xpc:=(K1.cell 0).trans Cp.cs_pc
  have xca:=(K1.cell (1+a)).trans xa
  have xcb:=(K1.cell (1+b)).trans xb
  simp only [List.getElem?_cons_succ,List.getElem?_cons_zero] at y0 y1 y2 y3 co0 co1
  replace K1:=Lib.hid K1
  replace K3:=Lib.hid K3
  replace K4:=Lib.hid K4
  clear hX m xa xb K2
  go_enter Tryz.func86,Tryz.ntmps86
  go_wp2_with fail
  refine bodyPost_ret (v:=.agg #[.int .i64 2,.int .i64 imm]) (by simp [results,Tryz.results86,go_sem,co0,co1]) rfl ⟨rfl,?_⟩
  obtain ⟨q1,q2,q3⟩:=ob_end0 (wh:=.int .i64 2) (ga:=.int .i64 imm) HM.out K1.out K3.out K4.out hl
  exact ⟨q1,fun _=>q2,q3⟩
set_option maxRecDepth 100000 in
set_option maxHeartbeats 4000000 in
theorem obey_23 {w:World} {X p g h:Nat} {B:List Int} {T:List Bool} {d:Cp} (m:MemAt w p g h B T) (o:d.Ok) (hX:HasB w X 77 d.cs) (imm:Int) (a b:Nat) (ha:a < 8) (hb:b < 8) (hi:U32 imm) :
    Calls Tryz.prog 86 #[.pointer (some ⟨X,0,none⟩),.agg #[.int .i64 23,.int .i64 a,.int .i64 b,.int .u32 imm],.pointer (some ⟨p,0,none⟩)] w (ObP w p g h X T ⟨d,B,0,0⟩):=by
  have xa:=Cp.cs_reg o a ha
  have xb:=Cp.cs_reg o b hb
  obtain ⟨a0,a1⟩:=o.reg a (by omega) (by omega)
  obtain ⟨b0,b1⟩:=o.reg b (by omega) (by omega)
  obtain ⟨pc0,pc1⟩:=o.pc
  have hl:=hX.lt
  have A0:(0:Int)≤(a:Int):=by omega
  have A1:(a:Int) < 8:=by omega
  have B0:(0:Int)≤(b:Int):=by omega
  have B1:(b:Int) < 8:=by omega
  obtain ⟨i0,i1⟩:=hi
  obtain ⟨W1,e1,K1,K2,K3,K4⟩:=boxed hX 23 a b imm 0
  have HM:=Lib.hid (m.below K4)
  replace e1:(w.alloc (.cells #[.int .i64 23,.int .i64 a,.int .i64 b,.int .u32 imm] 134)).alloc (.cells #[.int .i64 0,.int .i64 0] 137)=W1:=e1
  have y0:=K2.cell 0
  have y1:=K2.cell 1
  have y2:=K2.cell 2
  have y3:=K2.cell 3
  have fo0:=K3.frozen 0
  have fo1:=K3.frozen 1
  have co0:=K3.cell 0
  have co1:=K3.cell 1
  have fx0:=K1.frozen 0
  have fxa:=K1.frozen (1+a)
  have xpc:=(K1.cell 0).trans Cp.cs_pc
  have xca:=(K1.cell (1+a)).trans xa
  have xcb:=(K1.cell (1+b)).trans xb
  simp only [List.getElem?_cons_succ,List.getElem?_cons_zero] at y0 y1 y2 y3 co0 co1
  replace K1:=Lib.hid K1
  replace K3:=Lib.hid K3
  replace K4:=Lib.hid K4
  clear hX m xa xb K2
  go_enter Tryz.func86,Tryz.ntmps86
  go_wp2_with fail
  refine bodyPost_ret (v:=.agg #[.int .i64 0,.int .i64 0]) (by simp [results,Tryz.results86,go_sem,co0,co1]) rfl ⟨rfl,?_⟩
  obtain ⟨q1,q2,q3⟩:=ob_end0 (wh:=.int .i64 0) (ga:=.int .i64 0) HM.out K1.out K3.out K4.out hl
  exact ⟨q1,fun _=>q2,q3⟩
set_option maxRecDepth 100000 in
set_option maxHeartbeats 4000000 in
theorem obey_20y {w:World} {X p g h:Nat} {B:List Int} {T:List Bool} {d:Cp} (m:MemAt w p g h B T) (o:d.Ok) (hX:HasB w X 77 d.cs) (imm:Int) (a b:Nat) (ha:a < 8) (hb:b < 8) (hi:U32 imm) (hz:d.reg a=0) :
    Calls Tryz.prog 86 #[.pointer (some ⟨X,0,none⟩),.agg #[.int .i64 20,.int .i64 a,.int .i64 b,.int .u32 imm],.pointer (some ⟨p,0,none⟩)] w (ObP w p g h X T ⟨d.setPc (IntKind.u32.wrap (d.pc+imm)),B,0,0⟩):=by
  have xa:=Cp.cs_reg o a ha
  have xb:=Cp.cs_reg o b hb
  obtain ⟨a0,a1⟩:=o.reg a (by omega) (by omega)
  obtain ⟨b0,b1⟩:=o.reg b (by omega) (by omega)
  obtain ⟨pc0,pc1⟩:=o.pc
  have hl:=hX.lt
  have A0:(0:Int)≤(a:Int):=by omega
  have A1:(a:Int) < 8:=by omega
  have B0:(0:Int)≤(b:Int):=by omega
  have B1:(b:Int) < 8:=by omega
  obtain ⟨i0,i1⟩:=hi
  obtain ⟨W1,e1,K1,K2,K3,K4⟩:=boxed hX 20 a b imm 0
  have HM:=Lib.hid (m.below K4)
  replace e1:(w.alloc (.cells #[.int .i64 20,.int .i64 a,.int .i64 b,.int .u32 imm] 134)).alloc (.cells #[.int .i64 0,.int .i64 0] 137)=W1:=e1
  have y0:=K2.cell 0
  have y1:=K2.cell 1
  have y2:=K2.cell 2
  have y3:=K2.cell 3
  have fo0:=K3.frozen 0
  have fo1:=K3.frozen 1
  have co0:=K3.cell 0
  have co1:=K3.cell 1
  have fx0:=K1.frozen 0
  have fxa:=K1.frozen (1+a)
  have xpc:=(K1.cell 0).trans Cp.cs_pc
  have xca:=(K1.cell (1+a)).trans xa
  have xcb:=(K1.cell (1+b)).trans xb
  simp only [List.getElem?_cons_succ,List.getElem?_cons_zero] at y0 y1 y2 y3 co0 co1
  replace K1:=Lib.hid K1
  replace K3:=Lib.hid K3
  replace K4:=Lib.hid K4
  have zz:(d.reg a == 0)=true:=by rw [hz];rfl
  clear hz
  generalize d.reg a=ra at *
  clear hX m xa xb K2
  go_enter Tryz.func86,Tryz.ntmps86
  go_wp2_with fail
  go_quiet (fail)
  go_wp2_with fail
  go_region
  all_goals go_wp2_with fail
  refine bodyPost_ret (v:=.agg #[.int .i64 0,.int .i64 0]) (by simp [results,Tryz.results86,go_sem,co0,co1]) rfl ⟨rfl,?_⟩
  obtain ⟨q1,q2,q3⟩:=ob_end (W1:=W1.drewN nq) (wh:=.int .i64 0) (ga:=.int .i64 0) (HM.out.below (below_drewN (Below.refl _ _) nq)) K1.out K3.out (below_drewN K4.out nq) hl (Cp.cs_setPc _)
  exact ⟨q1.below (Below.refl _ _).drew,fun _=>drew_has q2,chg_drew q3⟩
set_option maxRecDepth 100000 in
set_option maxHeartbeats 4000000 in
theorem obey_20n {w:World} {X p g h:Nat} {B:List Int} {T:List Bool} {d:Cp} (m:MemAt w p g h B T) (o:d.Ok) (hX:HasB w X 77 d.cs) (imm:Int) (a b:Nat) (ha:a < 8) (hb:b < 8) (hi:U32 imm) (hz:¬ d.reg a=0) :
    Calls Tryz.prog 86 #[.pointer (some ⟨X,0,none⟩),.agg #[.int .i64 20,.int .i64 a,.int .i64 b,.int .u32 imm],.pointer (some ⟨p,0,none⟩)] w (ObP w p g h X T ⟨d,B,0,0⟩):=by
  have xa:=Cp.cs_reg o a ha
  have xb:=Cp.cs_reg o b hb
  obtain ⟨a0,a1⟩:=o.reg a (by omega) (by omega)
  obtain ⟨b0,b1⟩:=o.reg b (by omega) (by omega)
  obtain ⟨pc0,pc1⟩:=o.pc
  have hl:=hX.lt
  have A0:(0:Int)≤(a:Int):=by omega
  have A1:(a:Int) < 8:=by omega
  have B0:(0:Int)≤(b:Int):=by omega
  have B1:(b:Int) < 8:=by omega
  obtain ⟨i0,i1⟩:=hi
  obtain ⟨W1,e1,K1,K2,K3,K4⟩:=boxed hX 20 a b imm 0
  have HM:=Lib.hid (m.below K4)
  replace e1:(w.alloc (.cells #[.int .i64 20,.int .i64 a,.int .i64 b,.int .u32 imm] 134)).alloc (.cells #[.int .i64 0,.int .i64 0] 137)=W1:=e1
  have y0:=K2.cell 0
  have y1:=K2.cell 1
  have y2:=K2.cell 2
  have y3:=K2.cell 3
  have fo0:=K3.frozen 0
  have fo1:=K3.frozen 1
  have co0:=K3.cell 0
  have co1:=K3.cell 1
  have fx0:=K1.frozen 0
  have fxa:=K1.frozen (1+a)
  have xpc:=(K1.cell 0).trans Cp.cs_pc
  have xca:=(K1.cell (1+a)).trans xa
  have xcb:=(K1.cell (1+b)).trans xb
  simp only [List.getElem?_cons_succ,List.getElem?_cons_zero] at y0 y1 y2 y3 co0 co1
  replace K1:=Lib.hid K1
  replace K3:=Lib.hid K3
  replace K4:=Lib.hid K4
  have zz:(d.reg a == 0)=false:=by simpa using hz
  clear hz
  generalize d.reg a=ra at *
  clear hX m xa xb K2
  go_enter Tryz.func86,Tryz.ntmps86
  go_wp2_with fail
  go_quiet (fail)
  go_wp2_with fail
  refine bodyPost_ret (v:=.agg #[.int .i64 0,.int .i64 0]) (by simp [results,Tryz.results86,go_sem,co0,co1]) rfl ⟨rfl,?_⟩
  obtain ⟨q1,q2,q3⟩:=ob_end0 (W1:=W1.drewN nq) (wh:=.int .i64 0) (ga:=.int .i64 0) (HM.out.below (below_drewN (Below.refl _ _) nq)) K1.out K3.out (below_drewN K4.out nq) hl
  exact ⟨q1,fun _=>q2,q3⟩
set_option maxRecDepth 100000 in
set_option maxHeartbeats 4000000 in
theorem obey_15y {w:World} {X p g h:Nat} {B:List Int} {T:List Bool} {d:Cp} (m:MemAt w p g h B T) (o:d.Ok) (hX:HasB w X 77 d.cs) (imm:Int) (a b:Nat) (ha:a < 8) (hb:b < 8) (hi:U32 imm) (hk:wholeB T (d.reg b) 4=true) :
    Calls Tryz.prog 86 #[.pointer (some ⟨X,0,none⟩),.agg #[.int .i64 15,.int .i64 a,.int .i64 b,.int .u32 imm],.pointer (some ⟨p,0,none⟩)] w (ObP w p g h X T ⟨d.setR a (v4 B (d.reg b).toNat),B,0,0⟩):=by
  have xa:=Cp.cs_reg o a ha
  have xb:=Cp.cs_reg o b hb
  obtain ⟨a0,a1⟩:=o.reg a (by omega) (by omega)
  obtain ⟨b0,b1⟩:=o.reg b (by omega) (by omega)
  obtain ⟨pc0,pc1⟩:=o.pc
  have hl:=hX.lt
  have A0:(0:Int)≤(a:Int):=by omega
  have A1:(a:Int) < 8:=by omega
  have B0:(0:Int)≤(b:Int):=by omega
  have B1:(b:Int) < 8:=by omega
  obtain ⟨i0,i1⟩:=hi
  obtain ⟨W1,e1,K1,K2,K3,K4⟩:=boxed hX 15 a b imm 0
  have HM:=Lib.hid (m.below K4)
  replace e1:(w.alloc (.cells #[.int .i64 15,.int .i64 a,.int .i64 b,.int .u32 imm] 134)).alloc (.cells #[.int .i64 0,.int .i64 0] 137)=W1:=e1
  have y0:=K2.cell 0
  have y1:=K2.cell 1
  have y2:=K2.cell 2
  have y3:=K2.cell 3
  have fo0:=K3.frozen 0
  have fo1:=K3.frozen 1
  have co0:=K3.cell 0
  have co1:=K3.cell 1
  have fx0:=K1.frozen 0
  have fxa:=K1.frozen (1+a)
  have xpc:=(K1.cell 0).trans Cp.cs_pc
  have xca:=(K1.cell (1+a)).trans xa
  have xcb:=(K1.cell (1+b)).trans xb
  simp only [List.getElem?_cons_succ,List.getElem?_cons_zero] at y0 y1 y2 y3 co0 co1
  replace K1:=Lib.hid K1
  replace K3:=Lib.hid K3
  replace K4:=Lib.hid K4
  have HK:=Lib.hid hk
  clear hk
  clear hX m xa xb K2
  go_enter Tryz.func86,Tryz.ntmps86
  have hXO:X≠w.heap.size+1:=by omega
  have n1:=HM.out.own.ne K1.out (by decide)
  have n2:=HM.out.bytes.ne K1.out (by decide)
  have n3:=HM.out.zones.ne K1.out (by decide)
  have n4:=HM.out.bytes.ne K3.out (by decide)
  go_wp2_with fail
  refine (load_y HM.out o K1.out imm a b ha hb HK.out).mono ?_;rintro e w2 ⟨rfl,r1,r2⟩
  have M2:MemAt w2 p g h B T:=HM.out.chg r2 n1 n1 n2 n2 n3 n3
  have M2:=Lib.hid M2
  have X2:HasB w2 X 77 (d.setR a (v4 B (d.reg b).toNat)).cs:=r1
  have X2:=Lib.hid X2
  have k3:HasB w2 (w.heap.size+1) 137 [.int .i64 0,.int .i64 0]:=K3.out.chg r2 hXO.symm hXO.symm
  have c4:Chg g X w w2:=(Chg.of K4.out).trans (Chg.r r2)
  have C4:=Lib.hid c4
  clear c4
  have co0':=k3.cell 0
  have co1':=k3.cell 1
  have fo0':=k3.frozen 0
  have fo1':=k3.frozen 1
  simp only [List.getElem?_cons_succ,List.getElem?_cons_zero] at co0' co1'
  have K32:=Lib.hid k3
  clear k3
  go_wp2_with fail
  refine bodyPost_ret (v:=.agg #[.int .i64 0,.int .i64 0]) (by simp [results,Tryz.results86,go_sem,co0',co1']) rfl ⟨rfl,?_⟩
  obtain ⟨q1,q2,q3⟩:=ob_end2 (wh:=.int .i64 0) (ga:=.int .i64 0) M2.out X2.out K32.out C4.out hl
  exact ⟨q1,fun _=>q2,q3⟩
set_option maxRecDepth 100000 in
set_option maxHeartbeats 4000000 in
theorem obey_15n {w:World} {X p g h:Nat} {B:List Int} {T:List Bool} {d:Cp} (m:MemAt w p g h B T) (o:d.Ok) (hX:HasB w X 77 d.cs) (imm:Int) (a b:Nat) (ha:a < 8) (hb:b < 8) (hi:U32 imm) (c:Cp) (hk:wholeB T (d.reg b) 4=false) :
    Calls Tryz.prog 86 #[.pointer (some ⟨X,0,none⟩),.agg #[.int .i64 15,.int .i64 a,.int .i64 b,.int .u32 imm],.pointer (some ⟨p,0,none⟩)] w (ObP w p g h X T ⟨c,B,3,0⟩):=by
  have xa:=Cp.cs_reg o a ha
  have xb:=Cp.cs_reg o b hb
  obtain ⟨a0,a1⟩:=o.reg a (by omega) (by omega)
  obtain ⟨b0,b1⟩:=o.reg b (by omega) (by omega)
  obtain ⟨pc0,pc1⟩:=o.pc
  have hl:=hX.lt
  have A0:(0:Int)≤(a:Int):=by omega
  have A1:(a:Int) < 8:=by omega
  have B0:(0:Int)≤(b:Int):=by omega
  have B1:(b:Int) < 8:=by omega
  obtain ⟨i0,i1⟩:=hi
  obtain ⟨W1,e1,K1,K2,K3,K4⟩:=boxed hX 15 a b imm 0
  have HM:=Lib.hid (m.below K4)
  replace e1:(w.alloc (.cells #[.int .i64 15,.int .i64 a,.int .i64 b,.int .u32 imm] 134)).alloc (.cells #[.int .i64 0,.int .i64 0] 137)=W1:=e1
  have y0:=K2.cell 0
  have y1:=K2.cell 1
  have y2:=K2.cell 2
  have y3:=K2.cell 3
  have fo0:=K3.frozen 0
  have fo1:=K3.frozen 1
  have co0:=K3.cell 0
  have co1:=K3.cell 1
  have fx0:=K1.frozen 0
  have fxa:=K1.frozen (1+a)
  have xpc:=(K1.cell 0).trans Cp.cs_pc
  have xca:=(K1.cell (1+a)).trans xa
  have xcb:=(K1.cell (1+b)).trans xb
  simp only [List.getElem?_cons_succ,List.getElem?_cons_zero] at y0 y1 y2 y3 co0 co1
  replace K1:=Lib.hid K1
  replace K3:=Lib.hid K3
  replace K4:=Lib.hid K4
  have HK:=Lib.hid hk
  clear hk
  clear hX m xa xb K2
  go_enter Tryz.func86,Tryz.ntmps86
  have hXO:X≠w.heap.size+1:=by omega
  have n1:=HM.out.own.ne K1.out (by decide)
  have n2:=HM.out.bytes.ne K1.out (by decide)
  have n3:=HM.out.zones.ne K1.out (by decide)
  have n4:=HM.out.bytes.ne K3.out (by decide)
  go_wp2_with fail
  refine (load_n HM.out o K1.out imm a b ha hb HK.out).mono ?_;rintro e w2 ⟨rfl,r2⟩
  have M2:MemAt w2 p g h B T:=HM.out.below r2
  have M2:=Lib.hid M2
  have X2:HasB w2 X 77 d.cs:=K1.out.below r2
  have X2:=Lib.hid X2
  have k3:HasB w2 (w.heap.size+1) 137 [.int .i64 0,.int .i64 0]:=K3.out.below r2
  have c4:Chg g X w w2:=(Chg.of K4.out).trans (Chg.of r2)
  have C4:=Lib.hid c4
  clear c4
  have co0':=k3.cell 0
  have co1':=k3.cell 1
  have fo0':=k3.frozen 0
  have fo1':=k3.frozen 1
  simp only [List.getElem?_cons_succ,List.getElem?_cons_zero] at co0' co1'
  have K32:=Lib.hid k3
  clear k3
  go_wp2_with fail
  refine bodyPost_ret (v:=.agg #[.int .i64 3,.int .i64 0]) (by simp [results,Tryz.results86,go_sem,co0',co1']) rfl ⟨rfl,?_⟩
  obtain ⟨q1,q2,q3⟩:=ob_end2 (wh:=.int .i64 3) (ga:=.int .i64 0) M2.out X2.out K32.out C4.out hl
  exact ⟨q1,(by rintro (h | h) <;> cases h),q3⟩
set_option maxRecDepth 100000 in
set_option maxHeartbeats 4000000 in
theorem obey_16y {w:World} {X p g h:Nat} {B:List Int} {T:List Bool} {d:Cp} (m:MemAt w p g h B T) (o:d.Ok) (hX:HasB w X 77 d.cs) (imm:Int) (a b:Nat) (ha:a < 8) (hb:b < 8) (hi:U32 imm) (hk:wholeB T (d.reg a) 4=true) :
    Calls Tryz.prog 86 #[.pointer (some ⟨X,0,none⟩),.agg #[.int .i64 16,.int .i64 a,.int .i64 b,.int .u32 imm],.pointer (some ⟨p,0,none⟩)] w (ObP w p g h X T ⟨d,splice B (d.reg a).toNat (b4 (d.reg b)),0,0⟩):=by
  have xa:=Cp.cs_reg o a ha
  have xb:=Cp.cs_reg o b hb
  obtain ⟨a0,a1⟩:=o.reg a (by omega) (by omega)
  obtain ⟨b0,b1⟩:=o.reg b (by omega) (by omega)
  obtain ⟨pc0,pc1⟩:=o.pc
  have hl:=hX.lt
  have A0:(0:Int)≤(a:Int):=by omega
  have A1:(a:Int) < 8:=by omega
  have B0:(0:Int)≤(b:Int):=by omega
  have B1:(b:Int) < 8:=by omega
  obtain ⟨i0,i1⟩:=hi
  obtain ⟨W1,e1,K1,K2,K3,K4⟩:=boxed hX 16 a b imm 0
  have HM:=Lib.hid (m.below K4)
  replace e1:(w.alloc (.cells #[.int .i64 16,.int .i64 a,.int .i64 b,.int .u32 imm] 134)).alloc (.cells #[.int .i64 0,.int .i64 0] 137)=W1:=e1
  have y0:=K2.cell 0
  have y1:=K2.cell 1
  have y2:=K2.cell 2
  have y3:=K2.cell 3
  have fo0:=K3.frozen 0
  have fo1:=K3.frozen 1
  have co0:=K3.cell 0
  have co1:=K3.cell 1
  have fx0:=K1.frozen 0
  have fxa:=K1.frozen (1+a)
  have xpc:=(K1.cell 0).trans Cp.cs_pc
  have xca:=(K1.cell (1+a)).trans xa
  have xcb:=(K1.cell (1+b)).trans xb
  simp only [List.getElem?_cons_succ,List.getElem?_cons_zero] at y0 y1 y2 y3 co0 co1
  replace K1:=Lib.hid K1
  replace K3:=Lib.hid K3
  replace K4:=Lib.hid K4
  have HK:=Lib.hid hk
  clear hk
  clear hX m xa xb K2
  go_enter Tryz.func86,Tryz.ntmps86
  have hXO:X≠w.heap.size+1:=by omega
  have n1:=HM.out.own.ne K1.out (by decide)
  have n2:=HM.out.bytes.ne K1.out (by decide)
  have n3:=HM.out.zones.ne K1.out (by decide)
  have n4:=HM.out.bytes.ne K3.out (by decide)
  go_wp2_with fail
  refine (store_y HM.out o K1.out imm a b ha hb HK.out).mono ?_;rintro e w2 ⟨rfl,r1,r2⟩
  have M2:MemAt w2 p g h (splice B (d.reg a).toNat (b4 (d.reg b))) T:=r1
  have M2:=Lib.hid M2
  have X2:HasB w2 X 77 d.cs:=K1.out.chg r2 n2.symm n2.symm
  have X2:=Lib.hid X2
  have k3:HasB w2 (w.heap.size+1) 137 [.int .i64 0,.int .i64 0]:=K3.out.chg r2 n4.symm n4.symm
  have c4:Chg g X w w2:=(Chg.of K4.out).trans (Chg.l r2)
  have C4:=Lib.hid c4
  clear c4
  have co0':=k3.cell 0
  have co1':=k3.cell 1
  have fo0':=k3.frozen 0
  have fo1':=k3.frozen 1
  simp only [List.getElem?_cons_succ,List.getElem?_cons_zero] at co0' co1'
  have K32:=Lib.hid k3
  clear k3
  go_wp2_with fail
  refine bodyPost_ret (v:=.agg #[.int .i64 0,.int .i64 0]) (by simp [results,Tryz.results86,go_sem,co0',co1']) rfl ⟨rfl,?_⟩
  obtain ⟨q1,q2,q3⟩:=ob_end2 (wh:=.int .i64 0) (ga:=.int .i64 0) M2.out X2.out K32.out C4.out hl
  exact ⟨q1,fun _=>q2,q3⟩
set_option maxRecDepth 100000 in
set_option maxHeartbeats 4000000 in
theorem obey_16n {w:World} {X p g h:Nat} {B:List Int} {T:List Bool} {d:Cp} (m:MemAt w p g h B T) (o:d.Ok) (hX:HasB w X 77 d.cs) (imm:Int) (a b:Nat) (ha:a < 8) (hb:b < 8) (hi:U32 imm) (c:Cp) (hk:wholeB T (d.reg a) 4=false) :
    Calls Tryz.prog 86 #[.pointer (some ⟨X,0,none⟩),.agg #[.int .i64 16,.int .i64 a,.int .i64 b,.int .u32 imm],.pointer (some ⟨p,0,none⟩)] w (ObP w p g h X T ⟨c,B,3,0⟩):=by
  have xa:=Cp.cs_reg o a ha
  have xb:=Cp.cs_reg o b hb
  obtain ⟨a0,a1⟩:=o.reg a (by omega) (by omega)
  obtain ⟨b0,b1⟩:=o.reg b (by omega) (by omega)
  obtain ⟨pc0,pc1⟩:=o.pc
  have hl:=hX.lt
  have A0:(0:Int)≤(a:Int):=by omega
  have A1:(a:Int) < 8:=by omega
  have B0:(0:Int)≤(b:Int):=by omega
  have B1:(b:Int) < 8:=by omega
  obtain ⟨i0,i1⟩:=hi
  obtain ⟨W1,e1,K1,K2,K3,K4⟩:=boxed hX 16 a b imm 0
  have HM:=Lib.hid (m.below K4)
  replace e1:(w.alloc (.cells #[.int .i64 16,.int .i64 a,.int .i64 b,.int .u32 imm] 134)).alloc (.cells #[.int .i64 0,.int .i64 0] 137)=W1:=e1
  have y0:=K2.cell 0
  have y1:=K2.cell 1
  have y2:=K2.cell 2
  have y3:=K2.cell 3
  have fo0:=K3.frozen 0
  have fo1:=K3.frozen 1
  have co0:=K3.cell 0
  have co1:=K3.cell 1
  have fx0:=K1.frozen 0
  have fxa:=K1.frozen (1+a)
  have xpc:=(K1.cell 0).trans Cp.cs_pc
  have xca:=(K1.cell (1+a)).trans xa
  have xcb:=(K1.cell (1+b)).trans xb
  simp only [List.getElem?_cons_succ,List.getElem?_cons_zero] at y0 y1 y2 y3 co0 co1
  replace K1:=Lib.hid K1
  replace K3:=Lib.hid K3
  replace K4:=Lib.hid K4
  have HK:=Lib.hid hk
  clear hk
  clear hX m xa xb K2
  go_enter Tryz.func86,Tryz.ntmps86
  have hXO:X≠w.heap.size+1:=by omega
  have n1:=HM.out.own.ne K1.out (by decide)
  have n2:=HM.out.bytes.ne K1.out (by decide)
  have n3:=HM.out.zones.ne K1.out (by decide)
  have n4:=HM.out.bytes.ne K3.out (by decide)
  go_wp2_with fail
  refine (store_n HM.out o K1.out imm a b ha hb HK.out).mono ?_;rintro e w2 ⟨rfl,r2⟩
  have M2:MemAt w2 p g h B T:=HM.out.below r2
  have M2:=Lib.hid M2
  have X2:HasB w2 X 77 d.cs:=K1.out.below r2
  have X2:=Lib.hid X2
  have k3:HasB w2 (w.heap.size+1) 137 [.int .i64 0,.int .i64 0]:=K3.out.below r2
  have c4:Chg g X w w2:=(Chg.of K4.out).trans (Chg.of r2)
  have C4:=Lib.hid c4
  clear c4
  have co0':=k3.cell 0
  have co1':=k3.cell 1
  have fo0':=k3.frozen 0
  have fo1':=k3.frozen 1
  simp only [List.getElem?_cons_succ,List.getElem?_cons_zero] at co0' co1'
  have K32:=Lib.hid k3
  clear k3
  go_wp2_with fail
  refine bodyPost_ret (v:=.agg #[.int .i64 3,.int .i64 0]) (by simp [results,Tryz.results86,go_sem,co0',co1']) rfl ⟨rfl,?_⟩
  obtain ⟨q1,q2,q3⟩:=ob_end2 (wh:=.int .i64 3) (ga:=.int .i64 0) M2.out X2.out K32.out C4.out hl
  exact ⟨q1,(by rintro (h | h) <;> cases h),q3⟩
end Go.Proofs.YteefmjhemhlapaaGreat.Mm
