/- An instruction done by package step: the masks. -/
import Derived.Test.YteefmjhemhlapaaGreatVStepObey
import Derived.Deep.RegionLaw
import Derived.Deep.RegionWith
namespace Go.Proofs.YteefmjhemhlapaaGreat.Mm
open Go.ChangeShapes Go.WideShapes Go.ChangeAt Go.RowKit
set_option linter.unusedVariables false
set_option maxRecDepth 10000
set_option maxRecDepth 100000 in
set_option maxHeartbeats 4000000 in
theorem obey_17 {w:World} {X p g h:Nat} {B:List Int} {T:List Bool} {d:Cp} (m:MemAt w p g h B T) (o:d.Ok) (hX:HasB w X 77 d.cs) (imm:Int) (a b:Nat) (ha:a < 8) (hb:b < 8) (hi:U32 imm) :
    Calls Tryz.prog 86 #[.pointer (some ⟨X,0,none⟩),.agg #[.int .i64 17,.int .i64 a,.int .i64 b,.int .u32 imm],.pointer (some ⟨p,0,none⟩)] w (ObP w p g h X T ⟨d.setR a (dataV d.b d.s (d.reg a)),B,0,0⟩):=by
  have xa:=Cp.cs_reg o a ha
  have xb:=Cp.cs_reg o b hb
  obtain ⟨a0,a1⟩:=o.reg a (by omega) (by omega)
  obtain ⟨b0,b1⟩:=o.reg b (by omega) (by omega)
  obtain ⟨pc0,pc1⟩:=o.pc
  have hl:=hX.lt
  have A0:(0:Int)≤(a:Int):=by omega
  have A1:(a:Int) < 8:=by omega
  have B0:(0:Int)≤(b:Int):=by omega
  have B1:(b:Int) < 8:=by omega
  obtain ⟨i0,i1⟩:=hi
  obtain ⟨W1,e1,K1,K2,K3,K4⟩:=boxed hX 17 a b imm 0
  have HM:=Lib.hid (m.below K4)
  replace e1:(w.alloc (.cells #[.int .i64 17,.int .i64 a,.int .i64 b,.int .u32 imm] 134)).alloc (.cells #[.int .i64 0,.int .i64 0] 137)=W1:=e1
  have y0:=K2.cell 0
  have y1:=K2.cell 1
  have y2:=K2.cell 2
  have y3:=K2.cell 3
  have fo0:=K3.frozen 0
  have fo1:=K3.frozen 1
  have co0:=K3.cell 0
  have co1:=K3.cell 1
  have fx0:=K1.frozen 0
  have fxa:=K1.frozen (1+a)
  have xpc:=(K1.cell 0).trans Cp.cs_pc
  have xca:=(K1.cell (1+a)).trans xa
  have xcb:=(K1.cell (1+b)).trans xb
  simp only [List.getElem?_cons_succ,List.getElem?_cons_zero] at y0 y1 y2 y3 co0 co1
  replace K1:=Lib.hid K1
  replace K3:=Lib.hid K3
  replace K4:=Lib.hid K4
  obtain ⟨r0,r1,r2,r3,r4,r5,r6,r7,hr⟩:=o.eight
  obtain ⟨bb0,bb1⟩:=o.b
  obtain ⟨ss0,ss1⟩:=o.s
  have hcs:d.cs=[.int .u32 d.pc,.int .u32 r0,.int .u32 r1,.int .u32 r2,.int .u32 r3,.int .u32 r4,.int .u32 r5,.int .u32 r6,.int .u32 r7,.int .u32 d.b,.int .u32 d.s]:=by unfold Cp.cs;rw [hr];rfl
  have hK:=K1.out
  rw [hcs] at hK
  have z1:=hK.cell 1
  have z2:=hK.cell 2
  have z3:=hK.cell 3
  have z4:=hK.cell 4
  have z5:=hK.cell 5
  have z6:=hK.cell 6
  have z7:=hK.cell 7
  have z8:=hK.cell 8
  have z9:=hK.cell 9
  have z10:=hK.cell 10
  simp only [List.getElem?_cons_succ,List.getElem?_cons_zero] at z1 z2 z3 z4 z5 z6 z7 z8 z9 z10
  have CD:=fun w=>Data_any (.int .u32 d.pc) (.int .u32 r0) (.int .u32 r1) (.int .u32 r2) (.int .u32 r3) (.int .u32 r4) (.int .u32 r5) (.int .u32 r6) (.int .u32 r7) (d.reg a) d.b d.s bb0 bb1 ss0 ss1 a0 a1 w
  replace CD:=Lib.hid CD
  generalize hrv:dataV d.b d.s (d.reg a)=rv at *
  have K2h:=Lib.hid K2
  have XA:=Lib.hid xa
  clear hcs hr hK xcb
  clear hX m xa xb K2
  go_enter Tryz.func86,Tryz.ntmps86
  go_wp2_with fail
  go_region_with (first | (go_at_call 99;(with_reducible refine (CD.out _).mono ?_);rintro e w2 ⟨rfl,hb2⟩;have HB2:=Lib.hid hb2;have k2:=HasB.below (w:=W1.drew) K1.out hb2;have fx2:=k2.frozen (1+a);have cx2:=(k2.cell (1+a)).trans XA.out;have i2:=HasB.below (w:=W1.drew) K2h.out hb2;have ci2:=i2.cell 1;simp only [List.getElem?_cons_succ,List.getElem?_cons_zero] at ci2;replace k2:=Lib.hid k2;have k3:=HasB.below (w:=W1.drew) K3.out hb2;have co0':=k3.cell 0;have co1':=k3.cell 1;have fo0':=k3.frozen 0;have fo1':=k3.frozen 1;simp only [List.getElem?_cons_succ,List.getElem?_cons_zero] at co0' co1';replace k3:=Lib.hid k3;clear hb2 i2))
  all_goals clear z1 z2 z3 z4 z5 z6 z7 z8 z9 z10
  all_goals go_wp2_with fail
  all_goals refine bodyPost_ret (v:=.agg #[.int .i64 0,.int .i64 0]) (by simp [results,Tryz.results86,go_sem,co0',co1']) rfl ⟨rfl,?_⟩
  all_goals obtain ⟨q1,q2,q3⟩:=ob_end (wh:=.int .i64 0) (ga:=.int .i64 0) (HM.out.below (bel_then (Below.refl _ _).drew HB2.out)) k2.out k3.out (bel_then K4.out (bel_then (Below.refl _ _).drew HB2.out)) hl (Cp.cs_setR o a ha rv)
  all_goals exact ⟨q1,fun _=>q2,q3⟩
set_option maxRecDepth 100000 in
set_option maxHeartbeats 4000000 in
theorem obey_18 {w:World} {X p g h:Nat} {B:List Int} {T:List Bool} {d:Cp} (m:MemAt w p g h B T) (o:d.Ok) (hX:HasB w X 77 d.cs) (imm:Int) (a b:Nat) (ha:a < 8) (hb:b < 8) (hi:U32 imm) :
    Calls Tryz.prog 86 #[.pointer (some ⟨X,0,none⟩),.agg #[.int .i64 18,.int .i64 a,.int .i64 b,.int .u32 imm],.pointer (some ⟨p,0,none⟩)] w (ObP w p g h X T ⟨d.setR a (codeV d.b d.s (d.reg a)),B,0,0⟩):=by
  have xa:=Cp.cs_reg o a ha
  have xb:=Cp.cs_reg o b hb
  obtain ⟨a0,a1⟩:=o.reg a (by omega) (by omega)
  obtain ⟨b0,b1⟩:=o.reg b (by omega) (by omega)
  obtain ⟨pc0,pc1⟩:=o.pc
  have hl:=hX.lt
  have A0:(0:Int)≤(a:Int):=by omega
  have A1:(a:Int) < 8:=by omega
  have B0:(0:Int)≤(b:Int):=by omega
  have B1:(b:Int) < 8:=by omega
  obtain ⟨i0,i1⟩:=hi
  obtain ⟨W1,e1,K1,K2,K3,K4⟩:=boxed hX 18 a b imm 0
  have HM:=Lib.hid (m.below K4)
  replace e1:(w.alloc (.cells #[.int .i64 18,.int .i64 a,.int .i64 b,.int .u32 imm] 134)).alloc (.cells #[.int .i64 0,.int .i64 0] 137)=W1:=e1
  have y0:=K2.cell 0
  have y1:=K2.cell 1
  have y2:=K2.cell 2
  have y3:=K2.cell 3
  have fo0:=K3.frozen 0
  have fo1:=K3.frozen 1
  have co0:=K3.cell 0
  have co1:=K3.cell 1
  have fx0:=K1.frozen 0
  have fxa:=K1.frozen (1+a)
  have xpc:=(K1.cell 0).trans Cp.cs_pc
  have xca:=(K1.cell (1+a)).trans xa
  have xcb:=(K1.cell (1+b)).trans xb
  simp only [List.getElem?_cons_succ,List.getElem?_cons_zero] at y0 y1 y2 y3 co0 co1
  replace K1:=Lib.hid K1
  replace K3:=Lib.hid K3
  replace K4:=Lib.hid K4
  obtain ⟨r0,r1,r2,r3,r4,r5,r6,r7,hr⟩:=o.eight
  obtain ⟨bb0,bb1⟩:=o.b
  obtain ⟨ss0,ss1⟩:=o.s
  have hcs:d.cs=[.int .u32 d.pc,.int .u32 r0,.int .u32 r1,.int .u32 r2,.int .u32 r3,.int .u32 r4,.int .u32 r5,.int .u32 r6,.int .u32 r7,.int .u32 d.b,.int .u32 d.s]:=by unfold Cp.cs;rw [hr];rfl
  have hK:=K1.out
  rw [hcs] at hK
  have z1:=hK.cell 1
  have z2:=hK.cell 2
  have z3:=hK.cell 3
  have z4:=hK.cell 4
  have z5:=hK.cell 5
  have z6:=hK.cell 6
  have z7:=hK.cell 7
  have z8:=hK.cell 8
  have z9:=hK.cell 9
  have z10:=hK.cell 10
  simp only [List.getElem?_cons_succ,List.getElem?_cons_zero] at z1 z2 z3 z4 z5 z6 z7 z8 z9 z10
  have CD:=fun w=>Code_any (.int .u32 d.pc) (.int .u32 r0) (.int .u32 r1) (.int .u32 r2) (.int .u32 r3) (.int .u32 r4) (.int .u32 r5) (.int .u32 r6) (.int .u32 r7) (d.reg a) d.b d.s bb0 bb1 ss0 ss1 a0 a1 w
  replace CD:=Lib.hid CD
  generalize hrv:codeV d.b d.s (d.reg a)=rv at *
  have K2h:=Lib.hid K2
  have XA:=Lib.hid xa
  clear hcs hr hK xcb
  clear hX m xa xb K2
  go_enter Tryz.func86,Tryz.ntmps86
  go_wp2_with fail
  go_region_with (first | (go_at_call 100;(with_reducible refine (CD.out _).mono ?_);rintro e w2 ⟨rfl,hb2⟩;have HB2:=Lib.hid hb2;have k2:=HasB.below (w:=W1.drew) K1.out hb2;have fx2:=k2.frozen (1+a);have cx2:=(k2.cell (1+a)).trans XA.out;have i2:=HasB.below (w:=W1.drew) K2h.out hb2;have ci2:=i2.cell 1;simp only [List.getElem?_cons_succ,List.getElem?_cons_zero] at ci2;replace k2:=Lib.hid k2;have k3:=HasB.below (w:=W1.drew) K3.out hb2;have co0':=k3.cell 0;have co1':=k3.cell 1;have fo0':=k3.frozen 0;have fo1':=k3.frozen 1;simp only [List.getElem?_cons_succ,List.getElem?_cons_zero] at co0' co1';replace k3:=Lib.hid k3;clear hb2 i2))
  all_goals clear z1 z2 z3 z4 z5 z6 z7 z8 z9 z10
  all_goals go_wp2_with fail
  all_goals refine bodyPost_ret (v:=.agg #[.int .i64 0,.int .i64 0]) (by simp [results,Tryz.results86,go_sem,co0',co1']) rfl ⟨rfl,?_⟩
  all_goals obtain ⟨q1,q2,q3⟩:=ob_end (wh:=.int .i64 0) (ga:=.int .i64 0) (HM.out.below (bel_then (Below.refl _ _).drew HB2.out)) k2.out k3.out (bel_then K4.out (bel_then (Below.refl _ _).drew HB2.out)) hl (Cp.cs_setR o a ha rv)
  all_goals exact ⟨q1,fun _=>q2,q3⟩
end Go.Proofs.YteefmjhemhlapaaGreat.Mm
