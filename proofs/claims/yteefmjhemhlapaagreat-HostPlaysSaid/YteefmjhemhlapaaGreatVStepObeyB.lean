/- An instruction done by package step: the sums and the masks. -/
import Derived.Test.YteefmjhemhlapaaGreatVStepObey
import Derived.Deep.RegionLaw
import Derived.Deep.RegionWith
namespace Go.Proofs.YteefmjhemhlapaaGreat.Mm
open Go.ChangeShapes Go.WideShapes Go.ChangeAt Go.RowKit
set_option linter.unusedVariables false
set_option maxRecDepth 10000
set_option maxRecDepth 100000 in
set_option maxHeartbeats 4000000 in
theorem obey_yes {w:World} {X p g h:Nat} {B:List Int} {T:List Bool} {d:Cp} (m:MemAt w p g h B T) (o:d.Ok) (hX:HasB w X 77 d.cs) (imm:Int) (a b:Nat) (ha:a < 8) (hb:b < 8) (hi:U32 imm) (op:Int) (ho:3≤op∧op≤14) (hk:doK op (d.reg b)=true) :
    Calls Tryz.prog 86 #[.pointer (some ⟨X,0,none⟩),.agg #[.int .i64 op,.int .i64 a,.int .i64 b,.int .u32 imm],.pointer (some ⟨p,0,none⟩)] w (ObP w p g h X T ⟨d.setR a (doV op (d.reg a) (d.reg b)),B,0,0⟩):=by
  have xa:=Cp.cs_reg o a ha
  have xb:=Cp.cs_reg o b hb
  obtain ⟨a0,a1⟩:=o.reg a (by omega) (by omega)
  obtain ⟨b0,b1⟩:=o.reg b (by omega) (by omega)
  obtain ⟨pc0,pc1⟩:=o.pc
  have hl:=hX.lt
  have A0:(0:Int)≤(a:Int):=by omega
  have A1:(a:Int) < 8:=by omega
  have B0:(0:Int)≤(b:Int):=by omega
  have B1:(b:Int) < 8:=by omega
  obtain ⟨i0,i1⟩:=hi
  obtain ⟨W1,e1,K1,K2,K3,K4⟩:=boxed hX op a b imm 0
  have HM:=Lib.hid (m.below K4)
  replace e1:(w.alloc (.cells #[.int .i64 op,.int .i64 a,.int .i64 b,.int .u32 imm] 134)).alloc (.cells #[.int .i64 0,.int .i64 0] 137)=W1:=e1
  have y0:=K2.cell 0
  have y1:=K2.cell 1
  have y2:=K2.cell 2
  have y3:=K2.cell 3
  have fo0:=K3.frozen 0
  have fo1:=K3.frozen 1
  have co0:=K3.cell 0
  have co1:=K3.cell 1
  have fx0:=K1.frozen 0
  have fxa:=K1.frozen (1+a)
  have xpc:=(K1.cell 0).trans Cp.cs_pc
  have xca:=(K1.cell (1+a)).trans xa
  have xcb:=(K1.cell (1+b)).trans xb
  simp only [List.getElem?_cons_succ,List.getElem?_cons_zero] at y0 y1 y2 y3 co0 co1
  replace K1:=Lib.hid K1
  replace K3:=Lib.hid K3
  replace K4:=Lib.hid K4
  have HK:=Lib.hid hk
  have f0:(op == 0)=false:=by rw [beq_eq_false_iff_ne];omega
  have f22:(op == 22)=false:=by rw [beq_eq_false_iff_ne];omega
  have f15:(op == 15)=false:=by rw [beq_eq_false_iff_ne];omega
  have f16:(op == 16)=false:=by rw [beq_eq_false_iff_ne];omega
  have f23:(op == 23)=false:=by rw [beq_eq_false_iff_ne];omega
  have f1:(op == 1)=false:=by rw [beq_eq_false_iff_ne];omega
  have f2:(op == 2)=false:=by rw [beq_eq_false_iff_ne];omega
  have f17:(op == 17)=false:=by rw [beq_eq_false_iff_ne];omega
  have f18:(op == 18)=false:=by rw [beq_eq_false_iff_ne];omega
  have f19:(op == 19)=false:=by rw [beq_eq_false_iff_ne];omega
  have f20:(op == 20)=false:=by rw [beq_eq_false_iff_ne];omega
  have f21:(op == 21)=false:=by rw [beq_eq_false_iff_ne];omega
  clear hk
  clear hX m xa xb K2
  go_enter Tryz.func86,Tryz.ntmps86
  have hXO:X≠w.heap.size+1:=by omega
  have n1:=HM.out.own.ne K1.out (by decide)
  have n2:=HM.out.bytes.ne K1.out (by decide)
  have n3:=HM.out.zones.ne K1.out (by decide)
  have n4:=HM.out.bytes.ne K3.out (by decide)
  go_wp2_with fail
  refine (reckon_y o K1.out op imm a b ha hb ho HK.out).mono ?_;rintro e w2 ⟨rfl,r1,r2⟩
  have M2:MemAt w2 p g h B T:=HM.out.chg r2 n1 n1 n2 n2 n3 n3
  have M2:=Lib.hid M2
  have X2:HasB w2 X 77 (d.setR a (doV op (d.reg a) (d.reg b))).cs:=r1
  have X2:=Lib.hid X2
  have k3:HasB w2 (w.heap.size+1) 137 [.int .i64 0,.int .i64 0]:=K3.out.chg r2 hXO.symm hXO.symm
  have c4:Chg g X w w2:=(Chg.of K4.out).trans (Chg.r r2)
  have C4:=Lib.hid c4
  clear c4
  have co0':=k3.cell 0
  have co1':=k3.cell 1
  have fo0':=k3.frozen 0
  have fo1':=k3.frozen 1
  simp only [List.getElem?_cons_succ,List.getElem?_cons_zero] at co0' co1'
  have K32:=Lib.hid k3
  clear k3
  go_wp2_with fail
  refine bodyPost_ret (v:=.agg #[.int .i64 0,.int .i64 0]) (by simp [results,Tryz.results86,go_sem,co0',co1']) rfl ⟨rfl,?_⟩
  obtain ⟨q1,q2,q3⟩:=ob_end2 (wh:=.int .i64 0) (ga:=.int .i64 0) M2.out X2.out K32.out C4.out hl
  exact ⟨q1,fun _=>q2,q3⟩
set_option maxRecDepth 100000 in
set_option maxHeartbeats 4000000 in
theorem obey_not {w:World} {X p g h:Nat} {B:List Int} {T:List Bool} {d:Cp} (m:MemAt w p g h B T) (o:d.Ok) (hX:HasB w X 77 d.cs) (imm:Int) (a b:Nat) (ha:a < 8) (hb:b < 8) (hi:U32 imm) (c:Cp) (op:Int) (ho:3≤op∧op≤14) (hk:doK op (d.reg b)=false) :
    Calls Tryz.prog 86 #[.pointer (some ⟨X,0,none⟩),.agg #[.int .i64 op,.int .i64 a,.int .i64 b,.int .u32 imm],.pointer (some ⟨p,0,none⟩)] w (ObP w p g h X T ⟨c,B,4,0⟩):=by
  have xa:=Cp.cs_reg o a ha
  have xb:=Cp.cs_reg o b hb
  obtain ⟨a0,a1⟩:=o.reg a (by omega) (by omega)
  obtain ⟨b0,b1⟩:=o.reg b (by omega) (by omega)
  obtain ⟨pc0,pc1⟩:=o.pc
  have hl:=hX.lt
  have A0:(0:Int)≤(a:Int):=by omega
  have A1:(a:Int) < 8:=by omega
  have B0:(0:Int)≤(b:Int):=by omega
  have B1:(b:Int) < 8:=by omega
  obtain ⟨i0,i1⟩:=hi
  obtain ⟨W1,e1,K1,K2,K3,K4⟩:=boxed hX op a b imm 0
  have HM:=Lib.hid (m.below K4)
  replace e1:(w.alloc (.cells #[.int .i64 op,.int .i64 a,.int .i64 b,.int .u32 imm] 134)).alloc (.cells #[.int .i64 0,.int .i64 0] 137)=W1:=e1
  have y0:=K2.cell 0
  have y1:=K2.cell 1
  have y2:=K2.cell 2
  have y3:=K2.cell 3
  have fo0:=K3.frozen 0
  have fo1:=K3.frozen 1
  have co0:=K3.cell 0
  have co1:=K3.cell 1
  have fx0:=K1.frozen 0
  have fxa:=K1.frozen (1+a)
  have xpc:=(K1.cell 0).trans Cp.cs_pc
  have xca:=(K1.cell (1+a)).trans xa
  have xcb:=(K1.cell (1+b)).trans xb
  simp only [List.getElem?_cons_succ,List.getElem?_cons_zero] at y0 y1 y2 y3 co0 co1
  replace K1:=Lib.hid K1
  replace K3:=Lib.hid K3
  replace K4:=Lib.hid K4
  have HK:=Lib.hid hk
  have f0:(op == 0)=false:=by rw [beq_eq_false_iff_ne];omega
  have f22:(op == 22)=false:=by rw [beq_eq_false_iff_ne];omega
  have f15:(op == 15)=false:=by rw [beq_eq_false_iff_ne];omega
  have f16:(op == 16)=false:=by rw [beq_eq_false_iff_ne];omega
  have f23:(op == 23)=false:=by rw [beq_eq_false_iff_ne];omega
  have f1:(op == 1)=false:=by rw [beq_eq_false_iff_ne];omega
  have f2:(op == 2)=false:=by rw [beq_eq_false_iff_ne];omega
  have f17:(op == 17)=false:=by rw [beq_eq_false_iff_ne];omega
  have f18:(op == 18)=false:=by rw [beq_eq_false_iff_ne];omega
  have f19:(op == 19)=false:=by rw [beq_eq_false_iff_ne];omega
  have f20:(op == 20)=false:=by rw [beq_eq_false_iff_ne];omega
  have f21:(op == 21)=false:=by rw [beq_eq_false_iff_ne];omega
  clear hk
  clear hX m xa xb K2
  go_enter Tryz.func86,Tryz.ntmps86
  have hXO:X≠w.heap.size+1:=by omega
  have n1:=HM.out.own.ne K1.out (by decide)
  have n2:=HM.out.bytes.ne K1.out (by decide)
  have n3:=HM.out.zones.ne K1.out (by decide)
  have n4:=HM.out.bytes.ne K3.out (by decide)
  go_wp2_with fail
  refine (reckon_n o K1.out op imm a b ha hb ho HK.out).mono ?_;rintro e w2 ⟨rfl,r2⟩
  have M2:MemAt w2 p g h B T:=HM.out.below r2
  have M2:=Lib.hid M2
  have X2:HasB w2 X 77 d.cs:=K1.out.below r2
  have X2:=Lib.hid X2
  have k3:HasB w2 (w.heap.size+1) 137 [.int .i64 0,.int .i64 0]:=K3.out.below r2
  have c4:Chg g X w w2:=(Chg.of K4.out).trans (Chg.of r2)
  have C4:=Lib.hid c4
  clear c4
  have co0':=k3.cell 0
  have co1':=k3.cell 1
  have fo0':=k3.frozen 0
  have fo1':=k3.frozen 1
  simp only [List.getElem?_cons_succ,List.getElem?_cons_zero] at co0' co1'
  have K32:=Lib.hid k3
  clear k3
  go_wp2_with fail
  refine bodyPost_ret (v:=.agg #[.int .i64 4,.int .i64 0]) (by simp [results,Tryz.results86,go_sem,co0',co1']) rfl ⟨rfl,?_⟩
  obtain ⟨q1,q2,q3⟩:=ob_end2 (wh:=.int .i64 4) (ga:=.int .i64 0) M2.out X2.out K32.out C4.out hl
  exact ⟨q1,(by rintro (h | h) <;> cases h),q3⟩
end Go.Proofs.YteefmjhemhlapaaGreat.Mm
