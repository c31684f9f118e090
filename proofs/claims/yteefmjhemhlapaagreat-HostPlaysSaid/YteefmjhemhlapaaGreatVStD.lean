/- Merged by wip/tools/regroup: StepDo, StepDoB, StepDoC. -/
import Derived.Test.YteefmjhemhlapaaGreatVStepObeyB
import Derived.Test.YteefmjhemhlapaaGreatVStepObeyC
import Derived.Test.YteefmjhemhlapaaGreatVIsB
import Derived.Test.YteefmjhemhlapaaGreatVStepDoA
import Derived.BigRegion
namespace Go.Proofs.YteefmjhemhlapaaGreat.Mm
open Go.ChangeShapes Go.WideShapes Go.ChangeAt Go.RowKit
set_option linter.unusedVariables false
set_option maxRecDepth 10000
theorem obey_any {w:World} {X p g h:Nat} {B:List Int} {T:List Bool} {c:Cp} {pc:Int} (hpc:U32 pc) (m:MemAt w p g h B T) (o:c.Ok) (hX:HasB w X 77 (c.setPc pc).cs) (op imm a b:Int) (ho:0≤op∧op≤23) (ha:0≤a∧a≤7) (hb:0≤b∧b≤7) (hi:U32 imm) :
    Calls Tryz.prog 86 #[.pointer (some ⟨X,0,none⟩),.agg #[.int .i64 op,.int .i64 a,.int .i64 b,.int .u32 imm],.pointer (some ⟨p,0,none⟩)] w (ObP w p g h X T (exec c (c.setPc pc) B T op a b imm)):=by
  obtain ⟨a,rfl⟩:∃ k:Nat,a=k:=⟨a.toNat,by omega⟩
  obtain ⟨b,rfl⟩:∃ k:Nat,b=k:=⟨b.toNat,by omega⟩
  have ha:a < 8:=by omega
  have hb:b < 8:=by omega
  have o':(c.setPc pc).Ok:=o.setPc hpc
  have ra:(c.setPc pc).reg a=c.reg a:=rfl
  have rb:(c.setPc pc).reg b=c.reg b:=rfl
  by_cases h0:op=0
  · subst h0;rw [exec_0];exact obey_0 m o' hX imm a b ha hb hi c
  by_cases h1:op=1
  · subst h1;rw [exec_1];exact obey_1 m o' hX imm a b ha hb hi
  by_cases h2:op=2
  · subst h2;rw [exec_2];exact obey_2 m o' hX imm a b ha hb hi
  by_cases h15:op=15
  · subst h15
    cases hw:wholeB T (c.reg b) 4
    · rw [exec_15n _ _ _ _ _ _ _ hw];exact obey_15n m o' hX imm a b ha hb hi c hw
    · rw [exec_15y _ _ _ _ _ _ _ hw];exact obey_15y m o' hX imm a b ha hb hi hw
  by_cases h16:op=16
  · subst h16
    cases hw:wholeB T (c.reg a) 4
    · rw [exec_16n _ _ _ _ _ _ _ hw];exact obey_16n m o' hX imm a b ha hb hi c hw
    · rw [exec_16y _ _ _ _ _ _ _ hw];exact obey_16y m o' hX imm a b ha hb hi hw
  by_cases h17:op=17
  · subst h17;rw [exec_17];exact obey_17 m o' hX imm a b ha hb hi
  by_cases h18:op=18
  · subst h18;rw [exec_18];exact obey_18 m o' hX imm a b ha hb hi
  by_cases h19:op=19
  · subst h19;rw [exec_19];exact obey_19 m o' hX imm a b ha hb hi
  by_cases h20:op=20
  · subst h20
    by_cases hz:c.reg a=0
    · rw [exec_20y _ _ _ _ _ _ _ hz];exact obey_20y m o' hX imm a b ha hb hi hz
    · rw [exec_20n _ _ _ _ _ _ _ hz];exact obey_20n m o' hX imm a b ha hb hi hz
  by_cases h21:op=21
  · subst h21;rw [exec_21];exact obey_21 m o' hX imm a b ha hb hi
  by_cases h22:op=22
  · subst h22;rw [exec_22];exact obey_22 m o' hX imm a b ha hb hi
  by_cases h23:op=23
  · subst h23;rw [exec_23];exact obey_23 m o' hX imm a b ha hb hi
  have ho:3≤op∧op≤14:=by omega
  cases hk:doK op (c.reg b)
  · rw [exec_n _ _ _ _ _ _ _ op ho hk];exact obey_not m o' hX imm a b ha hb hi c op ho hk
  · rw [exec_y _ _ _ _ _ _ _ op ho hk];exact obey_yes m o' hX imm a b ha hb hi op ho hk
theorem exec_ok {c:Cp} {B:List Int} {T:List Bool} {pc:Int} (hpc:U32 pc) (o:c.Ok) (hB:Bytes B) (hl:B.length=64 * T.length) (op imm a b:Int) (ho:0≤op∧op≤23) (ha:0≤a∧a≤7) (hb:0≤b∧b≤7) (hi:U32 imm) :
    (exec c (c.setPc pc) B T op a b imm).c.Ok:=by
  have o':(c.setPc pc).Ok:=o.setPc hpc
  have ra:=o.reg a (by omega) (by omega)
  have rb:=o.reg b (by omega) (by omega)
  by_cases h0:op=0
  · subst h0;rw [exec_0];exact o
  by_cases h1:op=1
  · subst h1;rw [exec_1];exact o'.setR _ hi
  by_cases h2:op=2
  · subst h2;rw [exec_2];exact o'.setR _ rb
  by_cases h15:op=15
  · subst h15
    cases hw:wholeB T (c.reg b) 4
    · rw [exec_15n _ _ _ _ _ _ _ hw];exact o
    · rw [exec_15y _ _ _ _ _ _ _ hw];exact o'.setR _ (v4_bd _ _ hB)
  by_cases h16:op=16
  · subst h16
    cases hw:wholeB T (c.reg a) 4
    · rw [exec_16n _ _ _ _ _ _ _ hw];exact o
    · rw [exec_16y _ _ _ _ _ _ _ hw];exact o'
  by_cases h17:op=17
  · subst h17;rw [exec_17];exact o'.setR _ (wrap_u _)
  by_cases h18:op=18
  · subst h18;rw [exec_18];exact o'.setR _ (wrap_u _)
  by_cases h19:op=19
  · subst h19;rw [exec_19];exact o'.setPc (wrap_u _)
  by_cases h20:op=20
  · subst h20
    by_cases hz:c.reg a=0
    · rw [exec_20y _ _ _ _ _ _ _ hz];exact o'.setPc (wrap_u _)
    · rw [exec_20n _ _ _ _ _ _ _ hz];exact o'
  by_cases h21:op=21
  · subst h21;rw [exec_21];exact o'.setPc ra
  by_cases h22:op=22
  · subst h22;rw [exec_22];exact o'
  by_cases h23:op=23
  · subst h23;rw [exec_23];exact o'
  have ho:3≤op∧op≤14:=by omega
  cases hk:doK op (c.reg b)
  · rw [exec_n _ _ _ _ _ _ _ op ho hk];exact o
  · rw [exec_y _ _ _ _ _ _ _ op ho hk];exact o'.setR _ (doV_bd op _ _ ra.1 ra.2 rb.1 rb.2)
def ExW (c:Cp) (B:List Int) (x:Ou):Prop:=(x.what=0∨x.what=1∨x.what=2∨x.what=3∨x.what=4)∧(x.what=0∨x.what=2∨x.c=c∧x.B=B)∧(x.what=2∨x.gate=0)
theorem exw_0 (c:Cp) (B:List Int) (c':Cp) (B':List Int):ExW c B ⟨c',B',0,0⟩:=⟨.inl rfl,.inl rfl,.inr rfl⟩
theorem exw_2 (c:Cp) (B:List Int) (c':Cp) (B':List Int) (g:Int):ExW c B ⟨c',B',2,g⟩:=⟨.inr (.inr (.inl rfl)),.inr (.inl rfl),.inl rfl⟩
theorem exw_1 (c:Cp) (B:List Int):ExW c B ⟨c,B,1,0⟩:=⟨.inr (.inl rfl),.inr (.inr ⟨rfl,rfl⟩),.inr rfl⟩
theorem exw_3 (c:Cp) (B:List Int):ExW c B ⟨c,B,3,0⟩:=⟨.inr (.inr (.inr (.inl rfl))),.inr (.inr ⟨rfl,rfl⟩),.inr rfl⟩
theorem exw_4 (c:Cp) (B:List Int):ExW c B ⟨c,B,4,0⟩:=⟨.inr (.inr (.inr (.inr rfl))),.inr (.inr ⟨rfl,rfl⟩),.inr rfl⟩
theorem exec_what (c d:Cp) (B:List Int) (T:List Bool) (op imm a b:Int) (ho:0≤op∧op≤23):ExW c B (exec c d B T op a b imm):=by
  by_cases h0:op=0
  · subst h0;rw [exec_0];exact exw_1 _ _
  by_cases h1:op=1
  · subst h1;rw [exec_1];exact exw_0 _ _ _ _
  by_cases h2:op=2
  · subst h2;rw [exec_2];exact exw_0 _ _ _ _
  by_cases h15:op=15
  · subst h15
    cases hw:wholeB T (c.reg b) 4
    · rw [exec_15n _ _ _ _ _ _ _ hw];exact exw_3 _ _
    · rw [exec_15y _ _ _ _ _ _ _ hw];exact exw_0 _ _ _ _
  by_cases h16:op=16
  · subst h16
    cases hw:wholeB T (c.reg a) 4
    · rw [exec_16n _ _ _ _ _ _ _ hw];exact exw_3 _ _
    · rw [exec_16y _ _ _ _ _ _ _ hw];exact exw_0 _ _ _ _
  by_cases h17:op=17
  · subst h17;rw [exec_17];exact exw_0 _ _ _ _
  by_cases h18:op=18
  · subst h18;rw [exec_18];exact exw_0 _ _ _ _
  by_cases h19:op=19
  · subst h19;rw [exec_19];exact exw_0 _ _ _ _
  by_cases h20:op=20
  · subst h20
    by_cases hz:c.reg a=0
    · rw [exec_20y _ _ _ _ _ _ _ hz];exact exw_0 _ _ _ _
    · rw [exec_20n _ _ _ _ _ _ _ hz];exact exw_0 _ _ _ _
  by_cases h21:op=21
  · subst h21;rw [exec_21];exact exw_0 _ _ _ _
  by_cases h22:op=22
  · subst h22;rw [exec_22];exact exw_2 _ _ _ _ _
  by_cases h23:op=23
  · subst h23;rw [exec_23];exact exw_0 _ _ _ _
  have ho:3≤op∧op≤14:=by omega
  cases hk:doK op (c.reg b)
  · rw [exec_n _ _ _ _ _ _ _ op ho hk];exact exw_4 _ _
  · rw [exec_y _ _ _ _ _ _ _ op ho hk];exact exw_0 _ _ _ _
end Go.Proofs.YteefmjhemhlapaaGreat.Mm
namespace Go.Proofs.YteefmjhemhlapaaGreat.Mm
open Go.ChangeShapes Go.WideShapes Go.ChangeAt Go.RowKit
set_option linter.unusedVariables false
set_option maxRecDepth 10000
theorem DoS.chg {w W W':World} {p g h N:Nat} {B:List Int} {T:List Bool} {pc r0 r1 r2 r3 r4 r5 r6 r7 b s:Int} {t:TypeId} {cs:List Value} (k:DoS w p g h B T pc r0 r1 r2 r3 r4 r5 r6 r7 b s W) (hN:HasB W N t cs) (h1:t≠107) (h2:t≠5) (h3:t≠4) (hgt:w.heap.size+1+1 < N) (c:Chg N N W W') :
    DoS w p g h B T pc r0 r1 r2 r3 r4 r5 r6 r7 b s W':=by
  have a1:=k.m.own.ne hN h1.symm
  have a2:=k.m.bytes.ne hN h2.symm
  have a3:=k.m.zones.ne hN h3.symm
  exact ⟨k.m.chg c a1 a1 a2 a2 a3 a3,k.c.chg c (by omega) (by omega),k.d.chg c (by omega) (by omega),k.o.chg c (by omega) (by omega),c.below k.bel k.bel.size (by omega) (by omega)⟩
theorem do_worlds {w w2:World} {p g h:Nat} {B:List Int} {T:List Bool} {pc r0 r1 r2 r3 r4 r5 r6 r7 b s:Int} (k:DoS w p g h B T pc r0 r1 r2 r3 r4 r5 r6 r7 b s w2) (op x y imm pc':Int) :
    ∃ W3 W4 W5 W6 W7,w2.alloc (.cells #[.int .i64 0,.int .i64 0,.int .i64 0,.int .u32 0] 134)=W3∧((((W3.setCell ⟨w2.heap.size,0,none⟩ (.int .i64 op)).setCell ⟨w2.heap.size,1,none⟩ (.int .i64 x)).setCell ⟨w2.heap.size,2,none⟩ (.int .i64 y)).setCell ⟨w2.heap.size,3,none⟩ (.int .u32 imm))=W4∧W4.alloc (.cells #[.int .u32 0,.int .u32 0,.int .u32 0,.int .u32 0,.int .u32 0,.int .u32 0,.int .u32 0,.int .u32 0,.int .u32 0,.int .u32 0,.int .u32 0] 77)=W5∧(((((((((((W5.setCell ⟨W4.heap.size,0,none⟩ (.int .u32 pc)).setCell ⟨W4.heap.size,1,none⟩ (.int .u32 r0)).setCell ⟨W4.heap.size,2,none⟩ (.int .u32 r1)).setCell ⟨W4.heap.size,3,none⟩ (.int .u32 r2)).setCell ⟨W4.heap.size,4,none⟩ (.int .u32 r3)).setCell ⟨W4.heap.size,5,none⟩ (.int .u32 r4)).setCell ⟨W4.heap.size,6,none⟩ (.int .u32 r5)).setCell ⟨W4.heap.size,7,none⟩ (.int .u32 r6)).setCell ⟨W4.heap.size,8,none⟩ (.int .u32 r7)).setCell ⟨W4.heap.size,9,none⟩ (.int .u32 b)).setCell ⟨W4.heap.size,10,none⟩ (.int .u32 s))=W6∧W6.setCell ⟨W4.heap.size,0,none⟩ (.int .u32 pc')=W7 ∧
      HasB W3 w2.heap.size 134 [.int .i64 0,.int .i64 0,.int .i64 0,.int .u32 0]∧DoS w p g h B T pc r0 r1 r2 r3 r4 r5 r6 r7 b s W4∧HasB W5 W4.heap.size 77 [.int .u32 0,.int .u32 0,.int .u32 0,.int .u32 0,.int .u32 0,.int .u32 0,.int .u32 0,.int .u32 0,.int .u32 0,.int .u32 0,.int .u32 0]∧HasB W6 W4.heap.size 77 [.int .u32 pc,.int .u32 r0,.int .u32 r1,.int .u32 r2,.int .u32 r3,.int .u32 r4,.int .u32 r5,.int .u32 r6,.int .u32 r7,.int .u32 b,.int .u32 s] ∧
      DoS w p g h B T pc r0 r1 r2 r3 r4 r5 r6 r7 b s W7∧HasB W7 w2.heap.size 134 [.int .i64 op,.int .i64 x,.int .i64 y,.int .u32 imm]∧HasB W7 W4.heap.size 77 [.int .u32 pc',.int .u32 r0,.int .u32 r1,.int .u32 r2,.int .u32 r3,.int .u32 r4,.int .u32 r5,.int .u32 r6,.int .u32 r7,.int .u32 b,.int .u32 s]∧w.heap.size+1+1 < w2.heap.size∧w2.heap.size < W4.heap.size:=by
  have z0:=k.o.lt
  refine ⟨_,_,_,_,_,rfl,rfl,rfl,rfl,rfl,?_⟩
  generalize e3:w2.alloc (.cells #[.int .i64 0,.int .i64 0,.int .i64 0,.int .u32 0] 134)=W3
  have hI:HasB W3 w2.heap.size 134 [.int .i64 0,.int .i64 0,.int .i64 0,.int .u32 0]:=by rw [← e3];exact HasB.newAt _ _ _ _ rfl
  have K3:DoS w p g h B T pc r0 r1 r2 r3 r4 r5 r6 r7 b s W3:=by rw [← e3];exact k.below (bel_al (Below.refl _ _) _)
  have s3:=hI.lt
  generalize e4:((((W3.setCell ⟨w2.heap.size,0,none⟩ (.int .i64 op)).setCell ⟨w2.heap.size,1,none⟩ (.int .i64 x)).setCell ⟨w2.heap.size,2,none⟩ (.int .i64 y)).setCell ⟨w2.heap.size,3,none⟩ (.int .u32 imm))=W4
  have hI4:HasB W4 w2.heap.size 134 [.int .i64 op,.int .i64 x,.int .i64 y,.int .u32 imm]:=by rw [← e4];exact has_set (has_set (has_set (has_set (hI) 0 _) 1 _) 2 _) 3 _
  have K4:DoS w p g h B T pc r0 r1 r2 r3 r4 r5 r6 r7 b s W4:=by rw [← e4];exact K3.chg hI (by decide) (by decide) (by decide) z0 (chg_set (chg_set (chg_set (chg_set (Chg.refl _ _ _) _ (.inl rfl) _ _) _ (.inl rfl) _ _) _ (.inl rfl) _ _) _ (.inl rfl) _ _)
  have s4:w2.heap.size < W4.heap.size:=hI4.lt
  generalize e5:W4.alloc (.cells #[.int .u32 0,.int .u32 0,.int .u32 0,.int .u32 0,.int .u32 0,.int .u32 0,.int .u32 0,.int .u32 0,.int .u32 0,.int .u32 0,.int .u32 0] 77)=W5
  have hN:HasB W5 W4.heap.size 77 [.int .u32 0,.int .u32 0,.int .u32 0,.int .u32 0,.int .u32 0,.int .u32 0,.int .u32 0,.int .u32 0,.int .u32 0,.int .u32 0,.int .u32 0]:=by rw [← e5];exact HasB.newAt _ _ _ _ rfl
  have K5:DoS w p g h B T pc r0 r1 r2 r3 r4 r5 r6 r7 b s W5:=by rw [← e5];exact K4.below (bel_al (Below.refl _ _) _)
  have hI5:HasB W5 w2.heap.size 134 [.int .i64 op,.int .i64 x,.int .i64 y,.int .u32 imm]:=by rw [← e5];exact hI4.al _
  generalize e6:(((((((((((W5.setCell ⟨W4.heap.size,0,none⟩ (.int .u32 pc)).setCell ⟨W4.heap.size,1,none⟩ (.int .u32 r0)).setCell ⟨W4.heap.size,2,none⟩ (.int .u32 r1)).setCell ⟨W4.heap.size,3,none⟩ (.int .u32 r2)).setCell ⟨W4.heap.size,4,none⟩ (.int .u32 r3)).setCell ⟨W4.heap.size,5,none⟩ (.int .u32 r4)).setCell ⟨W4.heap.size,6,none⟩ (.int .u32 r5)).setCell ⟨W4.heap.size,7,none⟩ (.int .u32 r6)).setCell ⟨W4.heap.size,8,none⟩ (.int .u32 r7)).setCell ⟨W4.heap.size,9,none⟩ (.int .u32 b)).setCell ⟨W4.heap.size,10,none⟩ (.int .u32 s))=W6
  have hN6:HasB W6 W4.heap.size 77 [.int .u32 pc,.int .u32 r0,.int .u32 r1,.int .u32 r2,.int .u32 r3,.int .u32 r4,.int .u32 r5,.int .u32 r6,.int .u32 r7,.int .u32 b,.int .u32 s]:=by rw [← e6];exact has_set (has_set (has_set (has_set (has_set (has_set (has_set (has_set (has_set (has_set (has_set (hN) 0 _) 1 _) 2 _) 3 _) 4 _) 5 _) 6 _) 7 _) 8 _) 9 _) 10 _
  have c6:Chg W4.heap.size W4.heap.size W5 W6:=by rw [← e6];exact chg_set (chg_set (chg_set (chg_set (chg_set (chg_set (chg_set (chg_set (chg_set (chg_set (chg_set (Chg.refl _ _ _) _ (.inl rfl) _ _) _ (.inl rfl) _ _) _ (.inl rfl) _ _) _ (.inl rfl) _ _) _ (.inl rfl) _ _) _ (.inl rfl) _ _) _ (.inl rfl) _ _) _ (.inl rfl) _ _) _ (.inl rfl) _ _) _ (.inl rfl) _ _) _ (.inl rfl) _ _
  have K6:=K5.chg hN (by decide) (by decide) (by decide) (by omega) c6
  have hI6:=hI5.chg c6 (by omega) (by omega)
  have c7:Chg W4.heap.size W4.heap.size W6 (W6.setCell ⟨W4.heap.size,0,none⟩ (.int .u32 pc')):=chg_set (Chg.refl _ _ _) _ (.inl rfl) _ _
  exact ⟨hI,K4,hN,hN6,K6.chg hN6 (by decide) (by decide) (by decide) (by omega) c7,hI6.chg c7 (by omega) (by omega),has_set hN6 0 _,z0,s4⟩
structure DoT (w:World) (p g h:Nat) (B:List Int) (T:List Bool) (pc r0 r1 r2 r3 r4 r5 r6 r7 b s:Int) (W:World):Prop where
  m:MemAt W p g h B T
  c:HasB W w.heap.size 77 [.int .u32 pc,.int .u32 r0,.int .u32 r1,.int .u32 r2,.int .u32 r3,.int .u32 r4,.int .u32 r5,.int .u32 r6,.int .u32 r7,.int .u32 b,.int .u32 s]
  d:HasB W (w.heap.size+1) 77 [.int .u32 0,.int .u32 0,.int .u32 0,.int .u32 0,.int .u32 0,.int .u32 0,.int .u32 0,.int .u32 0,.int .u32 0,.int .u32 0,.int .u32 0]
  o:HasB W (w.heap.size+1+1) 137 [.int .i64 0,.int .i64 0]
  chg:Chg g g w W
theorem DoS.obey {w W W':World} {p g h N:Nat} {B B':List Int} {T:List Bool} {pc r0 r1 r2 r3 r4 r5 r6 r7 b s:Int} (k:DoS w p g h B T pc r0 r1 r2 r3 r4 r5 r6 r7 b s W) (m:MemAt W' p g h B' T) (hgt:w.heap.size+1+1 < N) (c:Chg g N W W') :
    DoT w p g h B' T pc r0 r1 r2 r3 r4 r5 r6 r7 b s W':=by
  have a1:=k.m.bytes.ne k.c (by decide)
  have a2:=k.m.bytes.ne k.d (by decide)
  have a3:=k.m.bytes.ne k.o (by decide)
  have hz:=k.bel.size
  exact ⟨m,k.c.chg c a1.symm (by omega),k.d.chg c a2.symm (by omega),k.o.chg c a3.symm (by omega),
    ⟨c.os.trans k.bel.os,c.tape.trans k.bel.tape,c.output.trans k.bel.output,Nat.le_trans hz c.size,fun j hj h1 _=>(c.block j (by omega) h1 (by omega)).trans (k.bel.block j hj)⟩⟩
theorem do_out {w w8:World} {p g h:Nat} {B:List Int} {T:List Bool} {pc r0 r1 r2 r3 r4 r5 r6 r7 b s:Int} (k:DoT w p g h B T pc r0 r1 r2 r3 r4 r5 r6 r7 b s w8) (wh ga:Int) :
    ∃ W9 W10,w8.alloc (.cells #[.int .i64 0,.int .i64 0] 137)=W9∧(W9.setCell ⟨w8.heap.size,0,none⟩ (.int .i64 wh)).setCell ⟨w8.heap.size,1,none⟩ (.int .i64 ga)=W10∧HasB W9 w8.heap.size 137 [.int .i64 0,.int .i64 0]∧HasB W10 w8.heap.size 137 [.int .i64 wh,.int .i64 ga] ∧
      DoT w p g h B T pc r0 r1 r2 r3 r4 r5 r6 r7 b s W10∧w.heap.size+1+1 < w8.heap.size∧(∀ (N:Nat) (t:TypeId) (cs:List Value),HasB w8 N t cs→HasB W10 N t cs):=by
  have z0:=k.o.lt
  refine ⟨_,_,rfl,rfl,?_⟩
  generalize e9:w8.alloc (.cells #[.int .i64 0,.int .i64 0] 137)=W9
  have b9:Below w8.heap.size w8 W9:=by rw [← e9];exact bel_al (Below.refl _ _) _
  have hO:HasB W9 w8.heap.size 137 [.int .i64 0,.int .i64 0]:=by rw [← e9];exact HasB.newAt _ _ _ _ rfl
  have c10:Chg w8.heap.size w8.heap.size W9 ((W9.setCell ⟨w8.heap.size,0,none⟩ (.int .i64 wh)).setCell ⟨w8.heap.size,1,none⟩ (.int .i64 ga)):=chg_set (chg_set (Chg.refl _ _ _) _ (.inl rfl) _ _) _ (.inl rfl) _ _
  have m9:=k.m.below b9
  have a1:=m9.own.ne hO (by decide)
  have a2:=m9.bytes.ne hO (by decide)
  have a3:=m9.zones.ne hO (by decide)
  have hz:=k.chg.size
  exact ⟨hO,has_set (has_set hO 0 _) 1 _,⟨m9.chg c10 a1 a1 a2 a2 a3 a3,(k.c.below b9).chg c10 (by omega) (by omega),(k.d.below b9).chg c10 (by omega) (by omega),(k.o.below b9).chg c10 (by omega) (by omega),
    ⟨c10.os.trans (b9.os.trans k.chg.os),c10.tape.trans (b9.tape.trans k.chg.tape),c10.output.trans (b9.output.trans k.chg.output),Nat.le_trans hz (Nat.le_trans b9.size c10.size),fun j hj h1 h2=>((c10.block j (Nat.lt_of_lt_of_le hj (Nat.le_trans hz b9.size)) (by omega) (by omega)).trans (b9.block j (by omega))).trans (k.chg.block j hj h1 h2)⟩⟩,z0,fun N t cs hh=>(hh.below b9).chg c10 (by have:=hh.lt;omega) (by have:=hh.lt;omega)⟩
set_option maxRecDepth 100000 in
set_option maxHeartbeats 8000000 in
theorem do_keep {w:World} {p g h:Nat} {B B':List Int} {T:List Bool} {c':Cp} (m:MemAt w p g h B T) (pc r0 r1 r2 r3 r4 r5 r6 r7 b s op x y imm wh ga:Int) (n:Nat) (h0:0≤pc) (h1:pc < 4294967296) (hn:1≤n) (hn':n≤6) (hrd:Rd (codeL B T pc) op x y imm n)
    (CO:∀ W N,MemAt W p g h B T→HasB W N 77 [.int .u32 ((pc+n) % 4294967296),.int .u32 r0,.int .u32 r1,.int .u32 r2,.int .u32 r3,.int .u32 r4,.int .u32 r5,.int .u32 r6,.int .u32 r7,.int .u32 b,.int .u32 s] →
      Calls Tryz.prog 86 #[.pointer (some ⟨N,0,none⟩),.agg #[.int .i64 op,.int .i64 x,.int .i64 y,.int .u32 imm],.pointer (some ⟨p,0,none⟩)] W (ObP W p g h N T ⟨c',B',wh,ga⟩)) (hw:(wh != 0)=true) (hw':(wh != 2)=true) :
    Calls Tryz.prog 75 #[.agg #[.int .u32 pc,.int .u32 r0,.int .u32 r1,.int .u32 r2,.int .u32 r3,.int .u32 r4,.int .u32 r5,.int .u32 r6,.int .u32 r7,.int .u32 b,.int .u32 s],.pointer (some ⟨p,0,none⟩)] w (DoP w p g h T ⟨⟨pc,[r0,r1,r2,r3,r4,r5,r6,r7],b,s⟩,B',wh,ga⟩):=by
  obtain ⟨W,e1,k⟩:=DoS.new m pc r0 r1 r2 r3 r4 r5 r6 r7 b s
  have K:=Lib.hid k
  have y0:=k.c.cell 0
  simp only [List.getElem?_cons_zero] at y0
  have hl:(codeL B T pc).length≤6:=codeL_le B T pc
  have hl0:0 < (codeL B T pc).length:=by obtain ⟨_,t,e,_⟩:=hrd;rw [e];simp
  obtain ⟨L,hL⟩:∃ L,codeL B T pc=L:=⟨_,rfl⟩
  have FE:=fun (W:World) (m:MemAt W p g h B T)=>fetch_any m pc h0 h1
  rw [hL] at FE hrd hl hl0
  have HN:=Lib.hid hrd
  replace FE:=Lib.hid FE
  replace CO:=Lib.hid CO
  obtain ⟨nl,hLn⟩:∃ n,L.length=n:=⟨_,rfl⟩
  have HLn:=Lib.hid hLn
  rw [hLn] at hl hl0
  have g0:((nl:Int) == 0)=false:=by rw [beq_eq_false_iff_ne];omega
  have gn:((n:Int) == 0)=false:=by rw [beq_eq_false_iff_ne];omega
  have N0:(1:Int)≤(n:Int):=by omega
  have N1:(n:Int)≤6:=by omega
  clear k m hrd hL hLn
  go_enter Tryz.func75,Tryz.ntmps75
  go_wp2_with fail
  refine (FE.out _ K.out.m).mono ?_;rintro e w1 ⟨A,cap,rfl,hr,hb⟩
  rw [HLn.out]
  clear y0 e1
  have K1:=Lib.hid (K.out.below hb)
  clear hb K
  have HR:=Lib.hid hr
  clear hr
  go_wp2_with fail
  have RN:=Read_yes L A cap 0 op x y imm n (by rw [HLn.out];omega) HN.out w1 HR.out
  rw [HLn.out] at RN
  refine RN.mono ?_;rintro e w2 ⟨rfl,hb⟩
  unfold insV
  clear RN
  have K2:=Lib.hid (K1.out.below hb)
  clear hb K1
  obtain ⟨W3,W4,W5,W6,W7,e3,e4,e5,e6,e7,hI,K4,hN,hN6,K7,hI7,hN7,z0,z4⟩:=do_worlds K2.out op x y imm ((pc+n) % 4294967296)
  obtain ⟨⟨t0,t1⟩,⟨t2,t3⟩⟩:(W3.cell? ⟨w2.heap.size,0,none⟩=some (.int .i64 0)∧W3.cell? ⟨w2.heap.size,1,none⟩=some (.int .i64 0))∧(W3.cell? ⟨w2.heap.size,2,none⟩=some (.int .i64 0)∧W3.cell? ⟨w2.heap.size,3,none⟩=some (.int .u32 0)):=⟨⟨hI.cell 0,hI.cell 1⟩,⟨hI.cell 2,hI.cell 3⟩⟩
  have u0:=hI.frozen 0
  have u1:=hI.frozen 1
  have u2:=hI.frozen 2
  have u3:=hI.frozen 3
  obtain ⟨⟨c0,c1,c2,c3,c4,c5,c6,c7,c8,c9,c10⟩,_⟩:=has11 K4.c
  obtain ⟨⟨m0,m1,m2,m3,m4,m5,m6,m7,m8,m9,m10⟩,⟨f0,f1,f2,f3,f4,f5,f6,f7,f8,f9,f10⟩⟩:=has11 hN
  have p0:=hN6.cell 0
  have p1:=hN6.frozen 0
  obtain ⟨⟨q0,q1⟩,⟨q2,q3⟩⟩:(W7.cell? ⟨w2.heap.size,0,none⟩=some (.int .i64 op)∧W7.cell? ⟨w2.heap.size,1,none⟩=some (.int .i64 x))∧(W7.cell? ⟨w2.heap.size,2,none⟩=some (.int .i64 y)∧W7.cell? ⟨w2.heap.size,3,none⟩=some (.int .u32 imm)):=⟨⟨hI7.cell 0,hI7.cell 1⟩,⟨hI7.cell 2,hI7.cell 3⟩⟩
  simp only [List.getElem?_cons_zero] at p0
  have HK7:=Lib.hid K7
  have HN7:=Lib.hid hN7
  clear hI K4 hN hN6 K7 hI7 hN7
  go_wp2_with fail
  refine (CO.out _ _ HK7.out.m HN7.out).mono ?_;rintro e w8 ⟨rfl,r1,r2,r3⟩
  dsimp only at r1 r2
  have K8:=Lib.hid (HK7.out.obey r1 (by omega) r3)
  have HR2:=Lib.hid r2
  clear r1 r2 r3 HK7 HN7 e3 e4 e5 e6 e7 t0 t1 t2 t3 u0 u1 u2 u3 c0 c1 c2 c3 c4 c5 c6 c7 c8 c9 c10 m0 m1 m2 m3 m4 m5 m6 m7 m8 m9 m10 f0 f1 f2 f3 f4 f5 f6 f7 f8 f9 f10 p0 p1 q0 q1 q2 q3 CO FE HR
  obtain ⟨W9,W10,e9,e10,hO,hO',K10,z8,HA⟩:=do_out K8.out wh ga
  obtain ⟨⟨t0,t1⟩,⟨t2,t3⟩⟩:=has2 hO
  obtain ⟨⟨u0,u1⟩,⟨u2,u3⟩⟩:=has2 hO'
  obtain ⟨⟨c0,c1,c2,c3,c4,c5,c6,c7,c8,c9,c10⟩,_⟩:=has11 K10.c
  obtain ⟨⟨d0,d1,d2,d3,d4,d5,d6,d7,d8,d9,d10⟩,⟨f0,f1,f2,f3,f4,f5,f6,f7,f8,f9,f10⟩⟩:=has11 K10.d
  obtain ⟨⟨o0,o1⟩,⟨q0,q1⟩⟩:=has2 K10.o
  have n0:¬ w8.heap.size=w.heap.size:=by omega
  have n1:¬ w8.heap.size=w.heap.size+1:=by omega
  have n2:¬ w8.heap.size=w.heap.size+1+1:=by omega
  have n3:¬ w.heap.size=w8.heap.size:=by omega
  have n4:¬ w.heap.size+1=w8.heap.size:=by omega
  have n5:¬ w.heap.size+1+1=w8.heap.size:=by omega
  replace K10:=Lib.hid K10
  replace HA:=Lib.hid HA
  clear hO hO'
  go_wp2_with fail
  go_region
  all_goals go_wp2_with fail
  all_goals refine bodyPost_ret (v:=.tuple #[.agg #[.int .u32 pc,.int .u32 r0,.int .u32 r1,.int .u32 r2,.int .u32 r3,.int .u32 r4,.int .u32 r5,.int .u32 r6,.int .u32 r7,.int .u32 b,.int .u32 s],.agg #[.int .i64 wh,.int .i64 ga]]) (by simp [results,Tryz.results75,go_sem,d0,d1,d2,d3,d4,d5,d6,d7,d8,d9,d10,o0,o1]) rfl ⟨rfl,?_⟩
  all_goals obtain ⟨x1,x2⟩:=st13 K10.out.m K10.out.d K10.out.o K10.out.chg (.int .u32 pc) (.int .u32 r0) (.int .u32 r1) (.int .u32 r2) (.int .u32 r3) (.int .u32 r4) (.int .u32 r5) (.int .u32 r6) (.int .u32 r7) (.int .u32 b) (.int .u32 s) (.int .i64 wh) (.int .i64 ga)
  all_goals exact ⟨x1.below (Below.refl _ _).drew,chg_drew x2⟩
set_option maxRecDepth 100000 in
set_option maxHeartbeats 8000000 in
theorem do_go0 {w:World} {p g h:Nat} {B B':List Int} {T:List Bool}  (m:MemAt w p g h B T) (pc r0 r1 r2 r3 r4 r5 r6 r7 b s op x y imm wh ga pc2 s0 s1 s2 s3 s4 s5 s6 s7 b2 z2:Int) (n:Nat) (h0:0≤pc) (h1:pc < 4294967296) (hn:1≤n) (hn':n≤6) (hrd:Rd (codeL B T pc) op x y imm n)
    (CO:∀ W N,MemAt W p g h B T→HasB W N 77 [.int .u32 ((pc+n) % 4294967296),.int .u32 r0,.int .u32 r1,.int .u32 r2,.int .u32 r3,.int .u32 r4,.int .u32 r5,.int .u32 r6,.int .u32 r7,.int .u32 b,.int .u32 s] →
      Calls Tryz.prog 86 #[.pointer (some ⟨N,0,none⟩),.agg #[.int .i64 op,.int .i64 x,.int .i64 y,.int .u32 imm],.pointer (some ⟨p,0,none⟩)] W (ObP W p g h N T ⟨⟨pc2,[s0,s1,s2,s3,s4,s5,s6,s7],b2,z2⟩,B',wh,ga⟩)) (hw:wh=0) :
    Calls Tryz.prog 75 #[.agg #[.int .u32 pc,.int .u32 r0,.int .u32 r1,.int .u32 r2,.int .u32 r3,.int .u32 r4,.int .u32 r5,.int .u32 r6,.int .u32 r7,.int .u32 b,.int .u32 s],.pointer (some ⟨p,0,none⟩)] w (DoP w p g h T ⟨⟨pc2,[s0,s1,s2,s3,s4,s5,s6,s7],b2,z2⟩,B',wh,ga⟩):=by
  have hw1:(wh != 0)=false:=by rw [hw];rfl
  have HW:=Lib.hid hw
  clear hw
  obtain ⟨W,e1,k⟩:=DoS.new m pc r0 r1 r2 r3 r4 r5 r6 r7 b s
  have K:=Lib.hid k
  have y0:=k.c.cell 0
  simp only [List.getElem?_cons_zero] at y0
  have hl:(codeL B T pc).length≤6:=codeL_le B T pc
  have hl0:0 < (codeL B T pc).length:=by obtain ⟨_,t,e,_⟩:=hrd;rw [e];simp
  obtain ⟨L,hL⟩:∃ L,codeL B T pc=L:=⟨_,rfl⟩
  have FE:=fun (W:World) (m:MemAt W p g h B T)=>fetch_any m pc h0 h1
  rw [hL] at FE hrd hl hl0
  have HN:=Lib.hid hrd
  replace FE:=Lib.hid FE
  replace CO:=Lib.hid CO
  obtain ⟨nl,hLn⟩:∃ n,L.length=n:=⟨_,rfl⟩
  have HLn:=Lib.hid hLn
  rw [hLn] at hl hl0
  have g0:((nl:Int) == 0)=false:=by rw [beq_eq_false_iff_ne];omega
  have gn:((n:Int) == 0)=false:=by rw [beq_eq_false_iff_ne];omega
  have N0:(1:Int)≤(n:Int):=by omega
  have N1:(n:Int)≤6:=by omega
  clear k m hrd hL hLn
  go_enter Tryz.func75,Tryz.ntmps75
  go_wp2_with fail
  refine (FE.out _ K.out.m).mono ?_;rintro e w1 ⟨A,cap,rfl,hr,hb⟩
  rw [HLn.out]
  clear y0 e1
  have K1:=Lib.hid (K.out.below hb)
  clear hb K
  have HR:=Lib.hid hr
  clear hr
  go_wp2_with fail
  have RN:=Read_yes L A cap 0 op x y imm n (by rw [HLn.out];omega) HN.out w1 HR.out
  rw [HLn.out] at RN
  refine RN.mono ?_;rintro e w2 ⟨rfl,hb⟩
  unfold insV
  clear RN
  have K2:=Lib.hid (K1.out.below hb)
  clear hb K1
  obtain ⟨W3,W4,W5,W6,W7,e3,e4,e5,e6,e7,hI,K4,hN,hN6,K7,hI7,hN7,z0,z4⟩:=do_worlds K2.out op x y imm ((pc+n) % 4294967296)
  obtain ⟨⟨t0,t1⟩,⟨t2,t3⟩⟩:(W3.cell? ⟨w2.heap.size,0,none⟩=some (.int .i64 0)∧W3.cell? ⟨w2.heap.size,1,none⟩=some (.int .i64 0))∧(W3.cell? ⟨w2.heap.size,2,none⟩=some (.int .i64 0)∧W3.cell? ⟨w2.heap.size,3,none⟩=some (.int .u32 0)):=⟨⟨hI.cell 0,hI.cell 1⟩,⟨hI.cell 2,hI.cell 3⟩⟩
  have u0:=hI.frozen 0
  have u1:=hI.frozen 1
  have u2:=hI.frozen 2
  have u3:=hI.frozen 3
  obtain ⟨⟨c0,c1,c2,c3,c4,c5,c6,c7,c8,c9,c10⟩,_⟩:=has11 K4.c
  obtain ⟨⟨m0,m1,m2,m3,m4,m5,m6,m7,m8,m9,m10⟩,⟨f0,f1,f2,f3,f4,f5,f6,f7,f8,f9,f10⟩⟩:=has11 hN
  have p0:=hN6.cell 0
  have p1:=hN6.frozen 0
  obtain ⟨⟨q0,q1⟩,⟨q2,q3⟩⟩:(W7.cell? ⟨w2.heap.size,0,none⟩=some (.int .i64 op)∧W7.cell? ⟨w2.heap.size,1,none⟩=some (.int .i64 x))∧(W7.cell? ⟨w2.heap.size,2,none⟩=some (.int .i64 y)∧W7.cell? ⟨w2.heap.size,3,none⟩=some (.int .u32 imm)):=⟨⟨hI7.cell 0,hI7.cell 1⟩,⟨hI7.cell 2,hI7.cell 3⟩⟩
  simp only [List.getElem?_cons_zero] at p0
  have HK7:=Lib.hid K7
  have HN7:=Lib.hid hN7
  clear hI K4 hN hN6 K7 hI7 hN7
  go_wp2_with fail
  refine (CO.out _ _ HK7.out.m HN7.out).mono ?_;rintro e w8 ⟨rfl,r1,r2,r3⟩
  dsimp only at r1 r2
  have K8:=Lib.hid (HK7.out.obey r1 (by omega) r3)
  have HR2:=Lib.hid r2
  clear r1 r2 r3 HK7 HN7 e3 e4 e5 e6 e7 t0 t1 t2 t3 u0 u1 u2 u3 c0 c1 c2 c3 c4 c5 c6 c7 c8 c9 c10 m0 m1 m2 m3 m4 m5 m6 m7 m8 m9 m10 f0 f1 f2 f3 f4 f5 f6 f7 f8 f9 f10 p0 p1 q0 q1 q2 q3 CO FE HR
  obtain ⟨W9,W10,e9,e10,hO,hO',K10,z8,HA⟩:=do_out K8.out wh ga
  obtain ⟨⟨t0,t1⟩,⟨t2,t3⟩⟩:=has2 hO
  obtain ⟨⟨u0,u1⟩,⟨u2,u3⟩⟩:=has2 hO'
  obtain ⟨⟨c0,c1,c2,c3,c4,c5,c6,c7,c8,c9,c10⟩,_⟩:=has11 K10.c
  obtain ⟨⟨d0,d1,d2,d3,d4,d5,d6,d7,d8,d9,d10⟩,⟨f0,f1,f2,f3,f4,f5,f6,f7,f8,f9,f10⟩⟩:=has11 K10.d
  obtain ⟨⟨o0,o1⟩,⟨q0,q1⟩⟩:=has2 K10.o
  have hN2:=HA W4.heap.size _ _ (HR2.out (by exact .inl HW.out))
  obtain ⟨⟨v0,v1,v2,v3,v4,v5,v6,v7,v8,v9,v10⟩,_⟩:=has11 hN2
  clear hN2
  have n0:¬ w8.heap.size=w.heap.size:=by omega
  have n6:¬ W4.heap.size=w.heap.size+1:=by omega
  have n7:¬ W4.heap.size=w.heap.size+1+1:=by omega
  have n8:¬ w.heap.size+1=W4.heap.size:=by omega
  have n9:¬ w.heap.size+1+1=W4.heap.size:=by omega
  have n1:¬ w8.heap.size=w.heap.size+1:=by omega
  have n2:¬ w8.heap.size=w.heap.size+1+1:=by omega
  have n3:¬ w.heap.size=w8.heap.size:=by omega
  have n4:¬ w.heap.size+1=w8.heap.size:=by omega
  have n5:¬ w.heap.size+1+1=w8.heap.size:=by omega
  replace K10:=Lib.hid K10
  replace HA:=Lib.hid HA
  clear hO hO'
  go_wp2_with fail
  go_region
  all_goals go_wp2_with fail
  all_goals refine bodyPost_ret (v:=.tuple #[.agg #[.int .u32 pc2,.int .u32 s0,.int .u32 s1,.int .u32 s2,.int .u32 s3,.int .u32 s4,.int .u32 s5,.int .u32 s6,.int .u32 s7,.int .u32 b2,.int .u32 z2],.agg #[.int .i64 wh,.int .i64 ga]]) (by simp [results,Tryz.results75,go_sem,d0,d1,d2,d3,d4,d5,d6,d7,d8,d9,d10,o0,o1]) rfl ⟨rfl,?_⟩
  all_goals obtain ⟨x1,x2⟩:=st13 K10.out.m K10.out.d K10.out.o K10.out.chg (.int .u32 pc2) (.int .u32 s0) (.int .u32 s1) (.int .u32 s2) (.int .u32 s3) (.int .u32 s4) (.int .u32 s5) (.int .u32 s6) (.int .u32 s7) (.int .u32 b2) (.int .u32 z2) (.int .i64 wh) (.int .i64 ga)
  all_goals exact ⟨x1.below (Below.refl _ _).drew,chg_drew x2⟩
set_option maxRecDepth 100000 in
set_option maxHeartbeats 8000000 in
theorem do_go2 {w:World} {p g h:Nat} {B B':List Int} {T:List Bool}  (m:MemAt w p g h B T) (pc r0 r1 r2 r3 r4 r5 r6 r7 b s op x y imm wh ga pc2 s0 s1 s2 s3 s4 s5 s6 s7 b2 z2:Int) (n:Nat) (h0:0≤pc) (h1:pc < 4294967296) (hn:1≤n) (hn':n≤6) (hrd:Rd (codeL B T pc) op x y imm n)
    (CO:∀ W N,MemAt W p g h B T→HasB W N 77 [.int .u32 ((pc+n) % 4294967296),.int .u32 r0,.int .u32 r1,.int .u32 r2,.int .u32 r3,.int .u32 r4,.int .u32 r5,.int .u32 r6,.int .u32 r7,.int .u32 b,.int .u32 s] →
      Calls Tryz.prog 86 #[.pointer (some ⟨N,0,none⟩),.agg #[.int .i64 op,.int .i64 x,.int .i64 y,.int .u32 imm],.pointer (some ⟨p,0,none⟩)] W (ObP W p g h N T ⟨⟨pc2,[s0,s1,s2,s3,s4,s5,s6,s7],b2,z2⟩,B',wh,ga⟩)) (hw:wh=2) :
    Calls Tryz.prog 75 #[.agg #[.int .u32 pc,.int .u32 r0,.int .u32 r1,.int .u32 r2,.int .u32 r3,.int .u32 r4,.int .u32 r5,.int .u32 r6,.int .u32 r7,.int .u32 b,.int .u32 s],.pointer (some ⟨p,0,none⟩)] w (DoP w p g h T ⟨⟨pc2,[s0,s1,s2,s3,s4,s5,s6,s7],b2,z2⟩,B',wh,ga⟩):=by
  have hw1:(wh != 0)=true:=by rw [hw];rfl
  have hw2:(wh != 2)=false:=by rw [hw];rfl
  have HW:=Lib.hid hw
  clear hw
  obtain ⟨W,e1,k⟩:=DoS.new m pc r0 r1 r2 r3 r4 r5 r6 r7 b s
  have K:=Lib.hid k
  have y0:=k.c.cell 0
  simp only [List.getElem?_cons_zero] at y0
  have hl:(codeL B T pc).length≤6:=codeL_le B T pc
  have hl0:0 < (codeL B T pc).length:=by obtain ⟨_,t,e,_⟩:=hrd;rw [e];simp
  obtain ⟨L,hL⟩:∃ L,codeL B T pc=L:=⟨_,rfl⟩
  have FE:=fun (W:World) (m:MemAt W p g h B T)=>fetch_any m pc h0 h1
  rw [hL] at FE hrd hl hl0
  have HN:=Lib.hid hrd
  replace FE:=Lib.hid FE
  replace CO:=Lib.hid CO
  obtain ⟨nl,hLn⟩:∃ n,L.length=n:=⟨_,rfl⟩
  have HLn:=Lib.hid hLn
  rw [hLn] at hl hl0
  have g0:((nl:Int) == 0)=false:=by rw [beq_eq_false_iff_ne];omega
  have gn:((n:Int) == 0)=false:=by rw [beq_eq_false_iff_ne];omega
  have N0:(1:Int)≤(n:Int):=by omega
  have N1:(n:Int)≤6:=by omega
  clear k m hrd hL hLn
  go_enter Tryz.func75,Tryz.ntmps75
  go_wp2_with fail
  refine (FE.out _ K.out.m).mono ?_;rintro e w1 ⟨A,cap,rfl,hr,hb⟩
  rw [HLn.out]
  clear y0 e1
  have K1:=Lib.hid (K.out.below hb)
  clear hb K
  have HR:=Lib.hid hr
  clear hr
  go_wp2_with fail
  have RN:=Read_yes L A cap 0 op x y imm n (by rw [HLn.out];omega) HN.out w1 HR.out
  rw [HLn.out] at RN
  refine RN.mono ?_;rintro e w2 ⟨rfl,hb⟩
  unfold insV
  clear RN
  have K2:=Lib.hid (K1.out.below hb)
  clear hb K1
  obtain ⟨W3,W4,W5,W6,W7,e3,e4,e5,e6,e7,hI,K4,hN,hN6,K7,hI7,hN7,z0,z4⟩:=do_worlds K2.out op x y imm ((pc+n) % 4294967296)
  obtain ⟨⟨t0,t1⟩,⟨t2,t3⟩⟩:(W3.cell? ⟨w2.heap.size,0,none⟩=some (.int .i64 0)∧W3.cell? ⟨w2.heap.size,1,none⟩=some (.int .i64 0))∧(W3.cell? ⟨w2.heap.size,2,none⟩=some (.int .i64 0)∧W3.cell? ⟨w2.heap.size,3,none⟩=some (.int .u32 0)):=⟨⟨hI.cell 0,hI.cell 1⟩,⟨hI.cell 2,hI.cell 3⟩⟩
  have u0:=hI.frozen 0
  have u1:=hI.frozen 1
  have u2:=hI.frozen 2
  have u3:=hI.frozen 3
  obtain ⟨⟨c0,c1,c2,c3,c4,c5,c6,c7,c8,c9,c10⟩,_⟩:=has11 K4.c
  obtain ⟨⟨m0,m1,m2,m3,m4,m5,m6,m7,m8,m9,m10⟩,⟨f0,f1,f2,f3,f4,f5,f6,f7,f8,f9,f10⟩⟩:=has11 hN
  have p0:=hN6.cell 0
  have p1:=hN6.frozen 0
  obtain ⟨⟨q0,q1⟩,⟨q2,q3⟩⟩:(W7.cell? ⟨w2.heap.size,0,none⟩=some (.int .i64 op)∧W7.cell? ⟨w2.heap.size,1,none⟩=some (.int .i64 x))∧(W7.cell? ⟨w2.heap.size,2,none⟩=some (.int .i64 y)∧W7.cell? ⟨w2.heap.size,3,none⟩=some (.int .u32 imm)):=⟨⟨hI7.cell 0,hI7.cell 1⟩,⟨hI7.cell 2,hI7.cell 3⟩⟩
  simp only [List.getElem?_cons_zero] at p0
  have HK7:=Lib.hid K7
  have HN7:=Lib.hid hN7
  clear hI K4 hN hN6 K7 hI7 hN7
  go_wp2_with fail
  refine (CO.out _ _ HK7.out.m HN7.out).mono ?_;rintro e w8 ⟨rfl,r1,r2,r3⟩
  dsimp only at r1 r2
  have K8:=Lib.hid (HK7.out.obey r1 (by omega) r3)
  have HR2:=Lib.hid r2
  clear r1 r2 r3 HK7 HN7 e3 e4 e5 e6 e7 t0 t1 t2 t3 u0 u1 u2 u3 c0 c1 c2 c3 c4 c5 c6 c7 c8 c9 c10 m0 m1 m2 m3 m4 m5 m6 m7 m8 m9 m10 f0 f1 f2 f3 f4 f5 f6 f7 f8 f9 f10 p0 p1 q0 q1 q2 q3 CO FE HR
  obtain ⟨W9,W10,e9,e10,hO,hO',K10,z8,HA⟩:=do_out K8.out wh ga
  obtain ⟨⟨t0,t1⟩,⟨t2,t3⟩⟩:=has2 hO
  obtain ⟨⟨u0,u1⟩,⟨u2,u3⟩⟩:=has2 hO'
  obtain ⟨⟨c0,c1,c2,c3,c4,c5,c6,c7,c8,c9,c10⟩,_⟩:=has11 K10.c
  obtain ⟨⟨d0,d1,d2,d3,d4,d5,d6,d7,d8,d9,d10⟩,⟨f0,f1,f2,f3,f4,f5,f6,f7,f8,f9,f10⟩⟩:=has11 K10.d
  obtain ⟨⟨o0,o1⟩,⟨q0,q1⟩⟩:=has2 K10.o
  have hN2:=HA W4.heap.size _ _ (HR2.out (by exact .inr HW.out))
  obtain ⟨⟨v0,v1,v2,v3,v4,v5,v6,v7,v8,v9,v10⟩,_⟩:=has11 hN2
  clear hN2
  have n0:¬ w8.heap.size=w.heap.size:=by omega
  have n6:¬ W4.heap.size=w.heap.size+1:=by omega
  have n7:¬ W4.heap.size=w.heap.size+1+1:=by omega
  have n8:¬ w.heap.size+1=W4.heap.size:=by omega
  have n9:¬ w.heap.size+1+1=W4.heap.size:=by omega
  have n1:¬ w8.heap.size=w.heap.size+1:=by omega
  have n2:¬ w8.heap.size=w.heap.size+1+1:=by omega
  have n3:¬ w.heap.size=w8.heap.size:=by omega
  have n4:¬ w.heap.size+1=w8.heap.size:=by omega
  have n5:¬ w.heap.size+1+1=w8.heap.size:=by omega
  replace K10:=Lib.hid K10
  replace HA:=Lib.hid HA
  clear hO hO'
  go_wp2_with fail
  go_region
  all_goals go_wp2_with fail
  all_goals refine bodyPost_ret (v:=.tuple #[.agg #[.int .u32 pc2,.int .u32 s0,.int .u32 s1,.int .u32 s2,.int .u32 s3,.int .u32 s4,.int .u32 s5,.int .u32 s6,.int .u32 s7,.int .u32 b2,.int .u32 z2],.agg #[.int .i64 wh,.int .i64 ga]]) (by simp [results,Tryz.results75,go_sem,d0,d1,d2,d3,d4,d5,d6,d7,d8,d9,d10,o0,o1]) rfl ⟨rfl,?_⟩
  all_goals obtain ⟨x1,x2⟩:=st13 K10.out.m K10.out.d K10.out.o K10.out.chg (.int .u32 pc2) (.int .u32 s0) (.int .u32 s1) (.int .u32 s2) (.int .u32 s3) (.int .u32 s4) (.int .u32 s5) (.int .u32 s6) (.int .u32 s7) (.int .u32 b2) (.int .u32 z2) (.int .i64 wh) (.int .i64 ga)
  all_goals exact ⟨x1.below (Below.refl _ _).drew,chg_drew x2⟩
end Go.Proofs.YteefmjhemhlapaaGreat.Mm
namespace Go.Proofs.YteefmjhemhlapaaGreat.Mm
open Go.ChangeShapes Go.WideShapes Go.ChangeAt Go.RowKit
set_option linter.unusedVariables false
set_option maxRecDepth 10000
theorem step_any {w:World} {p g h:Nat} {B:List Int} {T:List Bool} (m:MemAt w p g h B T) {c:Cp} (o:c.Ok) {x:Ou} (hx:StepIs c B T x) :
    Calls Tryz.prog 75 #[c.val,.pointer (some ⟨p,0,none⟩)] w (DoP w p g h T x):=by
  obtain ⟨r0,r1,r2,r3,r4,r5,r6,r7,hr⟩:=o.eight
  obtain ⟨pc,r,b,s⟩:=c
  simp only at hr
  subst hr
  obtain ⟨pc0,pc1⟩:=o.pc
  simp only at pc0 pc1
  rcases hx with ⟨h1,rfl⟩ | ⟨h1,h2,rfl⟩ | ⟨op,a,b',imm,n,h1,rfl⟩
  · exact do_empty m pc r0 r1 r2 r3 r4 r5 r6 r7 b s pc0 pc1 h1
  · exact do_broken m pc r0 r1 r2 r3 r4 r5 r6 r7 b s pc0 pc1 h1 h2
  · have hbd:=rd_bds (codeL_byte m.byte T pc) h1
    obtain ⟨q1,q2,q3,q4,q5⟩:=hbd
    obtain ⟨n,rfl⟩:∃ k:Nat,n=k:=⟨n.toNat,by omega⟩
    have hpc:U32 (IntKind.u32.wrap (pc+n)):=wrap_u _
    have CO:=fun W N (mW:MemAt W p g h B T) (hN:HasB W N 77 [.int .u32 ((pc+n) % 4294967296),.int .u32 r0,.int .u32 r1,.int .u32 r2,.int .u32 r3,.int .u32 r4,.int .u32 r5,.int .u32 r6,.int .u32 r7,.int .u32 b,.int .u32 s])=>
      obey_any (c:=⟨pc,[r0,r1,r2,r3,r4,r5,r6,r7],b,s⟩) (X:=N) hpc mW o hN op imm a b' q1 q2 q3 q4
    have hok:=exec_ok (T:=T) hpc o m.byte m.len op imm a b' q1 q2 q3 q4
    have hwh:=exec_what (⟨pc,[r0,r1,r2,r3,r4,r5,r6,r7],b,s⟩:Cp) ((⟨pc,[r0,r1,r2,r3,r4,r5,r6,r7],b,s⟩:Cp).setPc (IntKind.u32.wrap (pc+n))) B T op imm a b' q1
    generalize exec (⟨pc,[r0,r1,r2,r3,r4,r5,r6,r7],b,s⟩:Cp) ((⟨pc,[r0,r1,r2,r3,r4,r5,r6,r7],b,s⟩:Cp).setPc (IntKind.u32.wrap (pc+n))) B T op a b' imm=x at CO hok hwh
    obtain ⟨c',B',wh,ga⟩:=x
    obtain ⟨hw1,hw2,hw3⟩:=hwh
    simp only at hw1 hw2 hw3 hok
    by_cases k0:wh=0
    · obtain ⟨s0,s1,s2,s3,s4,s5,s6,s7,hs⟩:=hok.eight
      obtain ⟨pc2,r',b2,z2⟩:=c'
      simp only at hs
      subst hs
      exact do_go0 m pc r0 r1 r2 r3 r4 r5 r6 r7 b s op a b' imm wh ga pc2 s0 s1 s2 s3 s4 s5 s6 s7 b2 z2 n pc0 pc1 (by omega) (by omega) h1 CO k0
    by_cases k2:wh=2
    · obtain ⟨s0,s1,s2,s3,s4,s5,s6,s7,hs⟩:=hok.eight
      obtain ⟨pc2,r',b2,z2⟩:=c'
      simp only at hs
      subst hs
      exact do_go2 m pc r0 r1 r2 r3 r4 r5 r6 r7 b s op a b' imm wh ga pc2 s0 s1 s2 s3 s4 s5 s6 s7 b2 z2 n pc0 pc1 (by omega) (by omega) h1 CO k2
    · rcases hw2 with h | h | ⟨rfl,rfl⟩
      · exact absurd h k0
      · exact absurd h k2
      · exact do_keep m pc r0 r1 r2 r3 r4 r5 r6 r7 b s op a b' imm wh ga n pc0 pc1 (by omega) (by omega) h1 CO (by simpa using k0) (by simpa using k2)
theorem step_ok {c:Cp} {B:List Int} {T:List Bool} (o:c.Ok) (hB:Bytes B) (hl:B.length=64 * T.length) {x:Ou} (hx:StepIs c B T x) :
    x.c.Ok∧(x.what=0∨x.what=1∨x.what=2∨x.what=3∨x.what=4∨x.what=5)∧(x.what=0∨x.what=2∨x.c=c∧x.B=B)∧(x.what=2∨x.gate=0):=by
  rcases hx with ⟨h1,rfl⟩ | ⟨h1,h2,rfl⟩ | ⟨op,a,b,imm,n,h1,rfl⟩
  · exact ⟨o,.inr (.inr (.inr (.inl rfl))),.inr (.inr ⟨rfl,rfl⟩),.inr rfl⟩
  · exact ⟨o,.inr (.inr (.inr (.inr (.inr rfl)))),.inr (.inr ⟨rfl,rfl⟩),.inr rfl⟩
  · obtain ⟨q1,q2,q3,q4,q5⟩:=rd_bds (codeL_byte hB T c.pc) h1
    have hok:=exec_ok (T:=T) (wrap_u (c.pc+n)) o hB hl op imm a b q1 q2 q3 q4
    obtain ⟨w1,w2,w3⟩:=exec_what c (c.setPc (IntKind.u32.wrap (c.pc+n))) B T op imm a b q1
    exact ⟨hok,by omega,w2,w3⟩
end Go.Proofs.YteefmjhemhlapaaGreat.Mm
