/- A step changes no more than one register, or four bytes: the sums. -/
import Derived.Test.YteefmjhemhlapaaGreatVStD
namespace Go.Proofs.YteefmjhemhlapaaGreat.Mm
open Go.RowKit
set_option linter.unusedVariables false
set_option maxRecDepth 10000
def cnt (P:Nat→Bool):Nat→Nat
  | 0=>0
  | k+1=>cnt P k+if P k then 1 else 0
def FewX (c:Cp) (B:List Int) (x:Ou):Prop:=
  (x.c.b=c.b∧x.c.s=c.s)∧((x.B=B∧∃ (a:Nat) (v:Int),x.c.r=c.r.set a v)∨(x.c.r=c.r∧(x.B=B∨∃ (a:Nat) (v:Int),a+4≤B.length∧x.B=splice B a (b4 v))))
theorem few_same (c:Cp) (B:List Int) (w g:Int):FewX c B ⟨c,B,w,g⟩:=⟨⟨rfl,rfl⟩,.inr ⟨rfl,.inl rfl⟩⟩
theorem few_pc (c:Cp) (v v':Int) (B:List Int) (w g:Int):FewX c B ⟨(c.setPc v).setPc v',B,w,g⟩:=⟨⟨rfl,rfl⟩,.inr ⟨rfl,.inl rfl⟩⟩
theorem few_d (c:Cp) (v:Int) (B:List Int) (w g:Int):FewX c B ⟨c.setPc v,B,w,g⟩:=⟨⟨rfl,rfl⟩,.inr ⟨rfl,.inl rfl⟩⟩
theorem few_r (c:Cp) (v a u:Int) (B:List Int) (w g:Int):FewX c B ⟨(c.setPc v).setR a u,B,w,g⟩:=⟨⟨rfl,rfl⟩,.inl ⟨rfl,_,_,rfl⟩⟩
theorem exec_few (c:Cp) (pc:Int) (B:List Int) (T:List Bool) (hl:B.length=64 * T.length) (op imm a b:Int) (ho:0≤op∧op≤23):FewX c B (exec c (c.setPc pc) B T op a b imm):=by
  by_cases h0:op=0
  · subst h0;rw [exec_0];exact few_same _ _ _ _
  by_cases h1:op=1
  · subst h1;rw [exec_1];exact few_r _ _ _ _ _ _ _
  by_cases h2:op=2
  · subst h2;rw [exec_2];exact few_r _ _ _ _ _ _ _
  by_cases h15:op=15
  · subst h15
    cases hw:wholeB T (c.reg b) 4
    · rw [exec_15n _ _ _ _ _ _ _ hw];exact few_same _ _ _ _
    · rw [exec_15y _ _ _ _ _ _ _ hw];exact few_r _ _ _ _ _ _ _
  by_cases h16:op=16
  · subst h16
    cases hw:wholeB T (c.reg a) 4
    · rw [exec_16n _ _ _ _ _ _ _ hw];exact few_same _ _ _ _
    · rw [exec_16y _ _ _ _ _ _ _ hw]
      have hlie:0≤c.reg a∧c.reg a+4≤(64 * T.length:Nat):=by
        unfold wholeB at hw
        rw [Bool.and_eq_true,liesB_iff] at hw
        omega
      exact ⟨⟨rfl,rfl⟩,.inr ⟨rfl,.inr ⟨_,_,by omega,rfl⟩⟩⟩
  by_cases h17:op=17
  · subst h17;rw [exec_17];exact few_r _ _ _ _ _ _ _
  by_cases h18:op=18
  · subst h18;rw [exec_18];exact few_r _ _ _ _ _ _ _
  by_cases h19:op=19
  · subst h19;rw [exec_19];exact few_pc _ _ _ _ _ _
  by_cases h20:op=20
  · subst h20
    by_cases hz:c.reg a=0
    · rw [exec_20y _ _ _ _ _ _ _ hz];exact few_pc _ _ _ _ _ _
    · rw [exec_20n _ _ _ _ _ _ _ hz];exact few_d _ _ _ _ _
  by_cases h21:op=21
  · subst h21;rw [exec_21];exact few_pc _ _ _ _ _ _
  by_cases h22:op=22
  · subst h22;rw [exec_22];exact few_d _ _ _ _ _
  by_cases h23:op=23
  · subst h23;rw [exec_23];exact few_d _ _ _ _ _
  have ho:3≤op∧op≤14:=by omega
  cases hk:doK op (c.reg b)
  · rw [exec_n _ _ _ _ _ _ _ op ho hk];exact few_same _ _ _ _
  · rw [exec_y _ _ _ _ _ _ _ op ho hk];exact few_r _ _ _ _ _ _ _
theorem step_few {c:Cp} {B:List Int} {T:List Bool} (hB:Bytes B) (hl:B.length=64 * T.length) {x:Ou} (hx:StepIs c B T x):FewX c B x:=by
  rcases hx with ⟨h1,rfl⟩ | ⟨h1,h2,rfl⟩ | ⟨op,a,b,imm,n,h1,rfl⟩
  · exact few_same _ _ _ _
  · exact few_same _ _ _ _
  · obtain ⟨q1,q2,q3,q4,q5⟩:=rd_bds (codeL_byte hB T c.pc) h1
    exact exec_few c _ B T hl op imm a b q1
end Go.Proofs.YteefmjhemhlapaaGreat.Mm
