/- A step of package step: any instruction, and the whole. -/
import Derived.Test.YtjcggpaiminecaaStepObeyB
import Derived.Test.YtjcggpaiminecaaStepObeyC
import Derived.Test.YtjcggpaiminecaaIsaReadAny
namespace Go.Proofs.Ytjcggpaiminecaa.Mm
open Go.ChangeShapes Go.WideShapes Go.ChangeAt Go.RowKit
set_option linter.unusedVariables false

theorem obey_any {w : World} {X p g h : Nat} {B : List Int} {T : List Bool} {c : Cp} {pc : Int} (hpc : U32 pc) (m : MemAt w p g h B T) (o : c.Ok) (hX : HasB w X 57 (c.setPc pc).cs) (op imm a b : Int) (ho : 0 ≤ op ∧ op ≤ 23) (ha : 0 ≤ a ∧ a ≤ 7) (hb : 0 ≤ b ∧ b ≤ 7) (hi : U32 imm) :
    Calls Try.prog 31 #[.pointer (some ⟨X, 0, none⟩), .agg #[.int .i64 op, .int .i64 a, .int .i64 b, .int .u32 imm], .pointer (some ⟨p, 0, none⟩)] w (ObP w p g h X T (exec c (c.setPc pc) B T op a b imm)) := by
  obtain ⟨a, rfl⟩ : ∃ k : Nat, a = k := ⟨a.toNat, by omega⟩
  obtain ⟨b, rfl⟩ : ∃ k : Nat, b = k := ⟨b.toNat, by omega⟩
  have ha : a < 8 := by omega
  have hb : b < 8 := by omega
  have o' : (c.setPc pc).Ok := o.setPc hpc
  have ra : (c.setPc pc).reg a = c.reg a := rfl
  have rb : (c.setPc pc).reg b = c.reg b := rfl
  by_cases h0 : op = 0
  · subst h0; rw [exec_0]; exact obey_0 m o' hX imm a b ha hb hi c
  by_cases h1 : op = 1
  · subst h1; rw [exec_1]; exact obey_1 m o' hX imm a b ha hb hi
  by_cases h2 : op = 2
  · subst h2; rw [exec_2]; exact obey_2 m o' hX imm a b ha hb hi
  by_cases h15 : op = 15
  · subst h15
    cases hw : wholeB T (c.reg b) 4
    · rw [exec_15n _ _ _ _ _ _ _ hw]; exact obey_15n m o' hX imm a b ha hb hi c hw
    · rw [exec_15y _ _ _ _ _ _ _ hw]; exact obey_15y m o' hX imm a b ha hb hi hw
  by_cases h16 : op = 16
  · subst h16
    cases hw : wholeB T (c.reg a) 4
    · rw [exec_16n _ _ _ _ _ _ _ hw]; exact obey_16n m o' hX imm a b ha hb hi c hw
    · rw [exec_16y _ _ _ _ _ _ _ hw]; exact obey_16y m o' hX imm a b ha hb hi hw
  by_cases h17 : op = 17
  · subst h17; rw [exec_17]; exact obey_17 m o' hX imm a b ha hb hi
  by_cases h18 : op = 18
  · subst h18; rw [exec_18]; exact obey_18 m o' hX imm a b ha hb hi
  by_cases h19 : op = 19
  · subst h19; rw [exec_19]; exact obey_19 m o' hX imm a b ha hb hi
  by_cases h20 : op = 20
  · subst h20
    by_cases hz : c.reg a = 0
    · rw [exec_20y _ _ _ _ _ _ _ hz]; exact obey_20y m o' hX imm a b ha hb hi hz
    · rw [exec_20n _ _ _ _ _ _ _ hz]; exact obey_20n m o' hX imm a b ha hb hi hz
  by_cases h21 : op = 21
  · subst h21; rw [exec_21]; exact obey_21 m o' hX imm a b ha hb hi
  by_cases h22 : op = 22
  · subst h22; rw [exec_22]; exact obey_22 m o' hX imm a b ha hb hi
  by_cases h23 : op = 23
  · subst h23; rw [exec_23]; exact obey_23 m o' hX imm a b ha hb hi
  have ho : 3 ≤ op ∧ op ≤ 14 := by omega
  cases hk : doK op (c.reg b)
  · rw [exec_n _ _ _ _ _ _ _ op ho hk]; exact obey_not m o' hX imm a b ha hb hi c op ho hk
  · rw [exec_y _ _ _ _ _ _ _ op ho hk]; exact obey_yes m o' hX imm a b ha hb hi op ho hk

/-- what is done is a processor again; the place behind is within -/
theorem exec_ok {c : Cp} {B : List Int} {T : List Bool} {pc : Int} (hpc : U32 pc) (o : c.Ok) (hB : Bytes B) (hl : B.length = 64 * T.length) (op imm a b : Int) (ho : 0 ≤ op ∧ op ≤ 23) (ha : 0 ≤ a ∧ a ≤ 7) (hb : 0 ≤ b ∧ b ≤ 7) (hi : U32 imm) :
    (exec c (c.setPc pc) B T op a b imm).c.Ok := by
  have o' : (c.setPc pc).Ok := o.setPc hpc
  have ra := o.reg a (by omega) (by omega)
  have rb := o.reg b (by omega) (by omega)
  by_cases h0 : op = 0
  · subst h0; rw [exec_0]; exact o
  by_cases h1 : op = 1
  · subst h1; rw [exec_1]; exact o'.setR _ hi
  by_cases h2 : op = 2
  · subst h2; rw [exec_2]; exact o'.setR _ rb
  by_cases h15 : op = 15
  · subst h15
    cases hw : wholeB T (c.reg b) 4
    · rw [exec_15n _ _ _ _ _ _ _ hw]; exact o
    · rw [exec_15y _ _ _ _ _ _ _ hw]; exact o'.setR _ (v4_bd _ _ hB)
  by_cases h16 : op = 16
  · subst h16
    cases hw : wholeB T (c.reg a) 4
    · rw [exec_16n _ _ _ _ _ _ _ hw]; exact o
    · rw [exec_16y _ _ _ _ _ _ _ hw]; exact o'
  by_cases h17 : op = 17
  · subst h17; rw [exec_17]; exact o'.setR _ (wrap_u _)
  by_cases h18 : op = 18
  · subst h18; rw [exec_18]; exact o'.setR _ (wrap_u _)
  by_cases h19 : op = 19
  · subst h19; rw [exec_19]; exact o'.setPc (wrap_u _)
  by_cases h20 : op = 20
  · subst h20
    by_cases hz : c.reg a = 0
    · rw [exec_20y _ _ _ _ _ _ _ hz]; exact o'.setPc (wrap_u _)
    · rw [exec_20n _ _ _ _ _ _ _ hz]; exact o'
  by_cases h21 : op = 21
  · subst h21; rw [exec_21]; exact o'.setPc ra
  by_cases h22 : op = 22
  · subst h22; rw [exec_22]; exact o'
  by_cases h23 : op = 23
  · subst h23; rw [exec_23]; exact o'
  have ho : 3 ≤ op ∧ op ≤ 14 := by omega
  cases hk : doK op (c.reg b)
  · rw [exec_n _ _ _ _ _ _ _ op ho hk]; exact o
  · rw [exec_y _ _ _ _ _ _ _ op ho hk]; exact o'.setR _ (doV_bd op _ _ ra.1 ra.2 rb.1 rb.2)
/-- what becomes of it, and what is left as it was -/
def ExW (c : Cp) (B : List Int) (x : Ou) : Prop := (x.what = 0 ∨ x.what = 1 ∨ x.what = 2 ∨ x.what = 3 ∨ x.what = 4) ∧ (x.what = 0 ∨ x.what = 2 ∨ x.c = c ∧ x.B = B) ∧ (x.what = 2 ∨ x.gate = 0)
theorem exw_0 (c : Cp) (B : List Int) (c' : Cp) (B' : List Int) : ExW c B ⟨c', B', 0, 0⟩ := ⟨.inl rfl, .inl rfl, .inr rfl⟩
theorem exw_2 (c : Cp) (B : List Int) (c' : Cp) (B' : List Int) (g : Int) : ExW c B ⟨c', B', 2, g⟩ := ⟨.inr (.inr (.inl rfl)), .inr (.inl rfl), .inl rfl⟩
theorem exw_1 (c : Cp) (B : List Int) : ExW c B ⟨c, B, 1, 0⟩ := ⟨.inr (.inl rfl), .inr (.inr ⟨rfl, rfl⟩), .inr rfl⟩
theorem exw_3 (c : Cp) (B : List Int) : ExW c B ⟨c, B, 3, 0⟩ := ⟨.inr (.inr (.inr (.inl rfl))), .inr (.inr ⟨rfl, rfl⟩), .inr rfl⟩
theorem exw_4 (c : Cp) (B : List Int) : ExW c B ⟨c, B, 4, 0⟩ := ⟨.inr (.inr (.inr (.inr rfl))), .inr (.inr ⟨rfl, rfl⟩), .inr rfl⟩
theorem exec_what (c d : Cp) (B : List Int) (T : List Bool) (op imm a b : Int) (ho : 0 ≤ op ∧ op ≤ 23) : ExW c B (exec c d B T op a b imm) := by
  by_cases h0 : op = 0
  · subst h0; rw [exec_0]; exact exw_1 _ _
  by_cases h1 : op = 1
  · subst h1; rw [exec_1]; exact exw_0 _ _ _ _
  by_cases h2 : op = 2
  · subst h2; rw [exec_2]; exact exw_0 _ _ _ _
  by_cases h15 : op = 15
  · subst h15
    cases hw : wholeB T (c.reg b) 4
    · rw [exec_15n _ _ _ _ _ _ _ hw]; exact exw_3 _ _
    · rw [exec_15y _ _ _ _ _ _ _ hw]; exact exw_0 _ _ _ _
  by_cases h16 : op = 16
  · subst h16
    cases hw : wholeB T (c.reg a) 4
    · rw [exec_16n _ _ _ _ _ _ _ hw]; exact exw_3 _ _
    · rw [exec_16y _ _ _ _ _ _ _ hw]; exact exw_0 _ _ _ _
  by_cases h17 : op = 17
  · subst h17; rw [exec_17]; exact exw_0 _ _ _ _
  by_cases h18 : op = 18
  · subst h18; rw [exec_18]; exact exw_0 _ _ _ _
  by_cases h19 : op = 19
  · subst h19; rw [exec_19]; exact exw_0 _ _ _ _
  by_cases h20 : op = 20
  · subst h20
    by_cases hz : c.reg a = 0
    · rw [exec_20y _ _ _ _ _ _ _ hz]; exact exw_0 _ _ _ _
    · rw [exec_20n _ _ _ _ _ _ _ hz]; exact exw_0 _ _ _ _
  by_cases h21 : op = 21
  · subst h21; rw [exec_21]; exact exw_0 _ _ _ _
  by_cases h22 : op = 22
  · subst h22; rw [exec_22]; exact exw_2 _ _ _ _ _
  by_cases h23 : op = 23
  · subst h23; rw [exec_23]; exact exw_0 _ _ _ _
  have ho : 3 ≤ op ∧ op ≤ 14 := by omega
  cases hk : doK op (c.reg b)
  · rw [exec_n _ _ _ _ _ _ _ op ho hk]; exact exw_4 _ _
  · rw [exec_y _ _ _ _ _ _ _ op ho hk]; exact exw_0 _ _ _ _
end Go.Proofs.Ytjcggpaiminecaa.Mm
