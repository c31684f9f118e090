/- What the calls of the document's own answers for layer 1 come to (Sign, Of, bit, Bits, Do). -/
import Derived.Test.YtjfhoaahohinhaaWordWalks
import Derived.Lib.Hide
namespace Go.Proofs.Ytjfhoaahohinhaa
open Go.ChangeShapes Go.WideShapes Go.ChangeAt Go.RowKit
set_option linter.unusedVariables false
set_option maxRecDepth 10000

theorem rsign_any (a : Int) (h0 : 0 ≤ a) (h1 : a < 4294967296) (w : World) : Calls Try.prog 30 #[.int .u32 a] w fun e w' => e = .returned (.int .i64 (wrap32 a)) ∧ w = w' := by
  by_cases h : 2147483648 ≤ a
  · have e := wrap32_hi a h h1
    have E := Lib.hid e; clear e
    go_enter Try.func30, Try.ntmps30
    go_wp2
    go_ret
    exact ⟨ret_int E.out.symm, rfl⟩
  · have e := wrap32_lo a h0 (by omega)
    have E := Lib.hid e; clear e
    go_enter Try.func30, Try.ntmps30
    go_wp2
    go_ret
    exact ⟨ret_int E.out.symm, rfl⟩

theorem tmod_bd (n : Int) : -4294967296 < n.tmod 4294967296 ∧ n.tmod 4294967296 < 4294967296 := by
  constructor
  · exact Int.lt_tmod_of_pos n (by decide)
  · exact Int.tmod_lt_of_pos n (by decide)
theorem tmod_eq (n : Int) : n % 4294967296 = if n.tmod 4294967296 < 0 then n.tmod 4294967296 + 4294967296 else n.tmod 4294967296 := by
  have e := Int.tmod_add_mul_tdiv n 4294967296
  have b := tmod_bd n
  generalize n.tmod 4294967296 = r at *
  generalize n.tdiv 4294967296 = q at *
  by_cases h : r < 0
  · rw [if_pos h]; omega
  · rw [if_neg h]; omega

theorem half_cast (x j : Nat) : ((x / 2 ^ j : Nat) : Int) / 2 = ((x / 2 ^ (j + 1) : Nat) : Int) := by
  rw [Nat.pow_succ, ← Nat.div_div_eq_div_mul]; simp
theorem v_int {k : IntKind} {a b : Int} (h : a = b) : Value.int k a = .int k b := by rw [h]

/-- one round of Bits: the next bit -/
theorem bits_step (F j : Nat) : ((F / 2 ^ j : Nat) : Int) = 2 * ((F / 2 ^ (j + 1) : Nat) : Int) + ((F / 2 ^ j % 2 : Nat) : Int) := by
  have : F / 2 ^ (j + 1) = F / 2 ^ j / 2 := by rw [Nat.pow_succ, ← Nat.div_div_eq_div_mul]
  rw [this]; omega
theorem and_bit (x y j : Nat) : (x &&& y) / 2 ^ j % 2 = if x / 2 ^ j % 2 = 1 ∧ y / 2 ^ j % 2 = 1 then 1 else 0 := by
  rw [← Nat.toNat_testBit, Nat.testBit_and, Nat.testBit_eq_decide_div_mod_eq, Nat.testBit_eq_decide_div_mod_eq]
  by_cases h1 : x / 2 ^ j % 2 = 1 <;> by_cases h2 : y / 2 ^ j % 2 = 1 <;> simp [h1, h2]
theorem or_bit (x y j : Nat) : (x ||| y) / 2 ^ j % 2 = if x / 2 ^ j % 2 = 1 ∨ y / 2 ^ j % 2 = 1 then 1 else 0 := by
  rw [← Nat.toNat_testBit, Nat.testBit_or, Nat.testBit_eq_decide_div_mod_eq, Nat.testBit_eq_decide_div_mod_eq]
  by_cases h1 : x / 2 ^ j % 2 = 1 <;> by_cases h2 : y / 2 ^ j % 2 = 1 <;> simp [h1, h2]
theorem xor_bit (x y j : Nat) : (x ^^^ y) / 2 ^ j % 2 = if (x / 2 ^ j % 2 = 1) ↔ (y / 2 ^ j % 2 = 1) then 0 else 1 := by
  rw [← Nat.toNat_testBit, Nat.testBit_xor, Nat.testBit_eq_decide_div_mod_eq, Nat.testBit_eq_decide_div_mod_eq]
  by_cases h1 : x / 2 ^ j % 2 = 1 <;> by_cases h2 : y / 2 ^ j % 2 = 1 <;> simp [h1, h2]

theorem mul_bd (x y : Int) (hx : -2147483648 ≤ x ∧ x ≤ 2147483647) (hy : -2147483648 ≤ y ∧ y ≤ 2147483647) : -4611686018427387904 ≤ x * y ∧ x * y ≤ 4611686018427387904 := by
  have h : (x * y).natAbs ≤ 2147483648 * 2147483648 := by
    rw [Int.natAbs_mul]; exact Nat.mul_le_mul (by omega) (by omega)
  omega
theorem mul_eq (a b : Int) : wrap64 (wrap32 a * wrap32 b) % 4294967296 = (a * b) % 4294967296 := by
  have h := mul_bd _ _ (wrap32_bd a) (wrap32_bd b)
  rw [wrap64_in' _ (by omega) (by omega), Int.mul_emod, wrap32_mod, wrap32_mod, ← Int.mul_emod]

theorem shl_step (x j : Nat) : ((x * 2 ^ j % 4294967296 : Nat) + (x * 2 ^ j % 4294967296 : Nat) : Int) % 4294967296 = ((x * 2 ^ (j + 1) % 4294967296 : Nat) : Int) := by
  have : x * 2 ^ (j + 1) = 2 * (x * 2 ^ j) := by rw [Nat.pow_succ, ← Nat.mul_assoc, Nat.mul_comm]
  rw [this]; omega
end Go.Proofs.Ytjfhoaahohinhaa
