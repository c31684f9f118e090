/- Sums on which the statements of layer 1 lean: quotient and rest, and, or, exclusive or, shifts there and back. -/
import Derived.Test.YtjcggpaiminecaaWordMath
namespace Go.Proofs.Ytjcggpaiminecaa
open Go.RowKit

theorem nat_bits (n : Nat) : ∀ x y : Nat, x < 2 ^ n → (x &&& y) + (x ||| y) = x + y ∧ (x ^^^ y) + (x &&& y) = (x ||| y) := by
  induction n with
  | zero => intro x y hx; have : x = 0 := by omega
            subst this; simp
  | succ n ih =>
    intro x y hx
    have h := ih (x / 2) (y / 2) (by omega)
    have a1 := @Nat.and_div_two x y
    have a2 := @Nat.or_div_two x y
    have a3 := @Nat.xor_div_two x y
    have b1 := @Nat.and_mod_two_eq_one x y
    have b2 := @Nat.or_mod_two_eq_one x y
    have b3 := @Nat.xor_mod_two_eq_one x y
    rw [← a1, ← a2, ← a3] at h
    generalize x &&& y = p at *
    generalize x ||| y = q at *
    generalize x ^^^ y = r at *
    omega

theorem back_facts (a b : Int) (h0 : 0 ≤ a) (h1 : a < 4294967296) (h2 : 0 ≤ b) (h3 : b < 4294967296) :
    doV 4 (doV 3 a b) b = a ∧ (doV 8 a b + doV 9 a b) % 4294967296 = (a + b) % 4294967296 ∧ (doV 10 a b + doV 8 a b) % 4294967296 = doV 9 a b
      ∧ (doV 13 a b + doV 13 b a + doV 14 a b) % 4294967296 = 1 := by
  have hn := nat_bits 32 a.toNat b.toNat (by omega)
  have hb := doV_bd 9 a b h0 h1 h2 h3
  have e8 : doV 8 a b = ((a.toNat &&& b.toNat : Nat) : Int) := rfl
  have e9 : doV 9 a b = ((a.toNat ||| b.toNat : Nat) : Int) := rfl
  have e10 : doV 10 a b = ((a.toNat ^^^ b.toNat : Nat) : Int) := rfl
  rw [e9] at hb
  refine ⟨?_, ?_, ?_, ?_⟩
  · show (((a + b) % 4294967296) - b) % 4294967296 = a
    omega
  · rw [e8, e9]; omega
  · rw [e8, e9, e10]; omega
  · show ((if wrap32 a < wrap32 b then (1 : Int) else 0) + (if wrap32 b < wrap32 a then 1 else 0) + (if a = b then 1 else 0)) % 4294967296 = 1
    by_cases hab : a = b
    · subst hab; simp
    · have : wrap32 a ≠ wrap32 b := by unfold wrap32; omega
      rw [if_neg hab]
      by_cases hl : wrap32 a < wrap32 b
      · rw [if_pos hl, if_neg (by omega)]; rfl
      · rw [if_neg hl, if_pos (by omega)]; rfl

theorem parts_facts (a b : Int) (h0 : 0 ≤ a) (h1 : a < 4294967296) (h2 : 0 ≤ b) (h3 : b < 4294967296) (hb : b ≠ 0) :
    doV 3 (doV 5 (doV 6 a b) b) (doV 7 a b) = a ∧ (wrap32 (doV 7 a b)).natAbs < (wrap32 b).natAbs := by
  have hB : wrap32 b ≠ 0 := fun h => hb ((wrap32_zero b h2 h3).1 h)
  have e6 : doV 6 a b = (wrap32 a).tdiv (wrap32 b) % 4294967296 := by simp [doV, hb]
  have e7 : doV 7 a b = (wrap32 a).tmod (wrap32 b) % 4294967296 := by simp [doV, hb]
  have bA := wrap32_bd a
  have bB := wrap32_bd b
  have mA := wrap32_mod a
  have mB := wrap32_mod b
  rw [e6, e7]
  refine ⟨?_, ?_⟩
  · show (((wrap32 a).tdiv (wrap32 b) % 4294967296 * b) % 4294967296 + (wrap32 a).tmod (wrap32 b) % 4294967296) % 4294967296 = a
    have e := Int.tmod_add_mul_tdiv (wrap32 a) (wrap32 b)
    generalize (wrap32 a).tdiv (wrap32 b) = q at *
    generalize (wrap32 a).tmod (wrap32 b) = r at *
    have m1 : q % 4294967296 * b % 4294967296 = q * wrap32 b % 4294967296 := by
      rw [Int.mul_emod q (wrap32 b), mB, ← Int.mul_emod, Int.mul_emod (q % 4294967296) b, Int.emod_emod_of_dvd q (Int.dvd_refl _), ← Int.mul_emod]
    rw [m1, ← Int.add_emod, Int.mul_comm, Int.add_comm, e, mA]
    omega
  · have hm : ((wrap32 a).tmod (wrap32 b)).natAbs = (wrap32 a).natAbs % (wrap32 b).natAbs := Int.natAbs_tmod _ _
    have hl : (wrap32 a).natAbs % (wrap32 b).natAbs < (wrap32 b).natAbs := Nat.mod_lt _ (by omega)
    rw [← hm] at hl
    generalize (wrap32 a).tmod (wrap32 b) = r at *
    have : wrap32 (r % 4294967296) = r := by unfold wrap32; omega
    rw [this]; exact hl

theorem pow_cast (k : Nat) : ((2 ^ k : Nat) : Int) = (2 : Int) ^ k := by simp

theorem shift_facts (a : Int) (k : Nat) (h0 : 0 ≤ a) (h1 : a < 4294967296) (hk : k < 32) :
    (a / 2 ^ k * 2 ^ k % 4294967296 + ((a.toNat &&& (2 ^ k - 1) : Nat) : Int)) % 4294967296 = a
      ∧ (a * 2 ^ k % 4294967296 / 2 ^ k + a / 2 ^ (32 - k) * 2 ^ (32 - k) % 4294967296) % 4294967296 = a := by
  obtain ⟨x, rfl⟩ := Int.eq_ofNat_of_zero_le h0
  have hx : x < 2 ^ 32 := by omega
  have p1 : 0 < 2 ^ k := Nat.two_pow_pos k
  have p2 : 0 < 2 ^ (32 - k) := Nat.two_pow_pos _
  have pp : 2 ^ (32 - k) * 2 ^ k = 4294967296 := by rw [← Nat.pow_add, Nat.sub_add_cancel (by omega)]
  rw [← pow_cast, ← pow_cast, Int.toNat_natCast, Nat.and_two_pow_sub_one_eq_mod]
  constructor
  · have e := Nat.div_add_mod x (2 ^ k)
    rw [Nat.mul_comm] at e
    have : ((x : Int) / ((2 ^ k : Nat) : Int) * ((2 ^ k : Nat) : Int) % 4294967296 + ((x % 2 ^ k : Nat) : Int)) % 4294967296 = (((x / 2 ^ k * 2 ^ k) % 4294967296 + x % 2 ^ k) % 4294967296 : Nat) := by
      simp
    rw [this]
    generalize x / 2 ^ k * 2 ^ k = A at *
    generalize x % 2 ^ k = B at *
    omega
  · have m : x * 2 ^ k % 4294967296 / 2 ^ k = x % 2 ^ (32 - k) := by
      rw [← pp, Nat.mul_mod_mul_right, Nat.mul_div_cancel _ p1]
    have e := Nat.div_add_mod x (2 ^ (32 - k))
    rw [Nat.mul_comm] at e
    have : ((x : Int) * ((2 ^ k : Nat) : Int) % 4294967296 / ((2 ^ k : Nat) : Int) + (x : Int) / ((2 ^ (32 - k) : Nat) : Int) * ((2 ^ (32 - k) : Nat) : Int) % 4294967296) % 4294967296 = (((x * 2 ^ k % 4294967296 / 2 ^ k) + (x / 2 ^ (32 - k) * 2 ^ (32 - k)) % 4294967296) % 4294967296 : Nat) := by
      simp
    rw [this, m]
    generalize x / 2 ^ (32 - k) * 2 ^ (32 - k) = A at *
    generalize x % 2 ^ (32 - k) = B at *
    omega
end Go.Proofs.Ytjcggpaiminecaa
