/- Numbers in decimal, as lists of the digits' bytes; unlike numbers have unlike texts. -/
import Derived.RowKit
import Derived.Laws.BytesArg
namespace Go.Proofs.Ytjfhoaahohinhaa
open Go.RowKit

/-- a number's digits, from the first on -/
def decL (n : Nat) : List Int := if n < 10 then [48 + (n : Int)] else decL (n / 10) ++ [48 + ((n % 10 : Nat) : Int)]
decreasing_by omega
/-- the digits that are left ahead of those j that were written -/
def decH (j m : Nat) : List Int := if j ≠ 0 ∧ m = 0 then [] else decL m
/-- with a sign -/
def txtL (n : Int) : List Int := if n < 0 then 45 :: decL n.natAbs else decL n.natAbs

theorem decL_small (n : Nat) (h : n < 10) : decL n = [48 + (n : Int)] := by rw [decL, if_pos h]
theorem decL_big (n : Nat) (h : ¬ n < 10) : decL n = decL (n / 10) ++ [48 + ((n % 10 : Nat) : Int)] := by rw [decL, if_neg h]

theorem decH_step (j m : Nat) (h : j = 0 ∨ 0 < m) : decH j m = decH (j + 1) (m / 10) ++ [48 + ((m % 10 : Nat) : Int)] := by
  unfold decH
  rw [if_neg (by omega)]
  by_cases hm : m < 10
  · rw [if_pos (by omega), decL_small m hm, Nat.mod_eq_of_lt hm]; rfl
  · rw [if_neg (by omega), decL_big m hm]
theorem decH_zero (m : Nat) : decH 0 m = decL m := by unfold decH; rw [if_neg (by omega)]
theorem decH_done (j : Nat) (h : j ≠ 0) : decH j 0 = [] := by unfold decH; rw [if_pos ⟨h, rfl⟩]

theorem decL_ne (n : Nat) : decL n ≠ [] := by
  by_cases h : n < 10
  · rw [decL_small n h]; simp
  · rw [decL_big n h]; simp
theorem decL_digit (n : Nat) : ∀ x ∈ decL n, 48 ≤ x ∧ x ≤ 57 := by
  induction n using Nat.strongRecOn with
  | ind n ih =>
    intro x hx
    by_cases h : n < 10
    · rw [decL_small n h] at hx; simp at hx; omega
    · rw [decL_big n h] at hx
      rcases List.mem_append.1 hx with hx | hx
      · exact ih (n / 10) (by omega) x hx
      · simp at hx; omega
theorem decL_inj (n : Nat) : ∀ m, decL n = decL m → n = m := by
  induction n using Nat.strongRecOn with
  | ind n ih =>
    intro m e
    by_cases hn : n < 10 <;> by_cases hm : m < 10
    · rw [decL_small n hn, decL_small m hm] at e; simp at e; omega
    · rw [decL_small n hn, decL_big m hm] at e
      have := congrArg List.length e
      have h := decL_ne (m / 10)
      cases hd : decL (m / 10) with
      | nil => exact absurd hd h
      | cons a l => rw [hd] at this; simp at this
    · rw [decL_big n hn, decL_small m hm] at e
      have := congrArg List.length e
      have h := decL_ne (n / 10)
      cases hd : decL (n / 10) with
      | nil => exact absurd hd h
      | cons a l => rw [hd] at this; simp at this
    · rw [decL_big n hn, decL_big m hm] at e
      have e2 := List.append_inj' e rfl
      have := ih (n / 10) (by omega) (m / 10) e2.1
      have e3 := e2.2
      simp at e3
      omega
theorem decL_len (n : Nat) : ∀ k, n < 10 ^ (k + 1) → (decL n).length ≤ k + 1 := by
  induction n using Nat.strongRecOn with
  | ind n ih =>
    intro k hk
    by_cases h : n < 10
    · rw [decL_small n h]; simp
    · rw [decL_big n h]
      cases k with
      | zero => simp at hk; omega
      | succ k =>
        have := ih (n / 10) (by omega) k (by rw [Nat.pow_succ] at hk; omega)
        simp; omega
theorem decL_head (n : Nat) : ∃ d l, decL n = d :: l ∧ 48 ≤ d ∧ d ≤ 57 := by
  cases h : decL n with
  | nil => exact absurd h (decL_ne n)
  | cons d l => exact ⟨d, l, rfl, decL_digit n d (by rw [h]; simp)⟩
theorem txtL_inj (n m : Int) (e : txtL n = txtL m) : n = m := by
  unfold txtL at e
  obtain ⟨d, l, hd, h1, h2⟩ := decL_head n.natAbs
  obtain ⟨d', l', hd', h1', h2'⟩ := decL_head m.natAbs
  by_cases hn : n < 0 <;> by_cases hm : m < 0
  · rw [if_pos hn, if_pos hm] at e; simp at e; have := decL_inj _ _ e; omega
  · rw [if_pos hn, if_neg hm, hd'] at e; simp at e; omega
  · rw [if_neg hn, if_pos hm, hd] at e; simp at e; omega
  · rw [if_neg hn, if_neg hm] at e; have := decL_inj _ _ e; omega
theorem txtL_byte (n : Int) : ∀ x ∈ txtL n, 0 ≤ x ∧ x ≤ 255 := by
  intro x hx
  unfold txtL at hx
  by_cases hn : n < 0
  · rw [if_pos hn] at hx
    rcases List.mem_cons.1 hx with rfl | hx
    · omega
    · have := decL_digit _ x hx; omega
  · rw [if_neg hn] at hx; have := decL_digit _ x hx; omega
theorem txtL_len (n : Int) (h : -2147483648 ≤ n ∧ n ≤ 2147483647) : 0 < (txtL n).length ∧ (txtL n).length ≤ 11 := by
  have := decL_len n.natAbs 9 (by omega)
  obtain ⟨d, l, hd, _⟩ := decL_head n.natAbs
  have hl : 0 < (decL n.natAbs).length := by rw [hd]; simp
  unfold txtL
  by_cases hn : n < 0
  · rw [if_pos hn]; simp; omega
  · rw [if_neg hn]; omega

/-- unlike bytes make unlike texts -/
theorem strOfNums_inj : ∀ (xs ys : List Int), (∀ x ∈ xs, 0 ≤ x ∧ x ≤ 255) → (∀ y ∈ ys, 0 ≤ y ∧ y ≤ 255) → (xs.map fun n => UInt8.ofNat n.toNat) = (ys.map fun n => UInt8.ofNat n.toNat) → xs = ys
  | [], [], _, _, _ => rfl
  | [], _ :: _, _, _, h => by simp at h
  | _ :: _, [], _, _, h => by simp at h
  | x :: xs, y :: ys, hx, hy, h => by
    simp only [List.map_cons, List.cons.injEq] at h
    have e := congrArg UInt8.toNat h.1
    have bx := hx x (by simp)
    have by' := hy y (by simp)
    simp only [UInt8.toNat_ofNat'] at e
    have : x = y := by omega
    rw [this, strOfNums_inj xs ys (fun z hz => hx z (by simp [hz])) (fun z hz => hy z (by simp [hz])) h.2]
end Go.Proofs.Ytjfhoaahohinhaa
