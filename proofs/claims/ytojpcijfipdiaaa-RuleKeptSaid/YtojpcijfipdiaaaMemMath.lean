/- Lists of bytes and of zones: the plain sums of layer 3. -/
import Derived.RowKit
import Derived.Laws.BitsAllLaws
import Derived.Laws.CopyOwn
namespace Go.Proofs.Ytojpcijfipdiaaa.Mm
open Go.RowKit
set_option linter.unusedVariables false

def Bytes (l : List Int) : Prop := ∀ x ∈ l, 0 ≤ x ∧ x ≤ 255
/-- do n bytes from a on lie in L bytes? -/
def liesB (L : Nat) (a n : Int) : Bool := decide (0 ≤ a ∧ 0 ≤ n ∧ n ≤ (L : Int) - a)
/-- are n bytes from a on there? -/
def thr (T : List Bool) (a n : Nat) : Bool := (List.range n).all fun i => T.getD ((a + i) / 64) false
def wholeB (T : List Bool) (a n : Int) : Bool := liesB (64 * T.length) a n && thr T a.toNat n.toNat

theorem liesB_iff (L : Nat) (a n : Int) : liesB L a n = true ↔ 0 ≤ a ∧ 0 ≤ n ∧ n ≤ (L : Int) - a := by unfold liesB; exact decide_eq_true_iff
theorem liesB_not (L : Nat) (a n : Int) : liesB L a n = false ↔ ¬ (0 ≤ a ∧ 0 ≤ n ∧ n ≤ (L : Int) - a) := by unfold liesB; exact decide_eq_false_iff_not
theorem thr_iff (T : List Bool) (a n : Nat) : thr T a n = true ↔ ∀ i, i < n → T.getD ((a + i) / 64) false = true := by
  unfold thr
  rw [List.all_eq_true]
  exact ⟨fun h i hi => h i (List.mem_range.2 hi), fun h i hi => h i (List.mem_range.1 hi)⟩
theorem thr_zero (T : List Bool) (a : Nat) : thr T a 0 = true := rfl
/-- by zones -/
theorem thr_zones (T : List Bool) (a n : Nat) (hn : 0 < n) : thr T a n = true ↔ ∀ z, a / 64 ≤ z → z < (a + n - 1) / 64 + 1 → T.getD z false = true := by
  rw [thr_iff]
  constructor
  · intro h z h1 h2
    by_cases hz : z = a / 64
    · have := h 0 hn
      rw [Nat.add_zero] at this
      rw [hz]; exact this
    · have := h (64 * z - a) (by omega)
      rw [show (a + (64 * z - a)) / 64 = z by omega] at this
      exact this
  · intro h i hi
    exact h _ (by omega) (by omega)

def numV : List Int → Int
  | [] => 0
  | x :: t => x + 256 * numV t
theorem row_byte {l : List Int} (h : Bytes l) (k : Nat) : 0 ≤ l.getD k 0 ∧ l.getD k 0 ≤ 255 := by
  by_cases hk : k < l.length
  · have e : l.getD k 0 = l[k] := by simp [List.getD, List.getElem?_eq_getElem hk]
    rw [e]; exact h _ (List.getElem_mem hk)
  · have e : l.getD k 0 = 0 := by simp [List.getD, List.getElem?_eq_none (by omega : l.length ≤ k)]
    rw [e]; decide
theorem numV_bd (l : List Int) (h : Bytes l) : 0 ≤ numV l ∧ numV l < 256 ^ l.length := by
  induction l with
  | nil => decide
  | cons x t ih =>
    have h1 := h x (by simp)
    have h2 := ih (fun y hy => h y (by simp [hy]))
    show 0 ≤ x + 256 * numV t ∧ x + 256 * numV t < 256 ^ (t.length + 1)
    rw [Int.pow_succ]
    omega
theorem numV_snoc (l : List Int) (x : Int) : numV (l ++ [x]) = numV l + 256 ^ l.length * x := by
  induction l with
  | nil => simp [numV]
  | cons y t ih =>
    show y + 256 * numV (t ++ [x]) = y + 256 * numV t + 256 ^ (t.length + 1) * x
    rw [ih, Int.pow_succ, Int.mul_add, ← Int.mul_assoc, Int.mul_comm 256 (256 ^ t.length), Int.add_assoc]
theorem numV_take (t : List Int) (k : Nat) (h : k < t.length) : numV (t.take (k + 1)) = numV (t.take k) + 256 ^ k * t.getD k 0 := by
  have e : t.getD k 0 = t[k] := by simp [List.getD, List.getElem?_eq_getElem h]
  rw [List.take_succ_eq_append_getElem h, numV_snoc, List.length_take, Nat.min_eq_left (by omega), e]
theorem take_byte {l : List Int} (h : Bytes l) (k : Nat) : Bytes (l.take k) := fun x hx => h x (List.mem_of_mem_take hx)
theorem drop_byte {l : List Int} (h : Bytes l) (k : Nat) : Bytes (l.drop k) := fun x hx => h x (List.mem_of_mem_drop hx)
theorem pow8 (k : Nat) : (2 : Int) ^ (8 * k) = 256 ^ k := by rw [Int.pow_mul]; rfl
theorem or_join (mk bk : Int) (k : Nat) (hk : k < 4) (h0 : 0 ≤ mk) (h1 : mk < 256 ^ k) (h2 : 0 ≤ bk) (h3 : bk ≤ 255) : bits .or .u32 mk (bk * 2 ^ (8 * k) % 4294967296) = mk + 256 ^ k * bk := by
  rw [pow8]
  obtain ⟨x, rfl⟩ : ∃ n : Nat, mk = n := ⟨mk.toNat, by omega⟩
  obtain ⟨y, rfl⟩ : ∃ n : Nat, bk = n := ⟨bk.toNat, by omega⟩
  have hj : (x ||| y * 256 ^ k) = x + y * 256 ^ k := by
    rw [Nat.or_comm, Nat.add_comm]
    refine nat_join (8 * k) _ _ ?_ ?_
    · rw [Nat.pow_mul]; exact Nat.mul_mod_left _ _
    · rw [Nat.pow_mul]
      have h1' : (x : Int) < ((256 ^ k : Nat) : Int) := by rw [Int.natCast_pow]; exact h1
      exact Int.ofNat_lt.1 h1'
  have hy : y ≤ 255 := by omega
  have hm : (y : Int) * 256 ^ k % 4294967296 = ((y * 256 ^ k : Nat) : Int) ∧ y * 256 ^ k < 4294967296 ∧ x < 4294967296 := by
    obtain rfl | rfl | rfl | rfl : k = 0 ∨ k = 1 ∨ k = 2 ∨ k = 3 := by omega
    all_goals (refine ⟨?_, ?_, ?_⟩ <;> omega)
  rw [hm.1, u32_or_nat _ _ hm.2.2 hm.2.1, hj]
  rw [Int.natCast_add, Int.natCast_mul, Int.natCast_pow, Int.mul_comm (y : Int)]
  rfl

/-- the number of four bytes from a on -/
def v4 (B : List Int) (a : Nat) : Int := B.getD a 0 + 256 * (B.getD (a + 1) 0 + 256 * (B.getD (a + 2) 0 + 256 * B.getD (a + 3) 0))
def b4 (v : Int) : List Int := [v % 256, v / 256 % 256, v / 65536 % 256, v / 16777216]
theorem b4_byte (v : Int) (h0 : 0 ≤ v) (h1 : v < 4294967296) : Bytes (b4 v) := by
  intro x hx
  simp [b4] at hx
  omega
theorem b4_len (v : Int) : (b4 v).length = 4 := rfl
theorem getD_drop' {α : Type} (l : List α) (k i : Nat) (d : α) : (l.drop k).getD i d = l.getD (k + i) d := by simp [List.getD, List.getElem?_drop]
theorem getD_take' {α : Type} (l : List α) (n i : Nat) (d : α) (h : i < n) : (l.take n).getD i d = l.getD i d := by simp [List.getD, h]
theorem v4_num (B : List Int) (a : Nat) (h : a + 4 ≤ B.length) : numV ((B.drop a).take 4) = v4 B a := by
  have hl : (B.drop a).length = B.length - a := List.length_drop ..
  rw [numV_take _ 3 (by omega), numV_take _ 2 (by omega), numV_take _ 1 (by omega), numV_take _ 0 (by omega)]
  simp only [getD_drop', List.take_zero, numV, v4, Nat.add_zero]
  omega
theorem v4_bd (B : List Int) (a : Nat) (h : Bytes B) : 0 ≤ v4 B a ∧ v4 B a < 4294967296 := by
  have h0 := row_byte h a
  have h1 := row_byte h (a + 1)
  have h2 := row_byte h (a + 2)
  have h3 := row_byte h (a + 3)
  unfold v4
  omega

section
variable {α : Type}
theorem splice_len (L : List α) (o : Nat) (c : List α) (h : o + c.length ≤ L.length) : (splice L o c).length = L.length := length_splice L o c h
theorem splice_getD (L : List α) (o : Nat) (c : List α) (d : α) (h : o + c.length ≤ L.length) (i : Nat) : (splice L o c).getD i d = if o ≤ i ∧ i < o + c.length then c.getD (i - o) d else L.getD i d := by
  unfold splice
  simp only [List.getD, List.getElem?_append, List.length_take, List.getElem?_take, List.getElem?_drop]
  rw [Nat.min_eq_left (by omega)]
  by_cases h1 : i < o
  · rw [if_pos h1, if_pos h1, if_neg (by omega)]
  · rw [if_neg h1]
    by_cases h2 : i - o < c.length
    · rw [if_pos h2, if_pos (by omega)]
    · rw [if_neg h2, if_neg (by omega), show o + c.length + (i - o - c.length) = i by omega]
theorem splice_map {β : Type} (f : α → β) (L : List α) (o : Nat) (c : List α) : splice (L.map f) o (c.map f) = (splice L o c).map f := by
  unfold splice
  simp
theorem splice_all (L c : List α) (h : c.length = L.length) : splice L 0 c = c := by unfold splice; simp [h]
theorem splice_nil (L : List α) (o : Nat) : splice L o [] = L := by unfold splice; simp
theorem splice_mem {L : List α} {o : Nat} {c : List α} {x : α} (h : x ∈ splice L o c) : x ∈ L ∨ x ∈ c := by
  unfold splice at h
  rcases List.mem_append.1 h with h | h
  · exact .inl (List.mem_of_mem_take h)
  · rcases List.mem_append.1 h with h | h
    · exact .inr h
    · exact .inl (List.mem_of_mem_drop h)
theorem ext_getD (d : α) {l m : List α} (hl : l.length = m.length) (h : ∀ i, i < l.length → l.getD i d = m.getD i d) : l = m := by
  apply List.ext_getElem hl
  intro i h1 h2
  have := h i h1
  simpa [List.getD, List.getElem?_eq_getElem h1, List.getElem?_eq_getElem h2] using this
/-- one more cell laid -/
theorem splice_snoc (L : List α) (o k : Nat) (x : α) (h : o + k < L.length) : (splice L o (List.replicate k x)).set (o + k) x = splice L o (List.replicate (k + 1) x) := by
  apply ext_getD x
  · rw [List.length_set, splice_len _ _ _ (by simp; omega), splice_len _ _ _ (by simp; omega)]
  · intro i hi
    rw [List.length_set, splice_len _ _ _ (by simp; omega)] at hi
    rw [splice_getD _ _ _ _ (by simp; omega)]
    have e : ((splice L o (List.replicate k x)).set (o + k) x).getD i x = if o + k = i then x else (splice L o (List.replicate k x)).getD i x := by
      simp only [List.getD, List.getElem?_set]
      rw [splice_len _ _ _ (by simp; omega)]
      by_cases hq : o + k = i
      · rw [if_pos hq, if_pos hq, if_pos (by omega)]; rfl
      · rw [if_neg hq, if_neg hq]
    rw [e, splice_getD _ _ _ _ (by simp; omega)]
    have r : ∀ m j, (List.replicate m x).getD j x = x := fun m j => by
      by_cases hj : j < m
      · simp [List.getD, hj]
      · simp [List.getD, List.getElem?_eq_none (by simp; omega : (List.replicate m x).length ≤ j)]
    simp only [List.length_replicate, r]
    by_cases hq : o + k = i
    · rw [if_pos hq, if_pos (by omega)]
    · rw [if_neg hq]
      by_cases h1 : o ≤ i ∧ i < o + k
      · rw [if_pos h1, if_pos (by omega)]
      · rw [if_neg h1, if_neg (by omega)]
end
theorem splice_byte {B c : List Int} (hB : Bytes B) (hc : Bytes c) (o : Nat) : Bytes (splice B o c) := fun x hx => (splice_mem hx).elim (hB x) (hc x)
theorem rep_byte (n : Nat) : Bytes (List.replicate n 0) := fun x hx => by rw [List.eq_of_mem_replicate hx]; decide
theorem rep_getD {α : Type} (m j : Nat) (x d : α) (h : j < m) : (List.replicate m x).getD j d = x := by simp [List.getD, h]
theorem v4_b4 (B : List Int) (a : Nat) (v : Int) (h0 : 0 ≤ v) (h1 : v < 4294967296) (h : a + 4 ≤ B.length) : v4 (splice B a (b4 v)) a = v := by
  unfold v4
  rw [splice_getD _ _ _ _ (by simpa [b4] using h), splice_getD _ _ _ _ (by simpa [b4] using h), splice_getD _ _ _ _ (by simpa [b4] using h), splice_getD _ _ _ _ (by simpa [b4] using h)]
  rw [if_pos (by simp [b4]), if_pos (by simp [b4]), if_pos (by simp [b4]), if_pos (by simp [b4])]
  rw [show a - a = 0 by omega, show a + 1 - a = 1 by omega, show a + 2 - a = 2 by omega, show a + 3 - a = 3 by omega]
  show v % 256 + 256 * (v / 256 % 256 + 256 * (v / 65536 % 256 + 256 * (v / 16777216))) = v
  omega
theorem v4_far (B : List Int) (a b : Nat) (c : List Int) (h : b + c.length ≤ B.length) (hf : a + 4 ≤ b ∨ b + c.length ≤ a) : v4 (splice B b c) a = v4 B a := by
  unfold v4
  rw [splice_getD _ _ _ _ h, splice_getD _ _ _ _ h, splice_getD _ _ _ _ h, splice_getD _ _ _ _ h]
  rw [if_neg (by omega), if_neg (by omega), if_neg (by omega), if_neg (by omega)]
end Go.Proofs.Ytojpcijfipdiaaa.Mm
