/- The statement MemParts, walked. -/
import Derived.Test.YtjcggpaiminecaaMemBack
namespace Go.Proofs.Ytjcggpaiminecaa.Mm
open Go.ChangeShapes Go.WideShapes Go.ChangeAt Go.RowKit
set_option linter.unusedVariables false

def T7 : List Bool := [true, true, true, true, true, true, true, false]
theorem T7_get (z : Nat) : T7.getD z false = decide (z < 7) := by
  by_cases h : z < 8
  · obtain rfl | rfl | rfl | rfl | rfl | rfl | rfl | rfl : z = 0 ∨ z = 1 ∨ z = 2 ∨ z = 3 ∨ z = 4 ∨ z = 5 ∨ z = 6 ∨ z = 7 := by omega
    all_goals rfl
  · rw [decide_eq_false (by omega)]
    simp [List.getD, List.getElem?_eq_none (by simp [T7]; omega : T7.length ≤ z)]
theorem T7_yes (a n : Nat) (h : a + n ≤ 448 ∨ (n = 0 ∧ a ≤ 512)) : wholeB T7 a n = true := by
  unfold wholeB
  rw [Bool.and_eq_true, liesB_iff, thr_iff]
  refine ⟨by show 0 ≤ (a : Int) ∧ 0 ≤ (n : Int) ∧ (n : Int) ≤ (512 : Int) - a; omega, fun i hi => ?_⟩
  rw [T7_get, decide_eq_true_iff]
  omega
theorem T7_no (a n : Nat) (h0 : 0 < n) (h : 448 < a + n) : wholeB T7 a n = false := by
  cases hq : wholeB T7 a n
  · rfl
  · unfold wholeB at hq
    rw [Bool.and_eq_true, liesB_iff, thr_iff] at hq
    obtain ⟨q1, q2⟩ := hq
    have := q2 (n - 1) (by omega)
    rw [T7_get, decide_eq_true_iff] at this
    omega

theorem rep_splice (N o n : Nat) (x : Int) (h : o + n ≤ N) : splice (List.replicate N x) o (List.replicate n x) = List.replicate N x := by
  apply ext_getD x
  · rw [splice_len _ _ _ (by simpa using h)]
  · intro i hi
    rw [splice_len _ _ _ (by simpa using h), List.length_replicate] at hi
    rw [splice_getD _ _ _ _ (by simpa using h)]
    split
    · rw [rep_getD _ _ _ _ (by rename_i hq; rw [List.length_replicate] at hq; omega), rep_getD _ _ _ _ hi]
    · rfl
theorem set_7 {w0 w : World} {p g h : Nat} (s : MSt w0 p g h (List.replicate (64 * 8) 0) (List.replicate 8 false) w) :
    Calls Try.prog 10 #[.pointer (some ⟨p, 0, none⟩), .int .i64 0, .int .i64 448, .bool true] w fun e w' => e = .returned (.int .i64 0) ∧ MSt w0 p g h (List.replicate (64 * 8) 0) T7 w' ∧ Chg g h w w' := by
  have hs : setB (List.replicate (64 * 8) (0 : Int)).length 0 448 = true := by rw [setB_iff, List.length_replicate]; omega
  refine (set_any s.at_ 0 448 true hs).mono ?_
  rintro e w' ⟨rfl, m, c⟩
  rw [show (448 : Int).toNat = 448 from rfl, show (0 : Int).toNat = 0 from rfl, rep_splice _ _ _ _ (by decide), show (448 / 64 : Int).toNat = 7 from rfl, show (0 / 64 : Int).toNat = 0 from rfl] at m
  exact ⟨rfl, s.chg m c, c⟩

theorem MSt.keep {w0 w w' : World} {p g h x y : Nat} {B : List Int} {T : List Bool} (s : MSt w0 p g h B T w) (c : Chg x y w w') (b : Below w0.heap.size w0 w') (d : (p ≠ x ∧ g ≠ x ∧ h ≠ x) ∧ (p ≠ y ∧ g ≠ y ∧ h ≠ y)) : MSt w0 p g h B T w' :=
  ⟨s.at_.chg c d.1.1 d.2.1 d.1.2.1 d.2.2.1 d.1.2.2 d.2.2.2, s.p_, s.g_, s.h_, b⟩

/-- two memories side by side -/
def Dis (p g h p' g' h' : Nat) : Prop := ((p ≠ g' ∧ g ≠ g' ∧ h ≠ g') ∧ (p ≠ h' ∧ g ≠ h' ∧ h ≠ h')) ∧ ((p' ≠ g ∧ g' ≠ g ∧ h' ≠ g) ∧ (p' ≠ h ∧ g' ≠ h ∧ h' ≠ h))

theorem row_take {w : World} {A : Option Addr} {cap : Nat} {l : List Int} (r : RowAt w A cap l) (m : Nat) : RowAt w A cap (l.take m) := by
  obtain ⟨h1, h2, h3, h4⟩ := r
  have hl : (l.take m).length ≤ l.length := by rw [List.length_take]; omega
  refine ⟨by omega, h2, take_byte h3 _, fun hne => ?_⟩
  obtain ⟨x, hx, hb, hc⟩ := h4 (by intro e; subst e; simp at hne)
  exact ⟨x, hx, hb, fun i hi => by rw [hc i (by omega), getD_take' _ _ _ _ (by rw [List.length_take] at hi; omega)]⟩
theorem row_drop {w : World} {x : Addr} {cap : Nat} {l : List Int} (r : RowAt w (some x) cap l) (m : Nat) : RowAt w (some (x.add m)) (cap - m) (l.drop m) := by
  obtain ⟨h1, h2, h3, h4⟩ := r
  refine ⟨by rw [List.length_drop]; omega, by omega, drop_byte h3 _, fun hne => ?_⟩
  obtain ⟨y, hy, hb, hc⟩ := h4 (by intro e; subst e; simp at hne)
  injection hy with hy; subst hy
  exact ⟨_, rfl, by rw [block_add]; exact hb, fun i hi => by rw [List.length_drop] at hi; rw [add_add, hc _ (by omega), getD_drop']⟩
theorem row_nil (w : World) (A : Option Addr) (cap : Nat) (h : cap ≤ maxLen) : RowAt w A cap [] := ⟨Nat.zero_le _, h, fun x hx => by simp at hx, fun h => absurd rfl h⟩

theorem splice_two (L l : List Int) (o k : Nat) (hk : k ≤ l.length) (h : o + l.length ≤ L.length) : splice (splice L o (l.take k)) (o + k) (l.drop k) = splice L o l := by
  have h1 : (l.take k).length = k := by rw [List.length_take]; omega
  have h2 : (l.drop k).length = l.length - k := List.length_drop ..
  apply ext_getD 0
  · rw [splice_len _ _ _ (by rw [splice_len _ _ _ (by omega)]; omega), splice_len _ _ _ (by omega), splice_len _ _ _ h]
  · intro i hi
    rw [splice_getD _ _ _ _ (by rw [splice_len _ _ _ (by omega)]; omega), splice_getD _ _ _ _ (by omega), splice_getD _ _ _ _ h, h1, h2]
    by_cases q1 : o + k ≤ i ∧ i < o + k + (l.length - k)
    · rw [if_pos q1, if_pos (by omega), getD_drop', show k + (i - (o + k)) = i - o by omega]
    · rw [if_neg q1]
      by_cases q2 : o ≤ i ∧ i < o + k
      · rw [if_pos q2, if_pos (by omega), getD_take' _ _ _ _ (by omega)]
      · rw [if_neg q2, if_neg (by omega)]

theorem u8_sz (w : World) : (sizeOf (Try.prog.elem 30)).run Try.prog w = .ok 1 w := by kernel_rfl
theorem u8_el : Try.prog.underlying 30 = some (.slice (Try.prog.elem 30)) := by kernel_rfl
/-- the first k of a slice -/
theorem cut_head {w0 : World} {A : Option Addr} {cap : Nat} {l : List Int} (r : RowAt w0 A cap l) (n k : Nat) (hn : l.length = n) (hk : k ≤ n) :
    ∃ A1 c1, (∀ w, (Instr.slice 30 (.slice A n cap) none (some (.int .i64 k)) none).run Try.prog w = .ok (.slice A1 k c1) w) ∧ ∀ w', RowAt w' A cap l → RowAt w' A1 c1 (l.take k) := by
  have hc := r.1
  refine ⟨if cap = 0 then A else A.map (·.add (0 * 1)), cap, fun w => ?_, fun w' r' => ?_⟩
  · rw [run_slice_h w 30 A n cap u8_el .i64 k (by omega) (by omega), u8_sz]
    simp [Result.andThen, sliced]
  · have e : (if cap = 0 then A else A.map (·.add (0 * 1))) = A := by
      split
      · rfl
      · cases A
        · rfl
        · rfl
    rw [e]
    exact row_take r' k
/-- the rest -/
theorem cut_tail {w0 : World} {A : Option Addr} {cap : Nat} {l : List Int} (r : RowAt w0 A cap l) (n k : Nat) (hn : l.length = n) (hk : k ≤ n) :
    ∃ A1 c1, (∀ w, (Instr.slice 30 (.slice A n cap) (some (.int .i64 k)) none none).run Try.prog w = .ok (.slice A1 (n - k) c1) w) ∧ ∀ w', RowAt w' A cap l → RowAt w' A1 c1 (l.drop k) := by
  have hc := r.1
  refine ⟨if cap = k then A else A.map (·.add (k * 1)), cap - k, fun w => ?_, fun w' r' => ?_⟩
  · rw [run_slice_l w 30 A n cap u8_el .i64 k (by omega) (by omega), u8_sz]
    simp [Result.andThen, sliced]
  · have hm := r.2.1
    by_cases h : k = n
    · rw [List.drop_of_length_le (by omega)]
      exact row_nil _ _ _ (by omega)
    · rw [if_neg (by omega)]
      cases A with
      | none =>
        obtain ⟨x, hx, _⟩ := r'.2.2.2 (by intro e; subst e; simp at hn; omega)
        cases hx
      | some x =>
        rw [Nat.mul_one]
        exact row_drop r' k

end Go.Proofs.Ytjcggpaiminecaa.Mm
