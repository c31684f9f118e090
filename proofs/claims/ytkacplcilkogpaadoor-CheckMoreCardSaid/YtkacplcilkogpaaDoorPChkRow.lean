/- Declarations and nodes as rows in the memory; small functions of package check. -/
import Derived.Test.YtkacplcilkogpaaDoorPPrA
import Derived.Test.YtkacplcilkogpaaDoorPChkMath
namespace Go.Proofs.YtkacplcilkogpaaDoor.Mm
open Go.ChangeShapes Go.WideShapes Go.ChangeAt Go.RowKit
set_option linter.unusedVariables false
set_option linter.unusedSimpArgs false
set_option maxRecDepth 10000

abbrev DcO (w : World) (B : Nat) (v : Value) (D : List Dc) : Prop := w.ownsRow B 31 2 v D.length (D.flatMap dcC)
abbrev NdO (w : World) (B : Nat) (v : Value) (N : List (NdR × Value)) : Prop := w.ownsRow B 37 7 v N.length (N.flatMap ndP)
def dc0 : Dc := ([], 0)
def nvZ : NdR × Value := (nd0, .slice none 0 0)
theorem flatD_get (D : List Dc) : ∀ (k : Nat) (_ : k < D.length) (j : Nat), j < 2 → (D.flatMap dcC)[k * 2 + j]? = (dcC (D.getD k dc0))[j]? := by
  induction D with
  | nil => intro k h; simp at h
  | cons x r ih =>
    intro k h j hj
    rw [List.flatMap_cons]
    have hl : (dcC x).length = 2 := rfl
    cases k with
    | zero => rw [List.getElem?_append_left (by omega)]; simp
    | succ k =>
      rw [List.getElem?_append_right (by omega), hl, show (k + 1) * 2 + j - 2 = k * 2 + j by omega, ih k (by simpa using h) j hj]
      simp
theorem flatN_getZ (N : List (NdR × Value)) : ∀ (k : Nat) (_ : k < N.length) (j : Nat), j < 7 → (N.flatMap ndP)[k * 7 + j]? = (ndP (N.getD k nvZ))[j]? := by
  induction N with
  | nil => intro k h; simp at h
  | cons x r ih =>
    intro k h j hj
    rw [List.flatMap_cons]
    have hl : (ndP x).length = 7 := rfl
    cases k with
    | zero => rw [List.getElem?_append_left (by omega)]; simp
    | succ k =>
      rw [List.getElem?_append_right (by omega), hl, show (k + 1) * 7 + j - 7 = k * 7 + j by omega, ih k (by simpa using h) j hj]
      simp
theorem dcO_cell {w : World} {B : Nat} {v : Value} {D : List Dc} (h : DcO w B v D) {k : Nat} (hk : k < D.length) : ∃ x cap, v = .slice (some x) D.length cap ∧ x.spot = none ∧
    w.cell? (x.add (k * 2)) = some (.string (strB (D.getD k dc0).1)) ∧ w.cell? ⟨(x.add (k * 2)).block, (x.add (k * 2)).off + 1, none⟩ = some (.int .i64 (D.getD k dc0).2) := by
  rcases h.2 with ⟨_, hz⟩ | ⟨b, cap, cur, rfl, _⟩
  · omega
  · refine ⟨⟨b, 0, none⟩, cap, rfl, rfl, ?_, ?_⟩
    · have := h.cells (g := b) rfl (k * 2 + 0) _ (by rw [flatD_get D k hk 0 (by omega)]; rfl)
      exact this
    · have := h.cells (g := b) rfl (k * 2 + 1) _ (by rw [flatD_get D k hk 1 (by omega)]; rfl)
      rw [addr0P] at this ⊢
      exact this
theorem ndO_cell {w : World} {B : Nat} {v : Value} {N : List (NdR × Value)} (h : NdO w B v N) {k : Nat} (hk : k < N.length) : ∃ x cap, v = .slice (some x) N.length cap ∧ x.spot = none ∧
    (∀ j u, (ndP (N.getD k nvZ))[j]? = some u → w.cell? ⟨(x.add (k * 7)).block, (x.add (k * 7)).off + j, none⟩ = some u) := by
  rcases h.2 with ⟨_, hz⟩ | ⟨b, cap, cur, rfl, _⟩
  · omega
  · refine ⟨⟨b, 0, none⟩, cap, rfl, rfl, fun j u hu => ?_⟩
    have hj : j < 7 := (List.getElem?_eq_some_iff.1 hu).1
    have := h.cells (g := b) rfl (k * 7 + j) u (by rw [flatN_getZ N k hk j hj]; exact hu)
    rw [addr0P] at this ⊢
    exact this
theorem own_form {w : World} {B n size : Nat} {T : TypeId} {v : Value} {xs : List Value} (h : w.ownsRow B T size v n xs) : ∃ A c, v = .slice A n c := by
  rcases h.2 with ⟨e, e2⟩ | ⟨b, cap, cur, e, _⟩
  · exact ⟨none, 0, by rw [e, e2]⟩
  · exact ⟨_, cap, e⟩
theorem kindOf_any (s : ByteArray) (n : Int) (w : World) : Calls Tryd.prog 16 #[.agg #[.string s, .int .i64 n]] w fun e w' => e = .returned (.int .i64 (kindD n)) ∧ Below w.heap.size w w' := by
  have B1 := Lib.hid (bel_al (Below.refl _ w) (.cells #[.string s, .int .i64 n] 31))
  by_cases hn : n = -1
  · have hk : kindD n = 1 := by unfold kindD; rw [if_pos hn]
    rw [hk]; clear hk
    subst hn
    go_enter Tryd.func16, Tryd.ntmps16
    go_wp2
    go_ret
    exact ⟨rfl, B1.out⟩
  · have hk : kindD n = 2 := by unfold kindD; rw [if_neg hn]
    rw [hk]; clear hk
    go_enter Tryd.func16, Tryd.ntmps16
    go_wp2
    go_ret
    exact ⟨rfl, B1.out⟩
theorem kindFor_any (k : Int) (w : World) : Calls Tryd.prog 21 #[.int .i64 k] w fun e w' => e = .returned (.int .i64 (kindF k)) ∧ w = w' := by
  obtain ⟨z, hz⟩ : ∃ z, kindF k = z := ⟨_, rfl⟩
  have HZ := Lib.hid hz
  rw [hz]
  clear hz
  by_cases h2 : k = 2
  · have : z = 1 := by rw [← HZ.out, h2]; rfl
    subst this; clear HZ; subst h2
    go_enter Tryd.func21, Tryd.ntmps21
    go_wp2
    go_ret
    exact ⟨rfl, rfl⟩
  by_cases h7 : k = 7
  · have : z = 1 := by rw [← HZ.out, h7]; rfl
    subst this; clear HZ; subst h7
    go_enter Tryd.func21, Tryd.ntmps21
    go_wp2
    go_ret
    exact ⟨rfl, rfl⟩
  by_cases h3 : k = 3
  · have : z = 2 := by rw [← HZ.out, h3]; rfl
    subst this; clear HZ; subst h3
    go_enter Tryd.func21, Tryd.ntmps21
    go_wp2
    go_ret
    exact ⟨rfl, rfl⟩
  by_cases h8 : k = 8
  · have : z = 2 := by rw [← HZ.out, h8]; rfl
    subst this; clear HZ; subst h8
    go_enter Tryd.func21, Tryd.ntmps21
    go_wp2
    go_ret
    exact ⟨rfl, rfl⟩
  have : z = 0 := by rw [← HZ.out]; unfold kindF; rw [if_neg (by omega), if_neg (by omega)]
  subst this; clear HZ
  go_enter Tryd.func21, Tryd.ntmps21
  go_wp2
  go_ret
  exact ⟨rfl, rfl⟩
theorem wrong_any (d : Dc) (w : World) : Calls Tryd.prog 20 #[.agg #[.string (strB d.1), .int .i64 d.2]] w fun e w' => e = .returned (.bool (wrongD d)) ∧ Below w.heap.size w w' := by
  obtain ⟨s, n⟩ := d
  have B1 := Lib.hid (bel_al (Below.refl _ w) (.cells #[.string (strB s), .int .i64 n] 31))
  unfold wrongD
  simp only
  generalize strB s = s at *
  by_cases h1 : n < 1
  · have d1 : decide (n < 1) = true := decide_eq_true h1
    rw [d1]
    go_enter Tryd.func20, Tryd.ntmps20
    go_wp2
    go_ret
    exact ⟨by simp, B1.out⟩
  · have d1 : decide (n < 1) = false := decide_eq_false h1
    rw [d1]
    go_enter Tryd.func20, Tryd.ntmps20
    go_wp2
    go_ret
    exact ⟨by simp, B1.out⟩
end Go.Proofs.YtkacplcilkogpaaDoor.Mm
