/- The statement ScanFits, walked. -/
import Derived.Test.YtojpcijfipdiaaaScanPad2
import Derived.Test.YtojpcijfipdiaaaScanOpen
namespace Go.Proofs.Ytojpcijfipdiaaa.Mm
open Go.ChangeShapes Go.WideShapes Go.ChangeAt Go.RowKit
set_option linter.unusedVariables false

theorem take_snoc (l : List InsV) (k : Nat) (hk : k < l.length) : l.take (k + 1) = l.take k ++ [l.getD k insD] := by
  rw [List.take_succ_eq_append_getElem hk]
  simp [List.getD, List.getElem?_eq_getElem hk]
/-- the first k are right, and so long -/
def FitI (l : List InsV) (k s : Nat) : Prop := (∀ j, j < k → (l.getD j insD).right = true) ∧ (flatI (l.take k)).length = s
theorem fitI_0 (l : List InsV) : FitI l 0 0 := ⟨fun j h => by omega, rfl⟩
theorem fitI_next {l : List InsV} {k s : Nat} (h : FitI l k s) (hk : k < l.length) (hr : (l.getD k insD).right = true) (t : Nat) (ht : (l.getD k insD).lay.length = t) : FitI l (k + 1) (s + t) := by
  obtain ⟨h1, h2⟩ := h
  refine ⟨fun j hj => ?_, ?_⟩
  · rcases Nat.lt_or_ge j k with h | h
    · exact h1 j h
    · obtain rfl : j = k := by omega
      exact hr
  · rw [take_snoc l k hk, flatI_app, List.length_append, h2, flatI_cons, List.length_append, ht]
    rfl
theorem row_ok {w : World} {A : Option Addr} {cap : Nat} {l : List InsV} (r : InsRow w A cap l) (h : ∀ j, j < l.length → (l.getD j insD).right = true) : ∀ x ∈ l, x.Ok := fun x hx => by
  obtain ⟨k, hk, rfl⟩ := List.mem_iff_getElem.1 hx
  have h1 := h k hk
  have h2 := r.2.2.1 _ hx
  simp [List.getD, List.getElem?_eq_getElem hk] at h1
  exact lay_right h2 h1
theorem fitI_end {w : World} {A : Option Addr} {cap : Nat} {l : List InsV} {s : Nat} (r : InsRow w A cap l) (h : FitI l l.length s) : (padR l).length % 32 = 0 ∧ s ≤ (padR l).length ∧ (padR l).length ≤ s + 5 * l.length + 31 := by
  obtain ⟨h1, h2⟩ := h
  have hok := row_ok r h1
  rw [List.take_length] at h2
  have hb := pad_bd l 0 hok
  have h3 := pad_len32 l hok
  unfold padR
  rw [if_pos ((allR_getD l).2 h1)]
  rw [h2] at hb
  exact ⟨h3, hb⟩
/-- Pad's answer, where one is wrong -/
theorem pad_wrong (A : Option Addr) (cap n : Nat) (l : List InsV) (hn : l.length = n) (h42 : n ≤ 4200) (w : World) (r : InsRow w A cap l) (h : padR l = []) :
    Calls Try.prog 11 #[.slice A n cap] w fun e w' => ∃ A' c', e = .returned (.slice A' 0 c') ∧ Below w.heap.size w w' :=
  (Pad_any A cap n l hn h42 w r).mono (fun e w' ⟨A', c', he, _, hb⟩ => ⟨A', c', by rw [he, h]; rfl, hb⟩)

end Go.Proofs.Ytojpcijfipdiaaa.Mm
