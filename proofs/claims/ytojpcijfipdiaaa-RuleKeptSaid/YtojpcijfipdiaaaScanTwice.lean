/- The statement ScanTwice, walked. -/
import Derived.Test.YtojpcijfipdiaaaScanFits
namespace Go.Proofs.Ytojpcijfipdiaaa.Mm
open Go.ChangeShapes Go.WideShapes Go.ChangeAt Go.RowKit
set_option linter.unusedVariables false

theorem row_all {w : World} {A : Option Addr} {cap : Nat} {l : List InsV} (r : InsRow w A cap l) (h : allR l = true) : ∀ x ∈ l, x.Ok := fun x hx => lay_right (r.2.2.1 x hx) ((allR_iff l).1 h x hx)
theorem ok_all {l : List InsV} (h : ∀ x ∈ l, x.Ok) : allR l = true := (allR_iff l).2 fun x hx => (h x hx).1
/-- what is padded, scanned, and padded again -/
theorem padR_scan {w : World} {A : Option Addr} {cap : Nat} {l : List InsV} (r : InsRow w A cap l) (h0 : (padR l).length ≠ 0) (h4 : (padR l).length ≤ 4096) :
    padR l = padL l ∧ scanE (padR l) = 0 ∧ insI (scanL (padR l)) = padI 0 l ∧ padR (padI 0 l) = padR l ∧ (padR l).length % 32 = 0 := by
  cases ha : allR l with
  | false => exact absurd (by unfold padR; rw [ha]; rfl) h0
  | true =>
    have hok := row_all r ha
    have e : padR l = padL l := by unfold padR; rw [if_pos ha]
    have h32 := pad_len32 l hok
    rw [e] at h0 h4 ⊢
    have hs : sizeB (padL l).length = true := (sizeB_iff _).2 ⟨by omega, h4, h32⟩
    obtain ⟨e1, e2⟩ := scanE_0 hs (pad_scan l hok)
    refine ⟨rfl, e1, ?_, ?_, h32⟩
    · rw [e2]; exact withPos_ins _ _
    · unfold padR
      rw [if_pos (ok_all (pad_ok l 0 hok)), pad_twice l hok]

end Go.Proofs.Ytojpcijfipdiaaa.Mm
