/- The example of lex, and what the statements read. -/
import Derived.Test.YtnlanaompaaijaaDoorLexRead
namespace Go.Proofs.YtnlanaompaaijaaDoor.Mm
open Go.ChangeShapes Go.WideShapes Go.ChangeAt Go.RowKit
set_option linter.unusedVariables false

theorem readE_1 : readE [97, 61, 49] = .ok [(110, [97], 0), (115, [61], 0), (48, [49], 1)] := by
  unfold readE
  rw [if_neg (by decide), read_1]
theorem PcRow.at {w : World} {A : Option Addr} {cap : Nat} {l : List Pc} (r : PcRow w A cap l) (k : Nat) (hk : k < l.length) : ∃ x, A = some x ∧ x.block < w.heap.size ∧ PcAt w (x.add (k * 3)) (l.getD k pc0) ∧ WordOk (l.getD k pc0) := by
  obtain ⟨h1, h2, h3, h4⟩ := r
  obtain ⟨p, hp, hb, hc⟩ := h4 (by intro e; subst e; simp at hk)
  exact ⟨p, hp, hb, hc k hk, h3 _ (by simp [List.getD, List.getElem?_eq_getElem hk])⟩
theorem awake_any (w : World) (hE : ErrV w) : Calls Tryd.prog 7 #[] w fun e w' => e = .returned (.bool true) ∧ Below w.heap.size w w' := by
  have C := read_any ⟨#[97, 61, 49]⟩ (by decide) w hE
  unfold ReadP at C
  rw [show (⟨#[97, 61, 49]⟩ : ByteArray).data.toList = [97, 61, 49] from rfl, readE_1] at C
  simp only at C
  replace C := Lib.hid C
  clear hE
  go_enter Tryd.func7, Tryd.ntmps7
  go_wp2_with fail
  refine C.out.mono ?_; rintro e w1 ⟨A, cap, rfl, r, hb⟩
  obtain ⟨x, rfl, hxb, hc, _⟩ := r.at 2 (by decide)
  have B := Lib.hid hb
  have c2 := hc.c2
  simp only [List.getD_cons_succ, List.getD_cons_zero] at c2
  have h3 : 3 ≤ cap := r.1
  clear hb r hc
  rw [show x.add (2 * 3) = ⟨x.block, x.off + 6, none⟩ by simp [Addr.add]] at c2
  go_wp2
  go_ret
  exact ⟨rfl, B.out⟩
end Go.Proofs.YtnlanaompaaijaaDoor.Mm
