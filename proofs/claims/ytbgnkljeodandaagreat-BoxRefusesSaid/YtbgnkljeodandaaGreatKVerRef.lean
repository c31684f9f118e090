/- Whether code is safe, what a region's size is: the document's own. -/
import Derived.Test.YtbgnkljeodandaaGreatKVeC
import Derived.Test.YtbgnkljeodandaaGreatKGoR
namespace Go.Proofs.YtbgnkljeodandaaGreat.Mm
open Go.ChangeShapes Go.WideShapes Go.ChangeAt Go.RowKit
set_option linter.unusedVariables false

theorem rCode_any (A : Option Addr) (cap n : Nat) (code : List Int) (hn : code.length = n) (w : World) (r : RowAt w A cap code) : Calls Tryz.prog 12 #[.slice A n cap] w fun e w' => e = .returned (.int .i64 (verE code)) ∧ Below w.heap.size w w' := by
  have C1 := Lib.hid (rMay_any A cap n code hn w r)
  have hm : n ≤ maxLen := by have := r.1; have := r.2.1; omega
  unfold maxLen at hm
  have HC := ver_cases code
  rw [hn] at HC
  clear r hn
  generalize mayE code = q at *
  generalize verE code = v at *
  rcases HC with ⟨h1, rfl⟩ | ⟨rfl, h2, rfl⟩ | ⟨rfl, h2, rfl⟩
  · have hq : (v != 0) = true := by rw [bne_iff_ne]; exact h1
    clear h1
    go_enter Tryz.func12, Tryz.ntmps12
    go_wp2_with fail
    refine C1.out.mono ?_; rintro e w1 ⟨rfl, hb1⟩
    go_wp2
    go_ret
    exact ⟨rfl, hb1⟩
  · go_enter Tryz.func12, Tryz.ntmps12
    go_wp2_with fail
    refine C1.out.mono ?_; rintro e w1 ⟨rfl, hb1⟩
    go_wp2
    go_ret
    exact ⟨rfl, hb1⟩
  · go_enter Tryz.func12, Tryz.ntmps12
    go_wp2_with fail
    refine C1.out.mono ?_; rintro e w1 ⟨rfl, hb1⟩
    go_wp2
    go_ret
    exact ⟨rfl, hb1⟩

end Go.Proofs.YtbgnkljeodandaaGreat.Mm
