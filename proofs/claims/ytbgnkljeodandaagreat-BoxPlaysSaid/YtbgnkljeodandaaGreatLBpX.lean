/- The statement BoxPlays, walked: the walk over contracts, with the contracts of the landed package put in. -/
import Derived.Test.YtbgnkljeodandaaGreatLVeC
import Derived.Test.YtbgnkljeodandaaGreatLGoR
import Derived.Test.YtbgnkljeodandaaGreatLBxN
import Derived.Test.YtbgnkljeodandaaGreatLBxC
import Derived.Test.YtbgnkljeodandaaGreatLBxS
import Derived.Test.YtbgnkljeodandaaGreatLBoxPlL
namespace Go.Proofs.YtbgnkljeodandaaGreat.Mm
open Go.ChangeShapes Go.WideShapes Go.ChangeAt Go.RowKit
set_option linter.unusedVariables false

theorem rCode_any (A : Option Addr) (cap n : Nat) (code : List Int) (hn : code.length = n) (w : World) (r : RowAt w A cap code) : Calls Tryz.prog 12 #[.slice A n cap] w fun e w' => e = .returned (.int .i64 (verE code)) ∧ Below w.heap.size w w' := by
  have C1 := Lib.hid (rMay_any A cap n code hn w r)
  have hm : n ≤ maxLen := by have := r.1; have := r.2.1; omega
  unfold maxLen at hm
  have HC := ver_cases code
  rw [hn] at HC
  clear r hn
  generalize mayE code = q at *
  generalize verE code = v at *
  rcases HC with ⟨h1, rfl⟩ | ⟨rfl, h2, rfl⟩ | ⟨rfl, h2, rfl⟩
  · have hq : (v != 0) = true := by rw [bne_iff_ne]; exact h1
    clear h1
    go_enter Tryz.func12, Tryz.ntmps12
    go_wp2_with fail
    refine C1.out.mono ?_; rintro e w1 ⟨rfl, hb1⟩
    go_wp2
    go_ret
    exact ⟨rfl, hb1⟩
  · go_enter Tryz.func12, Tryz.ntmps12
    go_wp2_with fail
    refine C1.out.mono ?_; rintro e w1 ⟨rfl, hb1⟩
    go_wp2
    go_ret
    exact ⟨rfl, hb1⟩
  · go_enter Tryz.func12, Tryz.ntmps12
    go_wp2_with fail
    refine C1.out.mono ?_; rintro e w1 ⟨rfl, hb1⟩
    go_wp2
    go_ret
    exact ⟨rfl, hb1⟩
theorem sliceC2_code : SliceC2 := slice_code (Lib.hid do_code2)
theorem sliceC_code : SliceC := sliceC_of sliceC2_code
theorem awB_code : AwB := awake_box newC sliceC_code
theorem boxPlays_walk (A0 : Option Addr) (ca : Nat) (C : List Int) (D0 : Option Addr) (cd : Nat) (D : List Int) (R0 : Option Addr) (rl cr : Nat) (S0 : Option Addr) (sl cs : Nat) (w : World) (rA : RowAt w A0 ca C) (rD : RowAt w D0 cd D) (rR : ∃ R : List Int, rl = R.length ∧ KRow .u32 w R0 cr R) (rS : ∃ SL : List Int, sl = SL.length ∧ KRow .i64 w S0 cs SL) :
  Calls Tryz.prog 3 #[.slice A0 C.length ca, .slice D0 D.length cd, .slice R0 rl cr, .slice S0 sl cs] w fun e w' => e = .returned (.bool true) ∧ Below w.heap.size w w' :=
 vplays13 (Lib.hid awB_code) (Lib.hid newC) (Lib.hid sliceC2_code) (Lib.hid rCode_any) A0 ca C D0 cd D R0 rl cr S0 sl cs w rA rD rR rS
end Go.Proofs.YtbgnkljeodandaaGreat.Mm
