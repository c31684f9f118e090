/- The statement ScanPlays, walked. -/
import Derived.Test.YtcfdebamokcjkaaScanRef
namespace Go.Proofs.Ytcfdebamokcjkaa.Mm
open Go.ChangeShapes Go.WideShapes Go.ChangeAt Go.RowKit
set_option linter.unusedVariables false

set_option maxHeartbeats 2000000 in
theorem plays_ok (A : Option Addr) (cap n : Nat) (code : List Int) (hn : code.length = n) (h : n ≤ 4200) (w : World) (r : RowAt w A cap code) :
    Calls Try.prog 3 #[.slice A n cap] w fun e w' => e = .returned (.bool true) ∧ Below w.heap.size w w' := by
  have R := Lib.hid r
  have HN := Lib.hid hn
  clear r hn
  go_enter Try.func3, Try.ntmps3
  go_wp2_with fail
  refine (awake_any _).mono ?_; rintro e w1 ⟨rfl, hb1⟩
  have B1 := Lib.hid hb1; clear hb1
  go_wp2_with fail
  refine (Starts_any A cap n code HN.out _ (R.out.below B1.out)).mono ?_; rintro e w2 ⟨A2, c2, rfl, i2, hb2⟩
  have I2 := Lib.hid i2
  have B2 := Lib.hid (bel_then B1.out hb2); clear i2 hb2
  go_wp2_with fail
  refine (Listing_any A cap n code HN.out _ (R.out.below B2.out)).mono ?_; rintro e w3 ⟨A3, c3, rfl, i3, hb3⟩
  have I3 := Lib.hid i3
  have J2 := Lib.hid (I2.out.below hb3)
  have B3 := Lib.hid (bel_then B2.out hb3); clear i3 hb3
  go_wp2_with fail
  refine (rscan_any A cap n code HN.out _ (R.out.below B3.out)).mono ?_; rintro e w4 ⟨A4, c4, A5, c5, rfl, i4, i5, hb4⟩
  have I4 := Lib.hid i4
  have I5 := Lib.hid i5
  have K2 := Lib.hid (J2.out.below hb4)
  have K3 := Lib.hid (I3.out.below hb4)
  have B4 := Lib.hid (bel_then B3.out hb4); clear i4 i5 hb4 I2 I3 J2 B1 B2 B3
  have C1 := Lib.hid (ints_yes (posI (scanL code)) A2 A4 c2 c4 (scanL code).length (posI_len _) w4 K2.out I4.out)
  have C2 := Lib.hid (fun w5 (b : Below w4.heap.size w4 w5) => same_yes (insI (scanL code)) A3 A5 c3 c5 (scanL code).length (insI_len _) w5 (K3.out.below b) (I5.out.below b))
  generalize (scanL code).length = m at *
  generalize scanE code = q at *
  go_wp2_with fail
  refine C1.out.mono ?_; rintro e w5 ⟨rfl, hb5⟩
  have B5 := Lib.hid hb5; clear hb5
  go_wp2_with fail
  refine (C2.out w5 B5.out).mono ?_; rintro e w6 ⟨rfl, hb6⟩
  have B6 := Lib.hid (bel_then (bel_then B4.out B5.out) hb6); clear hb6
  go_wp2_with fail
  go_ret
  exact ⟨rfl, B6.out⟩

theorem plays_long (A : Option Addr) (cap n : Nat) (h : 4200 < n) (hm : n ≤ maxLen) (w : World) :
    Calls Try.prog 3 #[.slice A n cap] w fun e w' => e = .returned (.bool true) ∧ Below w.heap.size w w' := by
  unfold maxLen at hm
  go_enter Try.func3, Try.ntmps3
  go_wp2_with fail
  refine (awake_any _).mono ?_; rintro e w1 ⟨rfl, hb1⟩
  have B1 := Lib.hid hb1; clear hb1
  go_wp2_with fail
  refine (awake_any _).mono ?_; rintro e w2 ⟨rfl, hb2⟩
  have B2 := Lib.hid (bel_then B1.out hb2); clear hb2
  go_wp2_with fail
  go_ret
  exact ⟨rfl, B2.out⟩
theorem scanPlays_walk (A : Option Addr) (cap : Nat) (l : List Int) (w : World) (r : RowAt w A cap l) :
    Calls Try.prog 3 #[.slice A l.length cap] w fun e w' => e = .returned (.bool true) ∧ Below w.heap.size w w' := by
  rcases Nat.lt_or_ge 4200 l.length with h | h
  · exact plays_long A cap _ h (by have := r.1; have := r.2.1; omega) w
  · exact plays_ok A cap _ l rfl h w r
end Go.Proofs.Ytcfdebamokcjkaa.Mm
