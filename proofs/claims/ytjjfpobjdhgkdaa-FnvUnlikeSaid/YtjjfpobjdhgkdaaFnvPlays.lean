/- The statements FnvPlays and FnvUnlike, walked. -/
import Derived.Test.YtjjfpobjdhgkdaaFnvFour
namespace Go.Proofs.Ytjjfpobjdhgkdaa.Mm
open Go.ChangeShapes Go.WideShapes Go.ChangeAt Go.RowKit
set_option linter.unusedVariables false

theorem plays_long (h : Int) (A : Option Addr) (cap : Nat) (l : List Int) (w : World) (hl : l.length ≤ maxLen) (hlong : 3000 < l.length) :
    Calls Try.prog 3 #[.int .u32 h, .slice A l.length cap] w fun e w' => e = .returned (.bool true) ∧ Below w.heap.size w w' := by
  unfold maxLen at hl
  go_enter Try.func3, Try.ntmps3
  go_wp2_with fail
  refine (awake_any _).mono ?_; rintro e w1 ⟨rfl, hb1⟩
  go_wp2_with fail
  refine (awake_any _).mono ?_; rintro e w2 ⟨rfl, hb2⟩
  go_wp2_with fail
  go_ret
  exact ⟨rfl, bel_then hb1 hb2⟩

theorem plays_short (h : Int) (h0 : 0 ≤ h) (h1 : h < 4294967296) (A : Option Addr) (cap : Nat) (l : List Int) (w : World) (r : RowAt w A cap l) (hs : l.length ≤ 3000) (h4 : l.length ≠ 4) :
    Calls Try.prog 3 #[.int .u32 h, .slice A l.length cap] w fun e w' => e = .returned (.bool true) ∧ Below w.heap.size w w' := by
  have R := Lib.hid r
  have CN := Lib.hid (number_no (strOfNums l) (by rw [strOfNums_size]; unfold maxLen; omega) (by rw [strOfNums_size]; exact h4))
  have h4' : decide (l.length = 4) = false := decide_eq_false h4
  have h4i : ((l.length : Int) == 4) = false := by simp; omega
  clear r h4
  go_enter Try.func3, Try.ntmps3
  go_wp2_with fail
  refine (awake_any _).mono ?_; rintro e w1 ⟨rfl, hb1⟩
  have R1 := Lib.hid (R.out.below hb1)
  have hcv := conv_row R1.out l.length rfl
  go_wp2_with fail
  refine (CN.out _).mono ?_; rintro e w' ⟨rfl, rfl⟩
  clear hcv
  go_wp2_with fail
  refine (sum_any _ _ _ _ R1.out).mono ?_; rintro e w' ⟨rfl, rfl⟩
  go_wp2_with fail
  refine (rmore_any 2166136261 (by decide) (by decide) _ _ _ _ R1.out).mono ?_; rintro e w' ⟨rfl, rfl⟩
  go_wp2_with fail
  refine (more_any h h0 h1 _ _ _ _ R1.out).mono ?_; rintro e w' ⟨rfl, rfl⟩
  go_wp2_with fail
  refine (rmore_any h h0 h1 _ _ _ _ R1.out).mono ?_; rintro e w' ⟨rfl, rfl⟩
  go_wp2_with fail
  refine (four_any h h0 h1 _).mono ?_; rintro e w2 ⟨rfl, hb2⟩
  go_wp2_with fail
  refine (rfour_any h h0 h1 _).mono ?_; rintro e w3 ⟨rfl, hb3⟩
  go_wp2_with fail
  go_ret
  exact ⟨rfl, bel_then (bel_then hb1 hb2) hb3⟩

theorem plays_four (h : Int) (h0 : 0 ≤ h) (h1 : h < 4294967296) (A : Option Addr) (cap : Nat) (l : List Int) (w : World) (r : RowAt w A cap l) (h4 : l.length = 4) :
    Calls Try.prog 3 #[.int .u32 h, .slice A l.length cap] w fun e w' => e = .returned (.bool true) ∧ Below w.heap.size w w' := by
  have R := Lib.hid r
  have CN := Lib.hid (number_yes (strOfNums l) (by rw [strOfNums_size]; exact h4))
  have h4i : ((l.length : Int) == 4) = true := by simp; omega
  have hs : l.length ≤ 3000 := by omega
  clear r h4
  generalize numV (nums (strOfNums l)) = n at CN
  go_enter Try.func3, Try.ntmps3
  go_wp2_with fail
  refine (awake_any _).mono ?_; rintro e w1 ⟨rfl, hb1⟩
  have R1 := Lib.hid (R.out.below hb1)
  have hcv := conv_row R1.out l.length rfl
  go_wp2_with fail
  refine (CN.out _).mono ?_; rintro e w' ⟨rfl, rfl⟩
  clear hcv
  go_wp2_with fail
  refine (sum_any _ _ _ _ R1.out).mono ?_; rintro e w' ⟨rfl, rfl⟩
  go_wp2_with fail
  refine (rmore_any 2166136261 (by decide) (by decide) _ _ _ _ R1.out).mono ?_; rintro e w' ⟨rfl, rfl⟩
  go_wp2_with fail
  refine (more_any h h0 h1 _ _ _ _ R1.out).mono ?_; rintro e w' ⟨rfl, rfl⟩
  go_wp2_with fail
  refine (rmore_any h h0 h1 _ _ _ _ R1.out).mono ?_; rintro e w' ⟨rfl, rfl⟩
  go_wp2_with fail
  refine (four_any h h0 h1 _).mono ?_; rintro e w2 ⟨rfl, hb2⟩
  go_wp2_with fail
  refine (rfour_any h h0 h1 _).mono ?_; rintro e w3 ⟨rfl, hb3⟩
  go_wp2_with fail
  go_ret
  exact ⟨rfl, bel_then (bel_then hb1 hb2) hb3⟩

theorem fnvPlays_walk (h : Int) (A : Option Addr) (cap : Nat) (l : List Int) (w : World) (wh : (Lit.int .u32 h).wf = true) (r : RowAt w A cap l) :
    Calls Try.prog 3 #[.int .u32 h, .slice A l.length cap] w fun e w' => e = .returned (.bool true) ∧ Below w.heap.size w w' := by
  obtain ⟨h0, h1⟩ := bounds_u32 wh
  by_cases hs : l.length ≤ 3000
  · by_cases h4 : l.length = 4
    · exact plays_four h h0 (by omega) A cap l w r h4
    · exact plays_short h h0 (by omega) A cap l w r hs h4
  · exact plays_long h A cap l w (Nat.le_trans r.1 r.2.1) (by omega)

/- FnvUnlike -/
theorem unlike_long (g h : Int) (A : Option Addr) (cap : Nat) (l : List Int) (w : World) (hl : l.length ≤ maxLen) (hlong : 3000 < l.length) :
    Calls Try.prog 6 #[.int .u32 g, .int .u32 h, .slice A l.length cap] w fun e w' => e = .returned (.bool true) ∧ Below w.heap.size w w' := by
  unfold maxLen at hl
  go_enter Try.func6, Try.ntmps6
  go_wp2_with fail
  refine (awake_any _).mono ?_; rintro e w1 ⟨rfl, hb1⟩
  go_wp2_with fail
  refine (awake_any _).mono ?_; rintro e w2 ⟨rfl, hb2⟩
  go_wp2_with fail
  go_ret
  exact ⟨rfl, bel_then hb1 hb2⟩

theorem str_eq (L M : List Int) (hL : Bytes L) (hM : Bytes M) : (strOfNums L).toList = (strOfNums M).toList ↔ L = M :=
  ⟨fun e => by
    rw [ByteArray.toList_eq, ByteArray.toList_eq] at e
    rw [← nums_str L hL, ← nums_str M hM]
    unfold nums
    rw [e], fun e => by rw [e]⟩
theorem unlike_short (g h : Int) (g0 : 0 ≤ g) (g1 : g < 4294967296) (h0 : 0 ≤ h) (h1 : h < 4294967296) (A : Option Addr) (cap : Nat) (l : List Int) (w : World) (r : RowAt w A cap l) (hs : l.length ≤ 3000) :
    Calls Try.prog 6 #[.int .u32 g, .int .u32 h, .slice A l.length cap] w fun e w' => e = .returned (.bool true) ∧ Below w.heap.size w w' := by
  have R := Lib.hid r
  have C1 := Lib.hid (fun w (r : RowAt w A cap l) => more_any g g0 g1 A cap l w r)
  have C2 := Lib.hid (fun w (r : RowAt w A cap l) => more_any h h0 h1 A cap l w r)
  have C3 := Lib.hid (fun w => four_any g g0 g1 w)
  have C4 := Lib.hid (fun w => four_any h h0 h1 w)
  have t1 : (fnvL g l == fnvL h l) = decide (g = h) := by
    rw [Bool.eq_iff_iff, beq_iff_eq, decide_eq_true_iff]; exact fnvL_inj l r.2.2.1 g h g0 g1 h0 h1
  have t2 : ((strOfNums (b4 g)).toList == (strOfNums (b4 h)).toList) = decide (g = h) := by
    rw [Bool.eq_iff_iff, beq_iff_eq, decide_eq_true_iff, str_eq _ _ (b4_byte g g0 g1) (b4_byte h h0 h1)]; exact b4_inj g h g0 g1 h0 h1
  have t3 : (g == h) = decide (g = h) := by rw [Bool.eq_iff_iff, beq_iff_eq, decide_eq_true_iff]
  clear r
  generalize fnvL g l = x at *
  generalize fnvL h l = y at *
  generalize strOfNums (b4 g) = s at *
  generalize strOfNums (b4 h) = t at *
  generalize decide (g = h) = d at *
  cases d
  all_goals
    go_enter Try.func6, Try.ntmps6
    go_wp2_with fail
    refine (awake_any _).mono ?_; rintro e w1 ⟨rfl, hb1⟩
    have R1 := Lib.hid (R.out.below hb1)
    go_wp2_with fail
    refine (C1.out _ R1.out).mono ?_; rintro e w' ⟨rfl, rfl⟩
    go_wp2_with fail
    refine (C2.out _ R1.out).mono ?_; rintro e w' ⟨rfl, rfl⟩
    go_wp2_with fail
    refine (C3.out _).mono ?_; rintro e w2 ⟨rfl, hb2⟩
    go_wp2_with fail
    refine (C4.out _).mono ?_; rintro e w3 ⟨rfl, hb3⟩
    go_wp2_with fail
    go_ret
    exact ⟨rfl, bel_then (bel_then hb1 hb2) hb3⟩

theorem fnvUnlike_walk (g h : Int) (A : Option Addr) (cap : Nat) (l : List Int) (w : World) (wg : (Lit.int .u32 g).wf = true) (wh : (Lit.int .u32 h).wf = true) (r : RowAt w A cap l) :
    Calls Try.prog 6 #[.int .u32 g, .int .u32 h, .slice A l.length cap] w fun e w' => e = .returned (.bool true) ∧ Below w.heap.size w w' := by
  obtain ⟨h0, h1⟩ := bounds_u32 wh
  obtain ⟨g0, g1⟩ := bounds_u32 wg
  by_cases hs : l.length ≤ 3000
  · exact unlike_short g h g0 (by omega) h0 (by omega) A cap l w r hs
  · exact unlike_long g h A cap l w (Nat.le_trans r.1 r.2.1) (by omega)
end Go.Proofs.Ytjjfpobjdhgkdaa.Mm
