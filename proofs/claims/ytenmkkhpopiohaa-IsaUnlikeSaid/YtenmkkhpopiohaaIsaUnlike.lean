/- The statement IsaUnlike, walked. -/
import Derived.Test.YtenmkkhpopiohaaIsaBase
namespace Go.Proofs.Ytenmkkhpopiohaa
open Go.ChangeShapes Go.WideShapes Go.ChangeAt Go.RowKit
set_option linter.unusedVariables false

set_option maxHeartbeats 4000000 in
theorem unlike_n (op1 a b imm op2 c d jmm : Int) (s t : ByteArray)
    (r1 : ∀ w, Calls Try.prog 11 #[.agg #[.int .i64 op1, .int .i64 a, .int .i64 b, .int .u32 imm]] w fun e w' => e = .returned (.bool true) ∧ Below w.heap.size w w')
    (r2 : ∀ w, Calls Try.prog 11 #[.agg #[.int .i64 op2, .int .i64 c, .int .i64 d, .int .u32 jmm]] w fun e w' => e = .returned (.bool true) ∧ Below w.heap.size w w')
    (c1 : ∀ w, Calls Try.prog 10 #[.agg #[.int .i64 op1, .int .i64 a, .int .i64 b, .int .u32 imm]] w fun e w' => e = .returned (.string s) ∧ Below w.heap.size w w')
    (c2 : ∀ w, Calls Try.prog 10 #[.agg #[.int .i64 op2, .int .i64 c, .int .i64 d, .int .u32 jmm]] w fun e w' => e = .returned (.string t) ∧ Below w.heap.size w w')
    (hE : s.toList = t.toList → op1 = op2 ∧ a = c ∧ b = d ∧ imm = jmm) (hP : s.size ≤ t.size → (t.extract 0 s.size).toList = s.toList → op1 = op2 ∧ a = c ∧ b = d ∧ imm = jmm) (hQ : op1 = op2 ∧ a = c ∧ b = d ∧ imm = jmm → s.toList = t.toList)
    (w : World) :
    Calls Try.prog 6 #[.agg #[.int .i64 op1, .int .i64 a, .int .i64 b, .int .u32 imm], .agg #[.int .i64 op2, .int .i64 c, .int .i64 d, .int .u32 jmm]] w fun e w' => e = .returned (.bool true) ∧ Below w.heap.size w w' := by
  have C1 := Lib.hid c1; clear c1
  have C2 := Lib.hid c2; clear c2
  have R1 := Lib.hid r1; clear r1
  have R2 := Lib.hid r2; clear r2
  have HE := Lib.hid hE; clear hE
  have HP := Lib.hid hP; clear hP
  have HQ := Lib.hid hQ; clear hQ
  go_enter Try.func6, Try.ntmps6
  go_wp2_with fail
  refine (awake_any _).mono ?_; rintro e w1 ⟨rfl, hb1⟩
  have K1 := Two.of hb1
  have HK := Lib.hid K1
  obtain ⟨⟨x0, ⟨x1, x2, x3, x4⟩, _⟩, _, _⟩ := K1
  clear hb1
  go_wp2_with fail
  refine (R1.out _).mono ?_; rintro e w2 ⟨rfl, hb2⟩
  clear x0 x1 x2 x3 x4
  have K2 := HK.out.below hb2
  have HK2 := Lib.hid K2; clear HK hb2
  obtain ⟨_, ⟨x0, ⟨x1, x2, x3, x4⟩, _⟩, _⟩ := K2
  go_wp2_with fail
  refine (R2.out _).mono ?_; rintro e w3 ⟨rfl, hb3⟩
  clear x0 x1 x2 x3 x4
  have K := Lib.hid (HK2.out.below hb3); clear HK2 hb3
  go_wp2_with fail
  go_region_held3 (fun w' => ((w'.cell? ⟨w.heap.size, 0, none⟩ = some (.int .i64 op1) ∧ w'.cell? ⟨w.heap.size, 1, none⟩ = some (.int .i64 a) ∧ w'.cell? ⟨w.heap.size, 2, none⟩ = some (.int .i64 b) ∧ w'.cell? ⟨w.heap.size, 3, none⟩ = some (.int .u32 imm)) ∧
      (w'.cell? ⟨w.heap.size + 1, 0, none⟩ = some (.int .i64 op2) ∧ w'.cell? ⟨w.heap.size + 1, 1, none⟩ = some (.int .i64 c) ∧ w'.cell? ⟨w.heap.size + 1, 2, none⟩ = some (.int .i64 d) ∧ w'.cell? ⟨w.heap.size + 1, 3, none⟩ = some (.int .u32 jmm))) ∧ Two w w.heap.size (w.heap.size + 1) (.int .i64 op1) (.int .i64 a) (.int .i64 b) (.int .u32 imm) (.int .i64 op2) (.int .i64 c) (.int .i64 d) (.int .u32 jmm) w')
    (first | exact Two.s K.out | exact Two.s (Two.drew K.out) | exact two_keep ‹_ ∧ Two _ _ _ _ _ _ _ _ _ _ _ _› hb)
    (first | (go_at_call 10; (with_reducible refine (C1.out _).mono ?_); rintro e w' ⟨rfl, hb⟩) | (go_at_call 10; (with_reducible refine (C2.out _).mono ?_); rintro e w' ⟨rfl, hb⟩))
  rename_i hh
  obtain ⟨_, K2⟩ := hh
  obtain ⟨⟨x0, ⟨x1, x2, x3, x4⟩, _⟩, ⟨y0, ⟨y1, y2, y3, y4⟩, _⟩, hbw⟩ := K2
  clear hb
  have HB := Lib.hid hbw; clear hbw K
  go_wp2
  all_goals
    go_ret
    refine ⟨ret_bool ?_, HB.out⟩
    clear x0 x1 x2 x3 x4 y0 y1 y2 y3 y4
    by_cases hxy : op1 = op2 ∧ a = c ∧ b = d ∧ imm = jmm
    · have e0 := HQ.out hxy
      first | rfl | (exfalso; omega) | (exfalso; exact absurd e0 (by assumption))
    · have e1 : ¬ s.toList = t.toList := fun h => hxy (HE.out h)
      have e2 : s.size ≤ t.size → ¬ (t.extract 0 s.size).toList = s.toList := fun h h' => hxy (HP.out h h')
      first
        | rfl
        | (exfalso; exact absurd (by assumption) e1)
        | (exfalso; omega)
        | (rcases Nat.lt_or_ge t.size s.size with hz | hz
           · simp [e1, hz]
           · simp [e1, e2 hz])

theorem unlike_1 (op1 a b imm op2 c d jmm : Int)
    (r1 : ∀ w, Calls Try.prog 11 #[.agg #[.int .i64 op1, .int .i64 a, .int .i64 b, .int .u32 imm]] w fun e w' => e = .returned (.bool false) ∧ Below w.heap.size w w')
    (w : World) :
    Calls Try.prog 6 #[.agg #[.int .i64 op1, .int .i64 a, .int .i64 b, .int .u32 imm], .agg #[.int .i64 op2, .int .i64 c, .int .i64 d, .int .u32 jmm]] w fun e w' => e = .returned (.bool true) ∧ Below w.heap.size w w' := by
  have R1 := Lib.hid r1; clear r1
  go_enter Try.func6, Try.ntmps6
  go_wp2_with fail
  refine (awake_any _).mono ?_; rintro e w1 ⟨rfl, hb1⟩
  have K1 := Two.of hb1
  have HK := Lib.hid K1
  obtain ⟨⟨x0, ⟨x1, x2, x3, x4⟩, _⟩, _, _⟩ := K1
  clear hb1
  go_wp2_with fail
  refine (R1.out _).mono ?_; rintro e w2 ⟨rfl, hb2⟩
  have K2 := Lib.hid (HK.out.below hb2)
  go_wp2_with fail
  refine (awake_any _).mono ?_; rintro e w3 ⟨rfl, hb3⟩
  go_wp2_with fail
  go_ret
  exact ⟨rfl, bel_then K2.out.2.2 hb3⟩

theorem unlike_2 (op1 a b imm op2 c d jmm : Int)
    (r1 : ∀ w, Calls Try.prog 11 #[.agg #[.int .i64 op1, .int .i64 a, .int .i64 b, .int .u32 imm]] w fun e w' => e = .returned (.bool true) ∧ Below w.heap.size w w')
    (r2 : ∀ w, Calls Try.prog 11 #[.agg #[.int .i64 op2, .int .i64 c, .int .i64 d, .int .u32 jmm]] w fun e w' => e = .returned (.bool false) ∧ Below w.heap.size w w')
    (w : World) :
    Calls Try.prog 6 #[.agg #[.int .i64 op1, .int .i64 a, .int .i64 b, .int .u32 imm], .agg #[.int .i64 op2, .int .i64 c, .int .i64 d, .int .u32 jmm]] w fun e w' => e = .returned (.bool true) ∧ Below w.heap.size w w' := by
  have R1 := Lib.hid r1; clear r1
  have R2 := Lib.hid r2; clear r2
  go_enter Try.func6, Try.ntmps6
  go_wp2_with fail
  refine (awake_any _).mono ?_; rintro e w1 ⟨rfl, hb1⟩
  have K1 := Two.of hb1
  have HK := Lib.hid K1
  obtain ⟨⟨x0, ⟨x1, x2, x3, x4⟩, _⟩, _, _⟩ := K1
  clear hb1
  go_wp2_with fail
  refine (R1.out _).mono ?_; rintro e w2 ⟨rfl, hb2⟩
  clear x0 x1 x2 x3 x4
  have K2 := HK.out.below hb2
  have HK2 := Lib.hid K2; clear HK hb2
  obtain ⟨_, ⟨x0, ⟨x1, x2, x3, x4⟩, _⟩, _⟩ := K2
  go_wp2_with fail
  refine (R2.out _).mono ?_; rintro e w3 ⟨rfl, hb3⟩
  clear x0 x1 x2 x3 x4
  have K := Lib.hid (HK2.out.below hb3); clear HK2 hb3
  go_wp2_with fail
  refine (awake_any _).mono ?_; rintro e w4 ⟨rfl, hb4⟩
  go_wp2_with fail
  go_ret
  exact ⟨rfl, bel_then K.out.2.2 hb4⟩

theorem isaUnlike_walk (op1 a b imm op2 c d jmm : Int) (w : World) (w1 : (Lit.int .i64 op1).wf = true) (w2 : (Lit.int .i64 a).wf = true) (w3 : (Lit.int .i64 b).wf = true) (w4 : (Lit.int .u32 imm).wf = true)
    (v1 : (Lit.int .i64 op2).wf = true) (v2 : (Lit.int .i64 c).wf = true) (v3 : (Lit.int .i64 d).wf = true) (v4 : (Lit.int .u32 jmm).wf = true) :
    Calls Try.prog 6 #[.agg #[.int .i64 op1, .int .i64 a, .int .i64 b, .int .u32 imm], .agg #[.int .i64 op2, .int .i64 c, .int .i64 d, .int .u32 jmm]] w fun e w' => e = .returned (.bool true) ∧ Below w.heap.size w w' := by
  obtain ⟨i0, i1⟩ := bounds_u32 w4
  obtain ⟨j0, j1⟩ := bounds_u32 v4
  have r1 := Right_any op1 a b imm i0 (by omega)
  have r2 := Right_any op2 c d jmm j0 (by omega)
  cases h1 : rightB op1 a b imm
  · rw [h1] at r1
    exact unlike_1 op1 a b imm op2 c d jmm r1 w
  · rw [h1] at r1
    cases h2 : rightB op2 c d jmm
    · rw [h2] at r2
      exact unlike_2 op1 a b imm op2 c d jmm r1 r2 w
    · rw [h2] at r2
      refine unlike_n op1 a b imm op2 c d jmm _ _ r1 r2 (Lay_any op1 a b imm i0 (by omega)) (Lay_any op2 c d jmm j0 (by omega)) ?_ ?_ ?_ w
      · intro h
        have e := nums_toList h
        rw [nums_str _ (layL_byte _ _ _ _), nums_str _ (layL_byte _ _ _ _)] at e
        exact right_same h1 h2 i0 j0 [] (by rw [List.append_nil, e])
      · intro _ h
        have e := nums_toList h
        rw [nums_extract, nums_str _ (layL_byte _ _ _ _), nums_str _ (layL_byte _ _ _ _), strOfNums_size] at e
        refine right_same h1 h2 i0 j0 ((layL op2 c d jmm).drop (layL op1 a b imm).length) ?_
        have e' := List.take_append_drop (layL op1 a b imm).length (layL op2 c d jmm)
        rw [e] at e'
        exact e'.symm
      · rintro ⟨rfl, rfl, rfl, rfl⟩; rfl
end Go.Proofs.Ytenmkkhpopiohaa
