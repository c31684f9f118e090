/- The statement IsaSizes, walked. -/
import Derived.Test.YtenmkkhpopiohaaIsaBase
namespace Go.Proofs.Ytenmkkhpopiohaa
open Go.ChangeShapes Go.WideShapes Go.ChangeAt Go.RowKit
set_option linter.unusedVariables false

set_option maxHeartbeats 4000000 in
theorem sizes_n (op1 op2 a b imm c d jmm op : Int) (s t : ByteArray) (z1 z2 : Int)
    (c1 : ∀ w, Calls Try.prog 10 #[.agg #[.int .i64 op1, .int .i64 a, .int .i64 b, .int .u32 imm]] w fun e w' => e = .returned (.string s) ∧ Below w.heap.size w w')
    (c2 : ∀ w, Calls Try.prog 10 #[.agg #[.int .i64 op1, .int .i64 c, .int .i64 d, .int .u32 jmm]] w fun e w' => e = .returned (.string t) ∧ Below w.heap.size w w')
    (c3 : ∀ w, Calls Try.prog 13 #[.int .i64 op1] w fun e w' => e = .returned (.int .i64 z1) ∧ Below w.heap.size w w')
    (c4 : ∀ w, Calls Try.prog 13 #[.int .i64 op] w fun e w' => e = .returned (.int .i64 z2) ∧ Below w.heap.size w w')
    (hst : ((s.size : Int) == 0) = true ∨ (((s.size : Int) == 0) = false ∧ ((s.size : Int) == z1) = true ∧ ((t.size : Int) == 0) = true) ∨ (((s.size : Int) == 0) = false ∧ ((s.size : Int) == z1) = true ∧ ((t.size : Int) == 0) = false ∧ ((s.size : Int) == (t.size : Int)) = true))
    (hop : (0 ≤ op ∧ op ≤ 23 ∧ 0 < z2) ∨ (op < 0 ∧ ¬ 0 < z2) ∨ (0 ≤ op ∧ 23 < op ∧ ¬ 0 < z2))
    (w : World) :
    Calls Try.prog 7 #[.agg #[.int .i64 op1, .int .i64 a, .int .i64 b, .int .u32 imm], .agg #[.int .i64 op2, .int .i64 c, .int .i64 d, .int .u32 jmm], .int .i64 op] w fun e w' => e = .returned (.bool true) ∧ Below w.heap.size w w' := by
  have C1 := Lib.hid c1; clear c1
  have C2 := Lib.hid c2; clear c2
  have C3 := Lib.hid c3; clear c3
  have C4 := Lib.hid c4; clear c4
  go_enter Try.func7, Try.ntmps7
  go_wp2_with fail
  refine (awake_any _).mono ?_; rintro e w1 ⟨rfl, hb1⟩
  have HX := (((Res.new w (.int .i64 op1) (.int .i64 a) (.int .i64 b) (.int .u32 imm) 24).alloc (.cells #[.int .i64 op2, .int .i64 c, .int .i64 d, .int .u32 jmm] 24)).below hb1)
  have HY := ((Res.new (w.alloc (.cells #[.int .i64 op1, .int .i64 a, .int .i64 b, .int .u32 imm] 24)) (.int .i64 op2) (.int .i64 c) (.int .i64 d) (.int .u32 jmm) 24)).below hb1
  rw [World.size_alloc] at HY
  have KX := Lib.hid HX
  have KY := Lib.hid HY
  obtain ⟨x0, ⟨x1, x2, x3, x4⟩, _⟩ := HX
  obtain ⟨y0, ⟨y1, y2, y3, y4⟩, v1, v2, v3, v4⟩ := HY
  have HB1 := Lib.hid hb1; clear hb1
  go_wp2_with fail
  have HT : Two w w.heap.size (w.heap.size + 1) (.int .i64 op1) (.int .i64 a) (.int .i64 b) (.int .u32 imm) (.int .i64 op1) (.int .i64 c) (.int .i64 d) (.int .u32 jmm) (w1.setCell ⟨w.heap.size + 1, 0, none⟩ (.int .i64 op1)) :=
    ⟨KX.out.oth (Nat.lt_succ_self _) 0 _, KY.out.set0 _, (bel_then (bel_al (bel_al (Below.refl _ _) _) _) HB1.out).setCell (by simp) _⟩
  have K := Lib.hid HT; clear HT KX KY HB1
  clear x0 x1 x2 x3 x4 y0 y1 y2 y3 y4 v1 v2 v3 v4
  generalize w1.setCell ⟨w.heap.size + 1, 0, none⟩ (.int .i64 op1) = W at *
  go_region_held3 (fun w' => ((w'.cell? ⟨w.heap.size, 0, none⟩ = some (.int .i64 op1) ∧ w'.cell? ⟨w.heap.size, 1, none⟩ = some (.int .i64 a) ∧ w'.cell? ⟨w.heap.size, 2, none⟩ = some (.int .i64 b) ∧ w'.cell? ⟨w.heap.size, 3, none⟩ = some (.int .u32 imm)) ∧
      (w'.cell? ⟨w.heap.size + 1, 0, none⟩ = some (.int .i64 op1) ∧ w'.cell? ⟨w.heap.size + 1, 1, none⟩ = some (.int .i64 c) ∧ w'.cell? ⟨w.heap.size + 1, 2, none⟩ = some (.int .i64 d) ∧ w'.cell? ⟨w.heap.size + 1, 3, none⟩ = some (.int .u32 jmm))) ∧ Two w w.heap.size (w.heap.size + 1) (.int .i64 op1) (.int .i64 a) (.int .i64 b) (.int .u32 imm) (.int .i64 op1) (.int .i64 c) (.int .i64 d) (.int .u32 jmm) w')
    (first | exact Two.s K.out | exact Two.s (Two.drew K.out) | exact two_keep ‹_ ∧ Two _ _ _ _ _ _ _ _ _ _ _ _› hb)
    (first | (go_at_call 10; (with_reducible refine (C1.out _).mono ?_); rintro e w' ⟨rfl, hb⟩) | (go_at_call 10; (with_reducible refine (C2.out _).mono ?_); rintro e w' ⟨rfl, hb⟩))
  rename_i hh
  obtain ⟨_, K2⟩ := hh
  obtain ⟨HX, HY, hbw⟩ := K2
  obtain ⟨x0, ⟨x1, x2, x3, x4⟩, _⟩ := HX
  clear HY hb
  have HB := Lib.hid hbw; clear hbw K
  rcases hop with ⟨q1, q2, q3⟩ | ⟨q1, q2⟩ | ⟨q1, q2, q3⟩ <;> rcases hst with p1 | ⟨p1, p2, p3⟩ | ⟨p1, p2, p3, p4⟩
  all_goals
    go_wp2_with (first | (go_at_call 13; (with_reducible refine (C3.out _).mono ?_); rintro e w3 ⟨rfl, hb3⟩) | (go_at_call 13; (with_reducible refine (C4.out _).mono ?_); rintro e w4 ⟨rfl, hb4⟩))
    go_ret
    refine ⟨ret_bool ?_, ?_⟩
    · first | rfl | (simp; omega)
    · first | exact bel_then (bel_then HB.out hb3) hb4 | exact bel_then HB.out hb4

theorem isaSizes_walk (op1 a b imm op2 c d jmm op : Int) (w : World) (w1 : (Lit.int .i64 op1).wf = true) (w2 : (Lit.int .i64 a).wf = true) (w3 : (Lit.int .i64 b).wf = true) (w4 : (Lit.int .u32 imm).wf = true)
    (v1 : (Lit.int .i64 op2).wf = true) (v2 : (Lit.int .i64 c).wf = true) (v3 : (Lit.int .i64 d).wf = true) (v4 : (Lit.int .u32 jmm).wf = true) (v5 : (Lit.int .i64 op).wf = true) :
    Calls Try.prog 7 #[.agg #[.int .i64 op1, .int .i64 a, .int .i64 b, .int .u32 imm], .agg #[.int .i64 op2, .int .i64 c, .int .i64 d, .int .u32 jmm], .int .i64 op] w fun e w' => e = .returned (.bool true) ∧ Below w.heap.size w w' := by
  obtain ⟨i0, i1⟩ := bounds_u32 w4
  obtain ⟨j0, j1⟩ := bounds_u32 v4
  have e1 : ((strOfNums (layL op1 a b imm)).size : Int) = (layL op1 a b imm).length := by rw [strOfNums_size]
  have e2 : ((strOfNums (layL op1 c d jmm)).size : Int) = (layL op1 c d jmm).length := by rw [strOfNums_size]
  refine sizes_n op1 op2 a b imm c d jmm op _ _ (szO op1) (szO op) (Lay_any op1 a b imm i0 (by omega)) (Lay_any op1 c d jmm j0 (by omega)) (Size_any op1) (Size_any op) ?_ ?_ w
  · cases h : rightB op1 a b imm
    · left; rw [e1, layL_no h]; rfl
    · right
      have l1 := layL_len h
      have p1 := szO_pos ((rightB_iff _ _ _ _).1 h).1
      cases h' : rightB op1 c d jmm
      · left
        rw [e1, e2, l1, layL_no h']
        exact ⟨by simp; omega, by simp, rfl⟩
      · right
        have l2 := layL_len h'
        rw [e1, e2, l1, l2]
        exact ⟨by simp; omega, by simp, by simp; omega, by simp⟩
  · by_cases h : 0 ≤ op ∧ op ≤ 23
    · left; have := szO_pos h; omega
    · right; rw [szO_no h]; omega
end Go.Proofs.Ytenmkkhpopiohaa
