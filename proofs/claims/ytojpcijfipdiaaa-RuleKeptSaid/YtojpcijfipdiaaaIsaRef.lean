/- What the document's own Size, two and Right of layer 2 answer. -/
import Derived.Test.YtojpcijfipdiaaaIsaBase
namespace Go.Proofs.Ytojpcijfipdiaaa
open Go.ChangeShapes Go.WideShapes Go.ChangeAt Go.RowKit
set_option linter.unusedVariables false

def szR (op : Int) : Int := if op = 0 ∨ op = 23 then 1 else if op = 1 ∨ op = 20 then 6 else if op = 19 then 5 else if 2 ≤ op ∧ op ≤ 22 then 2 else 0
theorem szR_eq (op : Int) : szR op = szO op := by
  by_cases h : 0 ≤ op ∧ op ≤ 23
  · obtain ⟨n, rfl⟩ : ∃ n : Nat, op = n := ⟨op.toNat, by omega⟩
    have hn : n < 24 := by omega
    clear h
    revert n
    decide
  · rw [szO_no h]
    unfold szR
    rw [if_neg (by omega), if_neg (by omega), if_neg (by omega), if_neg (by omega)]

theorem rSize_any (op : Int) (w : World) : Calls Try.prog 27 #[.int .i64 op] w fun e w' => e = .returned (.int .i64 (szO op)) ∧ w = w' := by
  rw [← szR_eq]
  go_enter Try.func27, Try.ntmps27
  go_wp2
  all_goals (go_ret; exact ⟨ret_int (by (try simp only [beq_iff_eq, beq_eq_false_iff_ne] at *); unfold szR; (repeat first | rw [if_pos (by omega)] | rw [if_neg (by omega)])), rfl⟩)

def twoB (op : Int) : Bool := decide (2 ≤ op ∧ op ≤ 16)
theorem two_any (op : Int) (w : World) : Calls Try.prog 34 #[.int .i64 op] w fun e w' => e = .returned (.bool (twoB op)) ∧ w = w' := by
  by_cases h : 2 ≤ op
  · go_enter Try.func34, Try.ntmps34
    go_wp2
    go_ret
    exact ⟨ret_bool (by unfold twoB; simp [h]), rfl⟩
  · go_enter Try.func34, Try.ntmps34
    go_wp2
    go_ret
    exact ⟨ret_bool (by unfold twoB; simp; omega), rfl⟩

/-- what an operation's instructions may have, by the six forms -/
theorem rightB_of {op fa fb fn m : Int} (h : 0 ≤ op ∧ op ≤ 23) (e1 : fA op = fa) (e2 : fB op = fb) (e3 : fN op = fn) (e4 : (256 : Int) ^ fn.toNat = m) (a b imm : Int) :
    rightB op a b imm = decide (0 ≤ a ∧ a ≤ fa ∧ 0 ≤ b ∧ b ≤ fb ∧ imm < m) := by
  unfold rightB fK fitsB
  rw [decide_eq_true h, e1, e2, e3, e4, Bool.true_and]
theorem right_two {op : Int} (h : 2 ≤ op ∧ op ≤ 16) (a b imm : Int) : rightB op a b imm = decide (0 ≤ a ∧ a ≤ 7 ∧ 0 ≤ b ∧ b ≤ 7 ∧ imm < 1) :=
  rightB_of (by omega) (by unfold fA; rw [if_pos (by omega)]) (by unfold fB; rw [if_pos (by omega)]) (by unfold fN; rw [if_neg (by omega), if_neg (by omega)]) (by rfl) a b imm
theorem right_none {op : Int} (h : op < 0 ∨ 23 < op) (a b imm : Int) : rightB op a b imm = false := by
  unfold rightB fK
  rw [decide_eq_false (by omega), Bool.false_and]

set_option maxHeartbeats 8000000 in
/-- the document's rule, where an operation has both registers -/
theorem rRight_two (op a b imm : Int) (h : 2 ≤ op ∧ op ≤ 16) (h0 : 0 ≤ imm) (h1 : imm < 4294967296) (w : World) :
    Calls Try.prog 28 #[.agg #[.int .i64 op, .int .i64 a, .int .i64 b, .int .u32 imm]] w fun e w' => e = .returned (.bool (rightB op a b imm)) ∧ Below w.heap.size w w' := by
  have ht : twoB op = true := decide_eq_true h
  have hs : szO op = 2 := by rw [← szR_eq]; unfold szR; rw [if_neg (by omega), if_neg (by omega), if_neg (by omega), if_pos (by omega)]
  have c1 := two_any op
  have c2 := rSize_any op
  rw [ht] at c1
  rw [hs] at c2
  have C1 := Lib.hid c1; clear c1
  have C2 := Lib.hid c2; clear c2 ht hs
  have hc : (0 ≤ a ∧ a ≤ 7 ∧ 0 ≤ b ∧ b ≤ 7) ∨ (0 ≤ a ∧ a ≤ 7 ∧ 0 ≤ b ∧ ¬ b ≤ 7) ∨ (0 ≤ a ∧ a ≤ 7 ∧ ¬ 0 ≤ b) ∨ (0 ≤ a ∧ ¬ a ≤ 7) ∨ ¬ 0 ≤ a := by omega
  have HR := Lib.hid (right_two h a b imm)
  obtain ⟨p0, p1⟩ := h
  have q1 : (op == 1) = false := by simp; omega
  have q17 : (op == 17) = false := by simp; omega
  have q18 : (op == 18) = false := by simp; omega
  have q19 : (op == 19) = false := by simp; omega
  have q20 : (op == 20) = false := by simp; omega
  have q21 : (op == 21) = false := by simp; omega
  have q22 : (op == 22) = false := by simp; omega
  rcases hc with ⟨c1, c2, c3, c4⟩ | ⟨c1, c2, c3, c4⟩ | ⟨c1, c2, c3⟩ | ⟨c1, c2⟩ | c1
  all_goals
    go_enter Try.func28, Try.ntmps28
    go_wp2_with (first | (go_at_call 34; refine (C1.out _).mono ?_; rintro e w' ⟨rfl, rfl⟩) | (go_at_call 27; refine (C2.out _).mono ?_; rintro e w' ⟨rfl, rfl⟩))
  all_goals
    go_ret
    refine ⟨ret_bool ?_, bel_al (Below.refl _ _) _⟩
    rw [HR.out]
    (try simp only [bne_iff_ne, ne_eq, bne_eq_false_iff_eq] at *)
    first
      | (symm; rw [decide_eq_true_iff]; omega)
      | (symm; rw [decide_eq_false_iff_not]; omega)
      | (rw [Bool.eq_iff_iff]; simp; omega)

set_option maxHeartbeats 8000000 in
theorem rRight_none (op a b imm : Int) (h : op < 0 ∨ 23 < op) (h0 : 0 ≤ imm) (h1 : imm < 4294967296) (w : World) :
    Calls Try.prog 28 #[.agg #[.int .i64 op, .int .i64 a, .int .i64 b, .int .u32 imm]] w fun e w' => e = .returned (.bool (rightB op a b imm)) ∧ Below w.heap.size w w' := by
  have ht : twoB op = false := decide_eq_false (by omega)
  have hs : szO op = 0 := szO_no (by omega)
  have c1 := two_any op
  have c2 := rSize_any op
  rw [ht] at c1
  rw [hs] at c2
  have C1 := Lib.hid c1; clear c1
  have C2 := Lib.hid c2; clear c2 ht hs
  have HR := Lib.hid (right_none h a b imm)
  have q1 : (op == 1) = false := by simp; omega
  have q17 : (op == 17) = false := by simp; omega
  have q18 : (op == 18) = false := by simp; omega
  have q19 : (op == 19) = false := by simp; omega
  have q20 : (op == 20) = false := by simp; omega
  have q21 : (op == 21) = false := by simp; omega
  have q22 : (op == 22) = false := by simp; omega
  go_enter Try.func28, Try.ntmps28
  go_wp2_with (first | (go_at_call 34; refine (C1.out _).mono ?_; rintro e w' ⟨rfl, rfl⟩) | (go_at_call 27; refine (C2.out _).mono ?_; rintro e w' ⟨rfl, rfl⟩))
  go_ret
  exact ⟨ret_bool HR.out.symm, bel_al (Below.refl _ _) _⟩

set_option maxHeartbeats 8000000 in
theorem rRight_0 (a b imm : Int) (h0 : 0 ≤ imm) (h1 : imm < 4294967296) (w : World) :
    Calls Try.prog 28 #[.agg #[.int .i64 0, .int .i64 a, .int .i64 b, .int .u32 imm]] w fun e w' => e = .returned (.bool (rightB 0 a b imm)) ∧ Below w.heap.size w w' := by
  have c1 := two_any 0
  have c2 := rSize_any 0
  rw [show twoB 0 = false by decide] at c1
  rw [show szO 0 = 1 by decide] at c2
  have C1 := Lib.hid c1; clear c1
  have C2 := Lib.hid c2; clear c2
  have hc : (0 ≤ a ∧ a ≤ 7 ∧ 0 ≤ b ∧ b ≤ 7) ∨ (0 ≤ a ∧ a ≤ 7 ∧ 0 ≤ b ∧ ¬ b ≤ 7) ∨ (0 ≤ a ∧ a ≤ 7 ∧ ¬ 0 ≤ b) ∨ (0 ≤ a ∧ ¬ a ≤ 7) ∨ ¬ 0 ≤ a := by omega
  have HR := Lib.hid (rightB_of (op := 0) (fa := 0) (fb := 0) (fn := 0) (m := 1) (by decide) (by decide) (by decide) (by decide) (by decide) a b imm)
  rcases hc with ⟨c1, c2, c3, c4⟩ | ⟨c1, c2, c3, c4⟩ | ⟨c1, c2, c3⟩ | ⟨c1, c2⟩ | c1
  all_goals
    go_enter Try.func28, Try.ntmps28
    go_wp2_with (first | (go_at_call 34; refine (C1.out _).mono ?_; rintro e w' ⟨rfl, rfl⟩) | (go_at_call 27; refine (C2.out _).mono ?_; rintro e w' ⟨rfl, rfl⟩))
  all_goals
    go_ret
    refine ⟨ret_bool ?_, bel_al (Below.refl _ _) _⟩
    rw [HR.out]
    (try simp only [bne_iff_ne, ne_eq, bne_eq_false_iff_eq] at *)
    first
      | (symm; rw [decide_eq_true_iff]; omega)
      | (symm; rw [decide_eq_false_iff_not]; omega)
      | (rw [Bool.eq_iff_iff]; simp; omega)

set_option maxHeartbeats 8000000 in
theorem rRight_1 (a b imm : Int) (h0 : 0 ≤ imm) (h1 : imm < 4294967296) (w : World) :
    Calls Try.prog 28 #[.agg #[.int .i64 1, .int .i64 a, .int .i64 b, .int .u32 imm]] w fun e w' => e = .returned (.bool (rightB 1 a b imm)) ∧ Below w.heap.size w w' := by
  have c1 := two_any 1
  have c2 := rSize_any 1
  rw [show twoB 1 = false by decide] at c1
  rw [show szO 1 = 6 by decide] at c2
  have C1 := Lib.hid c1; clear c1
  have C2 := Lib.hid c2; clear c2
  have hc : (0 ≤ a ∧ a ≤ 7 ∧ 0 ≤ b ∧ b ≤ 7) ∨ (0 ≤ a ∧ a ≤ 7 ∧ 0 ≤ b ∧ ¬ b ≤ 7) ∨ (0 ≤ a ∧ a ≤ 7 ∧ ¬ 0 ≤ b) ∨ (0 ≤ a ∧ ¬ a ≤ 7) ∨ ¬ 0 ≤ a := by omega
  have HR := Lib.hid (rightB_of (op := 1) (fa := 7) (fb := 0) (fn := 4) (m := 4294967296) (by decide) (by decide) (by decide) (by decide) (by decide) a b imm)
  rcases hc with ⟨c1, c2, c3, c4⟩ | ⟨c1, c2, c3, c4⟩ | ⟨c1, c2, c3⟩ | ⟨c1, c2⟩ | c1
  all_goals
    go_enter Try.func28, Try.ntmps28
    go_wp2_with (first | (go_at_call 34; refine (C1.out _).mono ?_; rintro e w' ⟨rfl, rfl⟩) | (go_at_call 27; refine (C2.out _).mono ?_; rintro e w' ⟨rfl, rfl⟩))
  all_goals
    go_ret
    refine ⟨ret_bool ?_, bel_al (Below.refl _ _) _⟩
    rw [HR.out]
    (try simp only [bne_iff_ne, ne_eq, bne_eq_false_iff_eq] at *)
    first
      | (symm; rw [decide_eq_true_iff]; omega)
      | (symm; rw [decide_eq_false_iff_not]; omega)
      | (rw [Bool.eq_iff_iff]; simp; omega)

set_option maxHeartbeats 8000000 in
theorem rRight_17 (a b imm : Int) (h0 : 0 ≤ imm) (h1 : imm < 4294967296) (w : World) :
    Calls Try.prog 28 #[.agg #[.int .i64 17, .int .i64 a, .int .i64 b, .int .u32 imm]] w fun e w' => e = .returned (.bool (rightB 17 a b imm)) ∧ Below w.heap.size w w' := by
  have c1 := two_any 17
  have c2 := rSize_any 17
  rw [show twoB 17 = false by decide] at c1
  rw [show szO 17 = 2 by decide] at c2
  have C1 := Lib.hid c1; clear c1
  have C2 := Lib.hid c2; clear c2
  have hc : (0 ≤ a ∧ a ≤ 7 ∧ 0 ≤ b ∧ b ≤ 7) ∨ (0 ≤ a ∧ a ≤ 7 ∧ 0 ≤ b ∧ ¬ b ≤ 7) ∨ (0 ≤ a ∧ a ≤ 7 ∧ ¬ 0 ≤ b) ∨ (0 ≤ a ∧ ¬ a ≤ 7) ∨ ¬ 0 ≤ a := by omega
  have HR := Lib.hid (rightB_of (op := 17) (fa := 7) (fb := 0) (fn := 0) (m := 1) (by decide) (by decide) (by decide) (by decide) (by decide) a b imm)
  rcases hc with ⟨c1, c2, c3, c4⟩ | ⟨c1, c2, c3, c4⟩ | ⟨c1, c2, c3⟩ | ⟨c1, c2⟩ | c1
  all_goals
    go_enter Try.func28, Try.ntmps28
    go_wp2_with (first | (go_at_call 34; refine (C1.out _).mono ?_; rintro e w' ⟨rfl, rfl⟩) | (go_at_call 27; refine (C2.out _).mono ?_; rintro e w' ⟨rfl, rfl⟩))
  all_goals
    go_ret
    refine ⟨ret_bool ?_, bel_al (Below.refl _ _) _⟩
    rw [HR.out]
    (try simp only [bne_iff_ne, ne_eq, bne_eq_false_iff_eq] at *)
    first
      | (symm; rw [decide_eq_true_iff]; omega)
      | (symm; rw [decide_eq_false_iff_not]; omega)
      | (rw [Bool.eq_iff_iff]; simp; omega)

set_option maxHeartbeats 8000000 in
theorem rRight_18 (a b imm : Int) (h0 : 0 ≤ imm) (h1 : imm < 4294967296) (w : World) :
    Calls Try.prog 28 #[.agg #[.int .i64 18, .int .i64 a, .int .i64 b, .int .u32 imm]] w fun e w' => e = .returned (.bool (rightB 18 a b imm)) ∧ Below w.heap.size w w' := by
  have c1 := two_any 18
  have c2 := rSize_any 18
  rw [show twoB 18 = false by decide] at c1
  rw [show szO 18 = 2 by decide] at c2
  have C1 := Lib.hid c1; clear c1
  have C2 := Lib.hid c2; clear c2
  have hc : (0 ≤ a ∧ a ≤ 7 ∧ 0 ≤ b ∧ b ≤ 7) ∨ (0 ≤ a ∧ a ≤ 7 ∧ 0 ≤ b ∧ ¬ b ≤ 7) ∨ (0 ≤ a ∧ a ≤ 7 ∧ ¬ 0 ≤ b) ∨ (0 ≤ a ∧ ¬ a ≤ 7) ∨ ¬ 0 ≤ a := by omega
  have HR := Lib.hid (rightB_of (op := 18) (fa := 7) (fb := 0) (fn := 0) (m := 1) (by decide) (by decide) (by decide) (by decide) (by decide) a b imm)
  rcases hc with ⟨c1, c2, c3, c4⟩ | ⟨c1, c2, c3, c4⟩ | ⟨c1, c2, c3⟩ | ⟨c1, c2⟩ | c1
  all_goals
    go_enter Try.func28, Try.ntmps28
    go_wp2_with (first | (go_at_call 34; refine (C1.out _).mono ?_; rintro e w' ⟨rfl, rfl⟩) | (go_at_call 27; refine (C2.out _).mono ?_; rintro e w' ⟨rfl, rfl⟩))
  all_goals
    go_ret
    refine ⟨ret_bool ?_, bel_al (Below.refl _ _) _⟩
    rw [HR.out]
    (try simp only [bne_iff_ne, ne_eq, bne_eq_false_iff_eq] at *)
    first
      | (symm; rw [decide_eq_true_iff]; omega)
      | (symm; rw [decide_eq_false_iff_not]; omega)
      | (rw [Bool.eq_iff_iff]; simp; omega)

set_option maxHeartbeats 8000000 in
theorem rRight_19 (a b imm : Int) (h0 : 0 ≤ imm) (h1 : imm < 4294967296) (w : World) :
    Calls Try.prog 28 #[.agg #[.int .i64 19, .int .i64 a, .int .i64 b, .int .u32 imm]] w fun e w' => e = .returned (.bool (rightB 19 a b imm)) ∧ Below w.heap.size w w' := by
  have c1 := two_any 19
  have c2 := rSize_any 19
  rw [show twoB 19 = false by decide] at c1
  rw [show szO 19 = 5 by decide] at c2
  have C1 := Lib.hid c1; clear c1
  have C2 := Lib.hid c2; clear c2
  have hc : (0 ≤ a ∧ a ≤ 7 ∧ 0 ≤ b ∧ b ≤ 7) ∨ (0 ≤ a ∧ a ≤ 7 ∧ 0 ≤ b ∧ ¬ b ≤ 7) ∨ (0 ≤ a ∧ a ≤ 7 ∧ ¬ 0 ≤ b) ∨ (0 ≤ a ∧ ¬ a ≤ 7) ∨ ¬ 0 ≤ a := by omega
  have HR := Lib.hid (rightB_of (op := 19) (fa := 0) (fb := 0) (fn := 4) (m := 4294967296) (by decide) (by decide) (by decide) (by decide) (by decide) a b imm)
  rcases hc with ⟨c1, c2, c3, c4⟩ | ⟨c1, c2, c3, c4⟩ | ⟨c1, c2, c3⟩ | ⟨c1, c2⟩ | c1
  all_goals
    go_enter Try.func28, Try.ntmps28
    go_wp2_with (first | (go_at_call 34; refine (C1.out _).mono ?_; rintro e w' ⟨rfl, rfl⟩) | (go_at_call 27; refine (C2.out _).mono ?_; rintro e w' ⟨rfl, rfl⟩))
  all_goals
    go_ret
    refine ⟨ret_bool ?_, bel_al (Below.refl _ _) _⟩
    rw [HR.out]
    (try simp only [bne_iff_ne, ne_eq, bne_eq_false_iff_eq] at *)
    first
      | (symm; rw [decide_eq_true_iff]; omega)
      | (symm; rw [decide_eq_false_iff_not]; omega)
      | (rw [Bool.eq_iff_iff]; simp; omega)

set_option maxHeartbeats 8000000 in
theorem rRight_20 (a b imm : Int) (h0 : 0 ≤ imm) (h1 : imm < 4294967296) (w : World) :
    Calls Try.prog 28 #[.agg #[.int .i64 20, .int .i64 a, .int .i64 b, .int .u32 imm]] w fun e w' => e = .returned (.bool (rightB 20 a b imm)) ∧ Below w.heap.size w w' := by
  have c1 := two_any 20
  have c2 := rSize_any 20
  rw [show twoB 20 = false by decide] at c1
  rw [show szO 20 = 6 by decide] at c2
  have C1 := Lib.hid c1; clear c1
  have C2 := Lib.hid c2; clear c2
  have hc : (0 ≤ a ∧ a ≤ 7 ∧ 0 ≤ b ∧ b ≤ 7) ∨ (0 ≤ a ∧ a ≤ 7 ∧ 0 ≤ b ∧ ¬ b ≤ 7) ∨ (0 ≤ a ∧ a ≤ 7 ∧ ¬ 0 ≤ b) ∨ (0 ≤ a ∧ ¬ a ≤ 7) ∨ ¬ 0 ≤ a := by omega
  have HR := Lib.hid (rightB_of (op := 20) (fa := 7) (fb := 0) (fn := 4) (m := 4294967296) (by decide) (by decide) (by decide) (by decide) (by decide) a b imm)
  rcases hc with ⟨c1, c2, c3, c4⟩ | ⟨c1, c2, c3, c4⟩ | ⟨c1, c2, c3⟩ | ⟨c1, c2⟩ | c1
  all_goals
    go_enter Try.func28, Try.ntmps28
    go_wp2_with (first | (go_at_call 34; refine (C1.out _).mono ?_; rintro e w' ⟨rfl, rfl⟩) | (go_at_call 27; refine (C2.out _).mono ?_; rintro e w' ⟨rfl, rfl⟩))
  all_goals
    go_ret
    refine ⟨ret_bool ?_, bel_al (Below.refl _ _) _⟩
    rw [HR.out]
    (try simp only [bne_iff_ne, ne_eq, bne_eq_false_iff_eq] at *)
    first
      | (symm; rw [decide_eq_true_iff]; omega)
      | (symm; rw [decide_eq_false_iff_not]; omega)
      | (rw [Bool.eq_iff_iff]; simp; omega)

set_option maxHeartbeats 8000000 in
theorem rRight_21 (a b imm : Int) (h0 : 0 ≤ imm) (h1 : imm < 4294967296) (w : World) :
    Calls Try.prog 28 #[.agg #[.int .i64 21, .int .i64 a, .int .i64 b, .int .u32 imm]] w fun e w' => e = .returned (.bool (rightB 21 a b imm)) ∧ Below w.heap.size w w' := by
  have c1 := two_any 21
  have c2 := rSize_any 21
  rw [show twoB 21 = false by decide] at c1
  rw [show szO 21 = 2 by decide] at c2
  have C1 := Lib.hid c1; clear c1
  have C2 := Lib.hid c2; clear c2
  have hc : (0 ≤ a ∧ a ≤ 7 ∧ 0 ≤ b ∧ b ≤ 7) ∨ (0 ≤ a ∧ a ≤ 7 ∧ 0 ≤ b ∧ ¬ b ≤ 7) ∨ (0 ≤ a ∧ a ≤ 7 ∧ ¬ 0 ≤ b) ∨ (0 ≤ a ∧ ¬ a ≤ 7) ∨ ¬ 0 ≤ a := by omega
  have HR := Lib.hid (rightB_of (op := 21) (fa := 7) (fb := 0) (fn := 0) (m := 1) (by decide) (by decide) (by decide) (by decide) (by decide) a b imm)
  rcases hc with ⟨c1, c2, c3, c4⟩ | ⟨c1, c2, c3, c4⟩ | ⟨c1, c2, c3⟩ | ⟨c1, c2⟩ | c1
  all_goals
    go_enter Try.func28, Try.ntmps28
    go_wp2_with (first | (go_at_call 34; refine (C1.out _).mono ?_; rintro e w' ⟨rfl, rfl⟩) | (go_at_call 27; refine (C2.out _).mono ?_; rintro e w' ⟨rfl, rfl⟩))
  all_goals
    go_ret
    refine ⟨ret_bool ?_, bel_al (Below.refl _ _) _⟩
    rw [HR.out]
    (try simp only [bne_iff_ne, ne_eq, bne_eq_false_iff_eq] at *)
    first
      | (symm; rw [decide_eq_true_iff]; omega)
      | (symm; rw [decide_eq_false_iff_not]; omega)
      | (rw [Bool.eq_iff_iff]; simp; omega)

set_option maxHeartbeats 8000000 in
theorem rRight_22 (a b imm : Int) (h0 : 0 ≤ imm) (h1 : imm < 4294967296) (w : World) :
    Calls Try.prog 28 #[.agg #[.int .i64 22, .int .i64 a, .int .i64 b, .int .u32 imm]] w fun e w' => e = .returned (.bool (rightB 22 a b imm)) ∧ Below w.heap.size w w' := by
  have c1 := two_any 22
  have c2 := rSize_any 22
  rw [show twoB 22 = false by decide] at c1
  rw [show szO 22 = 2 by decide] at c2
  have C1 := Lib.hid c1; clear c1
  have C2 := Lib.hid c2; clear c2
  have hc : (0 ≤ a ∧ a ≤ 7 ∧ 0 ≤ b ∧ b ≤ 7) ∨ (0 ≤ a ∧ a ≤ 7 ∧ 0 ≤ b ∧ ¬ b ≤ 7) ∨ (0 ≤ a ∧ a ≤ 7 ∧ ¬ 0 ≤ b) ∨ (0 ≤ a ∧ ¬ a ≤ 7) ∨ ¬ 0 ≤ a := by omega
  have HR := Lib.hid (rightB_of (op := 22) (fa := 0) (fb := 0) (fn := 1) (m := 256) (by decide) (by decide) (by decide) (by decide) (by decide) a b imm)
  rcases hc with ⟨c1, c2, c3, c4⟩ | ⟨c1, c2, c3, c4⟩ | ⟨c1, c2, c3⟩ | ⟨c1, c2⟩ | c1
  all_goals
    go_enter Try.func28, Try.ntmps28
    go_wp2_with (first | (go_at_call 34; refine (C1.out _).mono ?_; rintro e w' ⟨rfl, rfl⟩) | (go_at_call 27; refine (C2.out _).mono ?_; rintro e w' ⟨rfl, rfl⟩))
  all_goals
    go_ret
    refine ⟨ret_bool ?_, bel_al (Below.refl _ _) _⟩
    rw [HR.out]
    (try simp only [bne_iff_ne, ne_eq, bne_eq_false_iff_eq] at *)
    first
      | (symm; rw [decide_eq_true_iff]; omega)
      | (symm; rw [decide_eq_false_iff_not]; omega)
      | (rw [Bool.eq_iff_iff]; simp; omega)

set_option maxHeartbeats 8000000 in
theorem rRight_23 (a b imm : Int) (h0 : 0 ≤ imm) (h1 : imm < 4294967296) (w : World) :
    Calls Try.prog 28 #[.agg #[.int .i64 23, .int .i64 a, .int .i64 b, .int .u32 imm]] w fun e w' => e = .returned (.bool (rightB 23 a b imm)) ∧ Below w.heap.size w w' := by
  have c1 := two_any 23
  have c2 := rSize_any 23
  rw [show twoB 23 = false by decide] at c1
  rw [show szO 23 = 1 by decide] at c2
  have C1 := Lib.hid c1; clear c1
  have C2 := Lib.hid c2; clear c2
  have hc : (0 ≤ a ∧ a ≤ 7 ∧ 0 ≤ b ∧ b ≤ 7) ∨ (0 ≤ a ∧ a ≤ 7 ∧ 0 ≤ b ∧ ¬ b ≤ 7) ∨ (0 ≤ a ∧ a ≤ 7 ∧ ¬ 0 ≤ b) ∨ (0 ≤ a ∧ ¬ a ≤ 7) ∨ ¬ 0 ≤ a := by omega
  have HR := Lib.hid (rightB_of (op := 23) (fa := 0) (fb := 0) (fn := 0) (m := 1) (by decide) (by decide) (by decide) (by decide) (by decide) a b imm)
  rcases hc with ⟨c1, c2, c3, c4⟩ | ⟨c1, c2, c3, c4⟩ | ⟨c1, c2, c3⟩ | ⟨c1, c2⟩ | c1
  all_goals
    go_enter Try.func28, Try.ntmps28
    go_wp2_with (first | (go_at_call 34; refine (C1.out _).mono ?_; rintro e w' ⟨rfl, rfl⟩) | (go_at_call 27; refine (C2.out _).mono ?_; rintro e w' ⟨rfl, rfl⟩))
  all_goals
    go_ret
    refine ⟨ret_bool ?_, bel_al (Below.refl _ _) _⟩
    rw [HR.out]
    (try simp only [bne_iff_ne, ne_eq, bne_eq_false_iff_eq] at *)
    first
      | (symm; rw [decide_eq_true_iff]; omega)
      | (symm; rw [decide_eq_false_iff_not]; omega)
      | (rw [Bool.eq_iff_iff]; simp; omega)

theorem op_cases (op : Int) : (2 ≤ op ∧ op ≤ 16) ∨ (op < 0 ∨ 23 < op) ∨ op = 0 ∨ op = 1 ∨ op = 17 ∨ op = 18 ∨ op = 19 ∨ op = 20 ∨ op = 21 ∨ op = 22 ∨ op = 23 := by omega

theorem rRight_any (op a b imm : Int) (h0 : 0 ≤ imm) (h1 : imm < 4294967296) (w : World) :
    Calls Try.prog 28 #[.agg #[.int .i64 op, .int .i64 a, .int .i64 b, .int .u32 imm]] w fun e w' => e = .returned (.bool (rightB op a b imm)) ∧ Below w.heap.size w w' := by
  rcases op_cases op with h | h | rfl | rfl | rfl | rfl | rfl | rfl | rfl | rfl | rfl
  · exact rRight_two op a b imm h h0 h1 w
  · exact rRight_none op a b imm h h0 h1 w
  · exact rRight_0 a b imm h0 h1 w
  · exact rRight_1 a b imm h0 h1 w
  · exact rRight_17 a b imm h0 h1 w
  · exact rRight_18 a b imm h0 h1 w
  · exact rRight_19 a b imm h0 h1 w
  · exact rRight_20 a b imm h0 h1 w
  · exact rRight_21 a b imm h0 h1 w
  · exact rRight_22 a b imm h0 h1 w
  · exact rRight_23 a b imm h0 h1 w
end Go.Proofs.Ytojpcijfipdiaaa
