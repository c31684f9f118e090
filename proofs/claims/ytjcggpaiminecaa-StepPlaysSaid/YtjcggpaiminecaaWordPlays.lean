/- The statement WordPlays, walked: any operation's result is the document's. -/
import Derived.Test.YtjcggpaiminecaaRefAWalks
import Derived.Test.YtjcggpaiminecaaWordLaws
namespace Go.Proofs.Ytjcggpaiminecaa
open Go.ChangeShapes Go.WideShapes Go.ChangeAt Go.RowKit
set_option linter.unusedVariables false

theorem mul_bd' (x y : Int) (hx : -2147483648 ≤ x ∧ x ≤ 2147483648) (hy : -2147483648 ≤ y ∧ y ≤ 2147483648) : -4611686018427387904 ≤ x * y ∧ x * y ≤ 4611686018427387904 := by
  have h : (x * y).natAbs ≤ 2147483648 * 2147483648 := by
    rw [Int.natAbs_mul]; exact Nat.mul_le_mul (by omega) (by omega)
  omega
theorem quo_eq (a b : Int) : wrap64 ((wrap32 a).tdiv (wrap32 b)) = (wrap32 a).tdiv (wrap32 b) := by
  have h := tdiv_bd (wrap32 a) (wrap32 b) (wrap32_bd a)
  exact wrap64_in' _ (by omega) (by omega)
theorem left_eq (a b : Int) : wrap64 (wrap32 a - wrap64 (wrap64 ((wrap32 a).tdiv (wrap32 b)) * wrap32 b)) = (wrap32 a).tmod (wrap32 b) := by
  have hq := tdiv_bd (wrap32 a) (wrap32 b) (wrap32_bd a)
  have hA := wrap32_bd a
  have hB := wrap32_bd b
  have hm := mul_bd' ((wrap32 a).tdiv (wrap32 b)) (wrap32 b) hq (by omega)
  have e := Int.tmod_add_mul_tdiv (wrap32 a) (wrap32 b)
  rw [Int.mul_comm] at e
  rw [quo_eq, wrap64_in' ((wrap32 a).tdiv (wrap32 b) * wrap32 b) (by omega) (by omega), wrap64_in' _ (by omega) (by omega)]
  omega

/-- the document's Do, whatever it is given -/
theorem rdo_any (op a b : Int) (h0 : 0 ≤ a) (h1 : a < 4294967296) (h2 : 0 ≤ b) (h3 : b < 4294967296) (w : World) :
    Calls Try.prog 33 #[.int .i64 op, .int .u32 a, .int .u32 b] w fun e w' => e = .returned (.tuple #[.int .u32 (doV op a b), .bool (doK op b)]) ∧ w = w' := by
  by_cases hr : op < 3 ∨ 14 < op
  · refine (rdo_none op a b h0 h1 h2 h3 hr w).mono ?_
    rintro e w' ⟨rfl, rfl⟩
    exact ⟨ret_ib (doV_none op a b hr).symm (doK_none op b hr).symm, rfl⟩
  have hop : op = 3 ∨ op = 4 ∨ op = 5 ∨ op = 6 ∨ op = 7 ∨ op = 8 ∨ op = 9 ∨ op = 10 ∨ op = 11 ∨ op = 12 ∨ op = 13 ∨ op = 14 := by omega
  clear hr
  obtain ⟨x, rfl⟩ := Int.eq_ofNat_of_zero_le h0
  obtain ⟨y, rfl⟩ := Int.eq_ofNat_of_zero_le h2
  have hx : x < 4294967296 := by omega
  have hy : y < 4294967296 := by omega
  rcases hop with rfl | rfl | rfl | rfl | rfl | rfl | rfl | rfl | rfl | rfl | rfl | rfl
  · refine (rdo_3 x y h0 h1 h2 h3 w).mono ?_; rintro e w' ⟨rfl, rfl⟩; exact ⟨ret_ib ((doV_e3 _ _).symm) (doK_e _ _ (by omega)).symm, rfl⟩
  · refine (rdo_4 x y h0 h1 h2 h3 w).mono ?_; rintro e w' ⟨rfl, rfl⟩; exact ⟨ret_ib ((doV_e4 _ _).symm) (doK_e _ _ (by omega)).symm, rfl⟩
  · refine (rdo_5 x y h0 h1 h2 h3 w).mono ?_; rintro e w' ⟨rfl, rfl⟩; exact ⟨ret_ib ((mul_eq _ _).trans (doV_e5 _ _).symm) (doK_e _ _ (by omega)).symm, rfl⟩
  · by_cases hb : (y : Int) = 0
    · rw [hb]; refine (rdo_6z x h0 h1 w).mono ?_; rintro e w' ⟨rfl, rfl⟩; exact ⟨ret_ib (doV_e6z _).symm (doK_e6z _ (by omega)).symm, rfl⟩
    · refine (rdo_6 x y h0 h1 h2 h3 (beq_eq_false_iff_ne.2 hb) (fun h => hb ((wrap32_zero y h2 h3).1 h)) w).mono ?_; rintro e w' ⟨rfl, rfl⟩
      exact ⟨ret_ib (by rw [quo_eq, doV_e6 _ _ hb]) (doK_e6 _ _ (by omega) hb).symm, rfl⟩
  · by_cases hb : (y : Int) = 0
    · rw [hb]; refine (rdo_7z x h0 h1 w).mono ?_; rintro e w' ⟨rfl, rfl⟩; exact ⟨ret_ib (doV_e7z _).symm (doK_e6z _ (by omega)).symm, rfl⟩
    · refine (rdo_7 x y h0 h1 h2 h3 (beq_eq_false_iff_ne.2 hb) (fun h => hb ((wrap32_zero y h2 h3).1 h)) w).mono ?_; rintro e w' ⟨rfl, rfl⟩
      exact ⟨ret_ib (by rw [left_eq, doV_e7 _ _ hb]) (doK_e6 _ _ (by omega) hb).symm, rfl⟩
  · refine (rdo_8 x y hx hy w).mono ?_; rintro e w' ⟨rfl, rfl⟩; exact ⟨ret_ib (by rw [doV_e8, Int.toNat_natCast, Int.toNat_natCast]) (doK_e _ _ (by omega)).symm, rfl⟩
  · refine (rdo_9 x y hx hy w).mono ?_; rintro e w' ⟨rfl, rfl⟩; exact ⟨ret_ib (by rw [doV_e9, Int.toNat_natCast, Int.toNat_natCast]) (doK_e _ _ (by omega)).symm, rfl⟩
  · refine (rdo_10 x y hx hy w).mono ?_; rintro e w' ⟨rfl, rfl⟩; exact ⟨ret_ib (by rw [doV_e10, Int.toNat_natCast, Int.toNat_natCast]) (doK_e _ _ (by omega)).symm, rfl⟩
  · refine (rdo_11 x y hx h2 h3 w).mono ?_; rintro e w' ⟨rfl, rfl⟩; exact ⟨ret_ib (by rw [doV_e11]; simp) (doK_e _ _ (by omega)).symm, rfl⟩
  · refine (rdo_12 x y hx h2 h3 w).mono ?_; rintro e w' ⟨rfl, rfl⟩; exact ⟨ret_ib (by rw [doV_e12]; simp) (doK_e _ _ (by omega)).symm, rfl⟩
  · by_cases hl : wrap32 x < wrap32 y
    · refine (rdo_13y x y h0 h1 h2 h3 hl w).mono ?_; rintro e w' ⟨rfl, rfl⟩; exact ⟨ret_ib (by rw [doV_e13, if_pos hl]) (doK_e _ _ (by omega)).symm, rfl⟩
    · refine (rdo_13n x y h0 h1 h2 h3 (by omega) w).mono ?_; rintro e w' ⟨rfl, rfl⟩; exact ⟨ret_ib (by rw [doV_e13, if_neg hl]) (doK_e _ _ (by omega)).symm, rfl⟩
  · by_cases hl : (x : Int) = y
    · rw [← hl]; refine (rdo_14y x h0 h1 w).mono ?_; rintro e w' ⟨rfl, rfl⟩; exact ⟨ret_ib (by rw [doV_e14, if_pos rfl]) (doK_e _ _ (by omega)).symm, rfl⟩
    · refine (rdo_14n x y h0 h1 h2 h3 (beq_eq_false_iff_ne.2 hl) w).mono ?_; rintro e w' ⟨rfl, rfl⟩; exact ⟨ret_ib (by rw [doV_e14, if_neg hl]) (doK_e _ _ (by omega)).symm, rfl⟩

end Go.Proofs.Ytjcggpaiminecaa
