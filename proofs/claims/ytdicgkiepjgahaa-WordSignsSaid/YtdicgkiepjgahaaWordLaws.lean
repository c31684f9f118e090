/- The statements WordParts, WordBack and WordShifts, walked: each returns true, and touches no memory. -/
import Derived.Test.YtdicgkiepjgahaaWordWalks
import Derived.Test.YtdicgkiepjgahaaWordLawMath
import Derived.Lib.Hide
namespace Go.Proofs.Ytdicgkiepjgahaa
open Go.ChangeShapes Go.WideShapes Go.ChangeAt Go.RowKit
set_option linter.unusedVariables false

theorem do_is (op a b v : Int) (k : Bool) (hv : doV op a b = v) (hk : doK op b = k) (h0 : 0 ≤ a) (h1 : a < 4294967296) (h2 : 0 ≤ b) (h3 : b < 4294967296) (w : World) :
    Calls Try.prog 10 #[.int .i64 op, .int .u32 a, .int .u32 b] w fun e w' => e = .returned (.tuple #[.int .u32 v, .bool k]) ∧ w = w' := by
  subst hv hk; exact do_any op a b h0 h1 h2 h3 w

theorem awake_any (w : World) : Calls Try.prog 9 #[] w fun e w' => e = .returned (.bool true) ∧ w = w' := by
  go_enter Try.func9, Try.ntmps9
  go_wp2_with (go_at_call 10; refine (do_4 _ _ (by decide) (by decide) (by decide) (by decide) _).mono ?_; rintro e w' ⟨rfl, rfl⟩)
  go_ret
  exact ⟨rfl, rfl⟩

theorem parts_z (a : Int) (h0 : 0 ≤ a) (h1 : a < 4294967296) (w : World) :
    Calls Try.prog 5 #[.int .u32 a, .int .u32 0] w fun e w' => e = .returned (.bool true) ∧ w = w' := by
  go_enter Try.func5, Try.ntmps5
  go_wp2_with (first | (go_at_call 9; refine (awake_any _).mono ?_; rintro e w' ⟨rfl, rfl⟩) | fail)
  refine (do_6z _ h0 h1 _).mono ?_; rintro e w' ⟨rfl, rfl⟩
  go_wp2_with fail
  refine (do_7z _ h0 h1 _).mono ?_; rintro e w' ⟨rfl, rfl⟩
  go_wp2_with fail
  go_ret
  exact ⟨rfl, rfl⟩

theorem parts_n (a b q r p s : Int) (hb : (b == 0) = false)
    (c6 : ∀ w, Calls Try.prog 10 #[.int .i64 6, .int .u32 a, .int .u32 b] w fun e w' => e = .returned (.tuple #[.int .u32 q, .bool true]) ∧ w = w')
    (c7 : ∀ w, Calls Try.prog 10 #[.int .i64 7, .int .u32 a, .int .u32 b] w fun e w' => e = .returned (.tuple #[.int .u32 r, .bool true]) ∧ w = w')
    (c5 : ∀ w, Calls Try.prog 10 #[.int .i64 5, .int .u32 q, .int .u32 b] w fun e w' => e = .returned (.tuple #[.int .u32 p, .bool true]) ∧ w = w')
    (c3 : ∀ w, Calls Try.prog 10 #[.int .i64 3, .int .u32 p, .int .u32 r] w fun e w' => e = .returned (.tuple #[.int .u32 s, .bool true]) ∧ w = w')
    (hs : (s == a) = true) (x y : Int) (hx : -2147483648 ≤ x ∧ x ≤ 2147483647) (hy : -2147483648 ≤ y ∧ y ≤ 2147483647) (hxy : x.natAbs < y.natAbs)
    (cx : ∀ w, Calls Try.prog 12 #[.int .u32 r] w fun e w' => e = .returned (.int .i64 x) ∧ w = w')
    (cy : ∀ w, Calls Try.prog 12 #[.int .u32 b] w fun e w' => e = .returned (.int .i64 y) ∧ w = w')
    (w : World) :
    Calls Try.prog 5 #[.int .u32 a, .int .u32 b] w fun e w' => e = .returned (.bool true) ∧ w = w' := by
  have C6 := Lib.hid c6; clear c6
  have C7 := Lib.hid c7; clear c7
  have C5 := Lib.hid c5; clear c5
  have C3 := Lib.hid c3; clear c3
  have Cx := Lib.hid cx; clear cx
  have Cy := Lib.hid cy; clear cy
  go_enter Try.func5, Try.ntmps5
  go_wp2_with (first | (go_at_call 9; refine (awake_any _).mono ?_; rintro e w' ⟨rfl, rfl⟩) | fail)
  refine (C6.out _).mono ?_; rintro e w' ⟨rfl, rfl⟩
  go_wp2_with fail
  refine (C7.out _).mono ?_; rintro e w' ⟨rfl, rfl⟩
  go_wp2_with fail
  refine (C5.out _).mono ?_; rintro e w' ⟨rfl, rfl⟩
  go_wp2_with fail
  refine (C3.out _).mono ?_; rintro e w' ⟨rfl, rfl⟩
  go_wp2_with fail
  refine (Cx.out _).mono ?_; rintro e w' ⟨rfl, rfl⟩
  go_wp2_with fail
  refine (Cy.out _).mono ?_; rintro e w' ⟨rfl, rfl⟩
  go_wp2_with fail
  all_goals
    go_ret
    exact ⟨ret_bool (by rw [decide_eq_true_iff]; omega), rfl⟩

theorem wordParts_walk (a b : Int) (wa : (Lit.int .u32 a).wf = true) (wb : (Lit.int .u32 b).wf = true) (w : World) :
    Calls Try.prog 5 #[.int .u32 a, .int .u32 b] w fun e w' => e = .returned (.bool true) ∧ Grown w w' := by
  obtain ⟨h0, h1⟩ := bounds_u32 wa
  obtain ⟨h2, h3⟩ := bounds_u32 wb
  by_cases hb : b = 0
  · subst hb
    refine (parts_z a h0 (by omega) w).mono ?_
    rintro e w' ⟨rfl, rfl⟩; exact ⟨rfl, Grown.refl _⟩
  · have f := parts_facts a b h0 (by omega) h2 (by omega) hb
    have b6 := doV_bd 6 a b h0 (by omega) h2 (by omega)
    have b7 := doV_bd 7 a b h0 (by omega) h2 (by omega)
    have b5 := doV_bd 5 (doV 6 a b) b b6.1 b6.2 h2 (by omega)
    refine (parts_n a b (doV 6 a b) (doV 7 a b) (doV 5 (doV 6 a b) b) _ (by simp [hb])
      (do_is 6 a b _ true rfl (by simp [doK, hb]) h0 (by omega) h2 (by omega)) (do_is 7 a b _ true rfl (by simp [doK, hb]) h0 (by omega) h2 (by omega))
      (do_is 5 _ b _ true rfl rfl b6.1 b6.2 h2 (by omega)) (do_is 3 _ _ _ true rfl rfl b5.1 b5.2 b7.1 b7.2) (by rw [f.1]; simp) _ _ (wrap32_bd _) (wrap32_bd _) f.2 (sign_any _) (sign_any _) w).mono ?_
    rintro e w' ⟨rfl, rfl⟩; exact ⟨rfl, Grown.refl _⟩

theorem back_n (a b s d an o x l g q : Int)
    (c3 : ∀ w, Calls Try.prog 10 #[.int .i64 3, .int .u32 a, .int .u32 b] w fun e w' => e = .returned (.tuple #[.int .u32 s, .bool true]) ∧ w = w')
    (c4 : ∀ w, Calls Try.prog 10 #[.int .i64 4, .int .u32 s, .int .u32 b] w fun e w' => e = .returned (.tuple #[.int .u32 d, .bool true]) ∧ w = w')
    (c8 : ∀ w, Calls Try.prog 10 #[.int .i64 8, .int .u32 a, .int .u32 b] w fun e w' => e = .returned (.tuple #[.int .u32 an, .bool true]) ∧ w = w')
    (c9 : ∀ w, Calls Try.prog 10 #[.int .i64 9, .int .u32 a, .int .u32 b] w fun e w' => e = .returned (.tuple #[.int .u32 o, .bool true]) ∧ w = w')
    (c10 : ∀ w, Calls Try.prog 10 #[.int .i64 10, .int .u32 a, .int .u32 b] w fun e w' => e = .returned (.tuple #[.int .u32 x, .bool true]) ∧ w = w')
    (c13 : ∀ w, Calls Try.prog 10 #[.int .i64 13, .int .u32 a, .int .u32 b] w fun e w' => e = .returned (.tuple #[.int .u32 l, .bool true]) ∧ w = w')
    (d13 : ∀ w, Calls Try.prog 10 #[.int .i64 13, .int .u32 b, .int .u32 a] w fun e w' => e = .returned (.tuple #[.int .u32 g, .bool true]) ∧ w = w')
    (c14 : ∀ w, Calls Try.prog 10 #[.int .i64 14, .int .u32 a, .int .u32 b] w fun e w' => e = .returned (.tuple #[.int .u32 q, .bool true]) ∧ w = w')
    (f1 : (d == a) = true) (f2 : ((an + o) % 4294967296 == (a + b) % 4294967296) = true) (f3 : ((x + an) % 4294967296 == o) = true) (f4 : ((l + g + q) % 4294967296 == 1) = true)
    (w : World) :
    Calls Try.prog 6 #[.int .u32 a, .int .u32 b] w fun e w' => e = .returned (.bool true) ∧ w = w' := by
  have C3 := Lib.hid c3; clear c3
  have C4 := Lib.hid c4; clear c4
  have C8 := Lib.hid c8; clear c8
  have C9 := Lib.hid c9; clear c9
  have C10 := Lib.hid c10; clear c10
  have C13 := Lib.hid c13; clear c13
  have D13 := Lib.hid d13; clear d13
  have C14 := Lib.hid c14; clear c14
  go_enter Try.func6, Try.ntmps6
  go_wp2_with (first | (go_at_call 9; refine (awake_any _).mono ?_; rintro e w' ⟨rfl, rfl⟩) | fail)
  refine (C3.out _).mono ?_; rintro e w' ⟨rfl, rfl⟩
  go_wp2_with fail
  refine (C4.out _).mono ?_; rintro e w' ⟨rfl, rfl⟩
  go_wp2_with fail
  refine (C8.out _).mono ?_; rintro e w' ⟨rfl, rfl⟩
  go_wp2_with fail
  refine (C9.out _).mono ?_; rintro e w' ⟨rfl, rfl⟩
  go_wp2_with fail
  refine (C10.out _).mono ?_; rintro e w' ⟨rfl, rfl⟩
  go_wp2_with fail
  refine (C13.out _).mono ?_; rintro e w' ⟨rfl, rfl⟩
  go_wp2_with fail
  refine (D13.out _).mono ?_; rintro e w' ⟨rfl, rfl⟩
  go_wp2_with fail
  refine (C14.out _).mono ?_; rintro e w' ⟨rfl, rfl⟩
  go_wp2_with fail
  go_ret
  exact ⟨rfl, rfl⟩

theorem wordBack_walk (a b : Int) (wa : (Lit.int .u32 a).wf = true) (wb : (Lit.int .u32 b).wf = true) (w : World) :
    Calls Try.prog 6 #[.int .u32 a, .int .u32 b] w fun e w' => e = .returned (.bool true) ∧ Grown w w' := by
  obtain ⟨h0, h1⟩ := bounds_u32 wa
  obtain ⟨h2, h3⟩ := bounds_u32 wb
  have h1' : a < 4294967296 := by omega
  have h3' : b < 4294967296 := by omega
  obtain ⟨f1, f2, f3, f4⟩ := back_facts a b h0 h1' h2 h3'
  have b3 := doV_bd 3 a b h0 h1' h2 h3'
  refine (back_n a b _ _ _ _ _ _ _ _ (do_is 3 a b _ true rfl rfl h0 h1' h2 h3') (do_is 4 _ b _ true rfl rfl b3.1 b3.2 h2 h3') (do_is 8 a b _ true rfl rfl h0 h1' h2 h3') (do_is 9 a b _ true rfl rfl h0 h1' h2 h3')
    (do_is 10 a b _ true rfl rfl h0 h1' h2 h3') (do_is 13 a b _ true rfl rfl h0 h1' h2 h3') (do_is 13 b a _ true rfl rfl h2 h3' h0 h1') (do_is 14 a b _ true rfl rfl h0 h1' h2 h3')
    (by rw [f1]; simp) (by rw [f2]; simp) (by rw [f3]; simp) (by rw [f4]; rfl) w).mono ?_
  rintro e w' ⟨rfl, rfl⟩; exact ⟨rfl, Grown.refl _⟩

theorem shifts_z (a n l r s t lo hi sm : Int) (h0 : 0 ≤ n) (h1 : n < 256) (hn : (n % 32 == 0) = true)
    (cl : ∀ w, Calls Try.prog 10 #[.int .i64 11, .int .u32 a, .int .u32 (n % 32)] w fun e w' => e = .returned (.tuple #[.int .u32 l, .bool true]) ∧ w = w')
    (cr : ∀ w, Calls Try.prog 10 #[.int .i64 12, .int .u32 l, .int .u32 (n % 32)] w fun e w' => e = .returned (.tuple #[.int .u32 r, .bool true]) ∧ w = w')
    (cs : ∀ w, Calls Try.prog 10 #[.int .i64 12, .int .u32 a, .int .u32 (n % 32)] w fun e w' => e = .returned (.tuple #[.int .u32 s, .bool true]) ∧ w = w')
    (ct : ∀ w, Calls Try.prog 10 #[.int .i64 11, .int .u32 s, .int .u32 (n % 32)] w fun e w' => e = .returned (.tuple #[.int .u32 t, .bool true]) ∧ w = w')
    (cw : ∀ w, Calls Try.prog 10 #[.int .i64 8, .int .u32 a, .int .u32 ((2 ^ (n % 32).toNat - 1) % 4294967296)] w fun e w' => e = .returned (.tuple #[.int .u32 lo, .bool true]) ∧ w = w')
    (ch : ∀ w, Calls Try.prog 10 #[.int .i64 12, .int .u32 a, .int .u32 (32 - n % 32)] w fun e w' => e = .returned (.tuple #[.int .u32 hi, .bool true]) ∧ w = w')
    (cm : ∀ w, Calls Try.prog 10 #[.int .i64 11, .int .u32 a, .int .u32 32] w fun e w' => e = .returned (.tuple #[.int .u32 sm, .bool true]) ∧ w = w')
    (f1 : (l == a) = true) (f2 : (r == a) = true) (f3 : (s == a) = true) (f4 : (sm == a) = true) (w : World) :
    Calls Try.prog 7 #[.int .u32 a, .int .u8 n] w fun e w' => e = .returned (.bool true) ∧ w = w' := by
  have CL := Lib.hid cl; clear cl
  have CR := Lib.hid cr; clear cr
  have CS := Lib.hid cs; clear cs
  have CT := Lib.hid ct; clear ct
  have CW := Lib.hid cw; clear cw
  have CH := Lib.hid ch; clear ch
  have CM := Lib.hid cm; clear cm
  go_enter Try.func7, Try.ntmps7
  go_wp2_with (first | (go_at_call 9; refine (awake_any _).mono ?_; rintro e w' ⟨rfl, rfl⟩) | fail)
  refine (CL.out _).mono ?_; rintro e w' ⟨rfl, rfl⟩
  go_wp2_with fail
  refine (CR.out _).mono ?_; rintro e w' ⟨rfl, rfl⟩
  go_wp2_with fail
  refine (CS.out _).mono ?_; rintro e w' ⟨rfl, rfl⟩
  go_wp2_with fail
  refine (CT.out _).mono ?_; rintro e w' ⟨rfl, rfl⟩
  go_wp2_with fail
  refine (CW.out _).mono ?_; rintro e w' ⟨rfl, rfl⟩
  go_wp2_with fail
  refine (CH.out _).mono ?_; rintro e w' ⟨rfl, rfl⟩
  go_wp2_with fail
  refine (CM.out _).mono ?_; rintro e w' ⟨rfl, rfl⟩
  go_wp2_with fail
  go_ret
  exact ⟨rfl, rfl⟩

theorem shifts_n (a n l r s t lo hi sm lost : Int) (h0 : 0 ≤ n) (h1 : n < 256) (hn : (n % 32 == 0) = false)
    (cl : ∀ w, Calls Try.prog 10 #[.int .i64 11, .int .u32 a, .int .u32 (n % 32)] w fun e w' => e = .returned (.tuple #[.int .u32 l, .bool true]) ∧ w = w')
    (cr : ∀ w, Calls Try.prog 10 #[.int .i64 12, .int .u32 l, .int .u32 (n % 32)] w fun e w' => e = .returned (.tuple #[.int .u32 r, .bool true]) ∧ w = w')
    (cs : ∀ w, Calls Try.prog 10 #[.int .i64 12, .int .u32 a, .int .u32 (n % 32)] w fun e w' => e = .returned (.tuple #[.int .u32 s, .bool true]) ∧ w = w')
    (ct : ∀ w, Calls Try.prog 10 #[.int .i64 11, .int .u32 s, .int .u32 (n % 32)] w fun e w' => e = .returned (.tuple #[.int .u32 t, .bool true]) ∧ w = w')
    (cw : ∀ w, Calls Try.prog 10 #[.int .i64 8, .int .u32 a, .int .u32 ((2 ^ (n % 32).toNat - 1) % 4294967296)] w fun e w' => e = .returned (.tuple #[.int .u32 lo, .bool true]) ∧ w = w')
    (ch : ∀ w, Calls Try.prog 10 #[.int .i64 12, .int .u32 a, .int .u32 (32 - n % 32)] w fun e w' => e = .returned (.tuple #[.int .u32 hi, .bool true]) ∧ w = w')
    (cm : ∀ w, Calls Try.prog 10 #[.int .i64 11, .int .u32 a, .int .u32 32] w fun e w' => e = .returned (.tuple #[.int .u32 sm, .bool true]) ∧ w = w')
    (co : ∀ w, Calls Try.prog 10 #[.int .i64 11, .int .u32 hi, .int .u32 (32 - n % 32)] w fun e w' => e = .returned (.tuple #[.int .u32 lost, .bool true]) ∧ w = w')
    (f1 : ((t + lo) % 4294967296 == a) = true) (f2 : ((r + lost) % 4294967296 == a) = true) (f4 : (sm == a) = true) (w : World) :
    Calls Try.prog 7 #[.int .u32 a, .int .u8 n] w fun e w' => e = .returned (.bool true) ∧ w = w' := by
  have CL := Lib.hid cl; clear cl
  have CR := Lib.hid cr; clear cr
  have CS := Lib.hid cs; clear cs
  have CT := Lib.hid ct; clear ct
  have CW := Lib.hid cw; clear cw
  have CH := Lib.hid ch; clear ch
  have CM := Lib.hid cm; clear cm
  have CO := Lib.hid co; clear co
  go_enter Try.func7, Try.ntmps7
  go_wp2_with (first | (go_at_call 9; refine (awake_any _).mono ?_; rintro e w' ⟨rfl, rfl⟩) | fail)
  refine (CL.out _).mono ?_; rintro e w' ⟨rfl, rfl⟩
  go_wp2_with fail
  refine (CR.out _).mono ?_; rintro e w' ⟨rfl, rfl⟩
  go_wp2_with fail
  refine (CS.out _).mono ?_; rintro e w' ⟨rfl, rfl⟩
  go_wp2_with fail
  refine (CT.out _).mono ?_; rintro e w' ⟨rfl, rfl⟩
  go_wp2_with fail
  refine (CW.out _).mono ?_; rintro e w' ⟨rfl, rfl⟩
  go_wp2_with fail
  refine (CH.out _).mono ?_; rintro e w' ⟨rfl, rfl⟩
  go_wp2_with fail
  refine (CM.out _).mono ?_; rintro e w' ⟨rfl, rfl⟩
  go_wp2_with fail
  refine (CO.out _).mono ?_; rintro e w' ⟨rfl, rfl⟩
  go_wp2_with fail
  go_ret
  exact ⟨rfl, rfl⟩

theorem wordShifts_walk (a n : Int) (wa : (Lit.int .u32 a).wf = true) (wb : (Lit.int .u8 n).wf = true) (w : World) :
    Calls Try.prog 7 #[.int .u32 a, .int .u8 n] w fun e w' => e = .returned (.bool true) ∧ Grown w w' := by
  obtain ⟨h0, h1⟩ := bounds_u32 wa
  obtain ⟨h2, h3⟩ := bounds_u8 wb
  have h1' : a < 4294967296 := by omega
  have hk0 : 0 ≤ n % 32 := by omega
  have hk1 : n % 32 < 4294967296 := by omega
  have hj0 : 0 ≤ 32 - n % 32 := by omega
  have hj1 : 32 - n % 32 < 4294967296 := by omega
  have bl := doV_bd 11 a (n % 32) h0 h1' hk0 hk1
  have bs := doV_bd 12 a (n % 32) h0 h1' hk0 hk1
  have bh := doV_bd 12 a (32 - n % 32) h0 h1' hj0 hj1
  have bp := mod_bd (2 ^ (n % 32).toNat - 1)
  have hsm : doV 11 a 32 = a := by
    show a * 2 ^ ((32 : Int) % 32).toNat % 4294967296 = a
    have : ((32 : Int) % 32).toNat = 0 := rfl
    rw [this]; simp; omega
  by_cases hn : n % 32 = 0
  · have el : doV 11 a (n % 32) = a := by rw [hn]; show a * 2 ^ ((0 : Int) % 32).toNat % 4294967296 = a; have : ((0 : Int) % 32).toNat = 0 := rfl; rw [this]; simp; omega
    have es : doV 12 a (n % 32) = a := by rw [hn]; show a / 2 ^ ((0 : Int) % 32).toNat = a; have : ((0 : Int) % 32).toNat = 0 := rfl; rw [this]; simp
    refine (shifts_z a n _ _ _ _ _ _ _ h2 (by omega) (by simp [hn]) (do_is 11 a _ _ true rfl rfl h0 h1' hk0 hk1) (do_is 12 _ _ _ true rfl rfl bl.1 bl.2 hk0 hk1) (do_is 12 a _ _ true rfl rfl h0 h1' hk0 hk1) (do_is 11 _ _ _ true rfl rfl bs.1 bs.2 hk0 hk1)
      (do_is 8 a _ _ true rfl rfl h0 h1' bp.1 bp.2) (do_is 12 a _ _ true rfl rfl h0 h1' hj0 hj1) (do_is 11 a 32 _ true rfl rfl h0 h1' (by decide) (by decide)) (by rw [el]; simp) (by rw [el, es]; simp) (by rw [es]; simp) (by rw [hsm]; simp) w).mono ?_
    rintro e w' ⟨rfl, rfl⟩; exact ⟨rfl, Grown.refl _⟩
  · obtain ⟨k, hk⟩ := Int.eq_ofNat_of_zero_le hk0
    have hk32 : k < 32 := by omega
    obtain ⟨f1, f2⟩ := shift_facts a k h0 h1' hk32
    have t1 : ((k : Int) % 32).toNat = k := by omega
    have t2 : ((32 - (k : Int)) % 32).toNat = 32 - k := by omega
    have t3 : ((2 ^ k - 1 : Int) % 4294967296).toNat = 2 ^ k - 1 := by
      have h1 : 2 ^ k < 2 ^ 32 := Nat.pow_lt_pow_right (by decide) hk32
      have h2 := pow_cast k
      have h3 : 0 < 2 ^ k := Nat.two_pow_pos k
      rw [← h2]
      generalize 2 ^ k = P at *
      omega
    have g1 : (doV 11 (doV 12 a (n % 32)) (n % 32) + doV 8 a ((2 ^ (n % 32).toNat - 1) % 4294967296)) % 4294967296 = a := by
      rw [hk]; show ((a / 2 ^ ((k : Int) % 32).toNat) * 2 ^ ((k : Int) % 32).toNat % 4294967296 + ((a.toNat &&& ((2 ^ (k : Int).toNat - 1 : Int) % 4294967296).toNat : Nat) : Int)) % 4294967296 = a
      rw [t1, Int.toNat_natCast, t3]; exact f1
    have g2 : (doV 12 (doV 11 a (n % 32)) (n % 32) + doV 11 (doV 12 a (32 - n % 32)) (32 - n % 32)) % 4294967296 = a := by
      rw [hk]; show ((a * 2 ^ ((k : Int) % 32).toNat % 4294967296) / 2 ^ ((k : Int) % 32).toNat + (a / 2 ^ ((32 - (k : Int)) % 32).toNat) * 2 ^ ((32 - (k : Int)) % 32).toNat % 4294967296) % 4294967296 = a
      rw [t1, t2]; exact f2
    refine (shifts_n a n _ _ _ _ _ _ _ _ h2 (by omega) (by simp [hn]) (do_is 11 a _ _ true rfl rfl h0 h1' hk0 hk1) (do_is 12 _ _ _ true rfl rfl bl.1 bl.2 hk0 hk1) (do_is 12 a _ _ true rfl rfl h0 h1' hk0 hk1) (do_is 11 _ _ _ true rfl rfl bs.1 bs.2 hk0 hk1)
      (do_is 8 a _ _ true rfl rfl h0 h1' bp.1 bp.2) (do_is 12 a _ _ true rfl rfl h0 h1' hj0 hj1) (do_is 11 a 32 _ true rfl rfl h0 h1' (by decide) (by decide)) (do_is 11 _ _ _ true rfl rfl bh.1 bh.2 hj0 hj1) (by rw [g1]; simp) (by rw [g2]; simp) (by rw [hsm]; simp) w).mono ?_
    rintro e w' ⟨rfl, rfl⟩; exact ⟨rfl, Grown.refl _⟩
end Go.Proofs.Ytdicgkiepjgahaa
