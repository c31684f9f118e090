/- The statement ImageCuts, walked. -/
import Derived.Test.YtokibkemolmgcaaImgKeeps
namespace Go.Proofs.Ytokibkemolmgcaa.Mm
open Go.ChangeShapes Go.WideShapes Go.ChangeAt Go.RowKit
set_option linter.unusedVariables false

/-- an answer of Read, by its error alone -/
def ReadR (w : World) (k : Int) (e : Ending) (w' : World) : Prop := ∃ A5 n5 c5 A6 n6 c6, e = .returned (.tuple #[.agg #[.slice A5 n5 c5, .slice A6 n6 c6], .int .i64 k]) ∧ Below w.heap.size w w'
theorem read_r (A : Option Addr) (cap : Nat) (l : List Int) (n : Nat) (k : Int) (hk : k = errL l) (hn : l.length = n) (hl : n ≤ 100000) (w : World) (r : RowAt w A cap l) :
    Calls Try.prog 11 #[.slice A n cap] w (ReadR w k) := by
  subst hk
  by_cases h : errL l = 0
  · refine (Read_yes A cap l n hn hl w r h).mono ?_
    rintro e w' ⟨A5, c5, A6, c6, rfl, _, _, b⟩
    exact ⟨_, _, _, _, _, _, by rw [h], b⟩
  · refine (Read_no A cap l n hn hl w r h).mono ?_
    rintro e w' ⟨rfl, b⟩
    exact ⟨_, _, _, _, _, _, rfl, b⟩

theorem cuts_long (A B M : Option Addr) (ca cb cm a b m : Nat) (x : Int) (w : World) (ha : a ≤ maxLen) (hb : b ≤ maxLen) (hm : m ≤ maxLen)
    (hlong : 600 < a ∨ (a ≤ 600 ∧ 600 < b) ∨ (a ≤ 600 ∧ b ≤ 600 ∧ 100 < m)) :
    Calls Try.prog 6 #[.slice A a ca, .slice B b cb, .int .u16 x, .slice M m cm] w fun e w' => e = .returned (.bool true) ∧ Below w.heap.size w w' := by
  unfold maxLen at ha hb hm
  rcases hlong with h | ⟨h, h'⟩ | ⟨h, h', h''⟩
  all_goals
    go_enter Try.func6, Try.ntmps6
    go_wp2_with fail
    refine (awake_any _).mono ?_; rintro e w1 ⟨rfl, hb1⟩
    go_wp2_with fail
    refine (awake_any _).mono ?_; rintro e w2 ⟨rfl, hb2⟩
    go_wp2_with fail
    go_ret
    exact ⟨rfl, bel_then hb1 hb2⟩
theorem cuts_no (A B M : Option Addr) (ca cb cm c d m : Nat) (x : Int) (w : World) (h1 : c ≤ 600) (h2 : d ≤ 600) (h3 : m ≤ 100) (hq : rightB c d = false) :
    Calls Try.prog 6 #[.slice A c ca, .slice B d cb, .int .u16 x, .slice M m cm] w fun e w' => e = .returned (.bool true) ∧ Below w.heap.size w w' := by
  have L1 := Lib.hid (fun w' => lay_no A B c d ca cb (by omega) (by omega) w' hq)
  clear hq
  go_enter Try.func6, Try.ntmps6
  go_wp2_with fail
  refine (awake_any _).mono ?_; rintro e w1 ⟨rfl, hb1⟩
  go_wp2_with fail
  refine (L1.out _).mono ?_; rintro e w2 ⟨rfl, hb2⟩
  go_wp2_with fail
  go_ret
  exact ⟨rfl, bel_then hb1 hb2⟩
theorem cuts_yes (A B M : Option Addr) (ca cb cm c d m n k : Nat) (C D L : List Int) (x : Nat) (hx : x < 65536) (hk : k = x % n) (hc : C.length = c) (hd : D.length = d) (hm : L.length = m) (hn : n = 12 + c + d)
    (w : World) (rA : RowAt w A ca C) (rB : RowAt w B cb D) (rM : RowAt w M cm L) (h1 : c ≤ 600) (h2 : d ≤ 600) (h3 : m ≤ 100) (hq : rightB c d = true) :
    Calls Try.prog 6 #[.slice A c ca, .slice B d cb, .int .u16 x, .slice M m cm] w fun e w' => e = .returned (.bool true) ∧ Below w.heap.size w w' := by
  have L1 := Lib.hid (fun w' (b' : Below w.heap.size w w') => lay_yes A B ca cb C D c d hc hd (by omega) (by omega) w' (rA.below b') (rB.below b') hq)
  rw [← hn] at L1
  have hL : (layL C D).length = n := by rw [layL_len, hc, hd, hn]
  have hkn : k < n := by rw [hk]; exact Nat.mod_lt _ (by omega)
  have E1 := Lib.hid (cut_err C D k (by omega))
  have E2 := more_err C D L (by rw [hc, hd]; exact hq)
  rw [hm] at E2
  have RM := Lib.hid rM
  have HM := Lib.hid hm
  have HL := Lib.hid hL
  have hkm : (x : Int) % (n : Int) = (k : Int) := by rw [hk]; rfl
  have q0 : ((n : Int) == 0) = false := beq_eq_false_iff_ne.2 (by omega)
  have hn1 : n ≤ 1212 := by omega
  have hn0 : 0 < n := by omega
  clear rA rB rM hc hd hq hn hm hL hk
  generalize layL C D = X at *
  obtain ⟨e1, he1⟩ : ∃ e, errL (X.take k) = e := ⟨_, rfl⟩
  rw [he1] at E1
  obtain ⟨e2, he2⟩ : ∃ e, errL (([] ++ X) ++ L) = e := ⟨_, rfl⟩
  rw [show errL (X ++ L) = e2 from he2] at E2
  have R1 := Lib.hid (fun A5 c5 w' r => read_r A5 c5 (X.take k) k e1 he1.symm (by rw [List.length_take, HL.out]; omega) (by omega) w' r)
  have R2 := Lib.hid (fun A5 c5 w' r => read_r A5 c5 (([] ++ X) ++ L) (n + m) e2 he2.symm (by rw [List.nil_append, List.length_append, HL.out, HM.out]) (by omega) w' r)
  have t1 : (e1 == 0) = false := beq_eq_false_iff_ne.2 E1.out
  have t2 : (e2 == 0) = decide (m = 0) := by rw [Bool.eq_iff_iff, beq_iff_eq, decide_eq_true_iff]; exact E2
  have t3 : ((m : Int) == 0) = decide (m = 0) := by rw [Bool.eq_iff_iff, beq_iff_eq, decide_eq_true_iff]; omega
  have T2 := Lib.hid t2
  have T3 := Lib.hid t3
  clear he1 he2 E1 E2 t2 t3
  go_enter Try.func6, Try.ntmps6
  go_wp2_with fail
  refine (awake_any _).mono ?_; rintro e w1 ⟨rfl, hb1⟩
  go_wp2_with fail
  refine (L1.out _ hb1).mono ?_; rintro e w2 ⟨A5, c5, rfl, o5, hb2⟩
  have O5 := Lib.hid o5
  have HB2 := Lib.hid (bel_then hb1 hb2)
  clear o5 hb1 hb2
  obtain ⟨A6, c6, s6, r6⟩ := cut_to O5.out.row n HL.out k (k : Int) rfl (by omega)
  have R6 := Lib.hid (r6 _ O5.out.row)
  clear r6
  go_wp2_with fail
  refine (R1.out _ _ _ R6.out).mono ?_; rintro e w3 ⟨A7, n7, c7, A8, n8, c8, rfl, hb3⟩
  have O6 := Lib.hid ((O5.out.below hb3).al (.cells #[.slice A7 n7 c7, .slice A8 n8 c8] 26))
  have HB3 := Lib.hid (bel_al (bel_then HB2.out hb3) (.cells #[.slice A7 n7 c7, .slice A8 n8 c8] 26))
  clear hb3 s6
  obtain ⟨W, hW⟩ : ∃ W, w3.alloc (.cells #[.slice A7 n7 c7, .slice A8 n8 c8] 26) = W := ⟨_, rfl⟩
  rw [hW] at O6 HB3
  have OWN := Lib.hid (own_new W)
  go_wp2_with (first
    | (at_builtin
       refine append_row rfl (.tmp 56) (.tmp 57) rfl W.heap.size (.slice (some ⟨W.heap.size, 0, none⟩) 0 0) 0 [] rfl OWN.out (fun z hz => by simp at hz) A5 n c5 X rfl HL.out.symm c5 (O6.out.row.below (bel_al (Below.refl _ _) _)) n (by omega) (by omega) (by simp) ?_
       intro A2 c2 w4 own2 row2 bel2
       have OWN2 := Lib.hid own2
       have ROW2 := Lib.hid row2
       have HB4 := Lib.hid (bel_al HB3.out (.cells #[] 5) |>.trans (bel2.mono HB3.out.size))
       have HB4' := Lib.hid ((bel_al (Below.refl W.heap.size W) (.cells #[] 5)).trans bel2)
       clear own2 row2 bel2)
    | (at_builtin
       refine append_row rfl (.tmp 58) (.tmp 59) rfl W.heap.size (.slice A2 n c2) n ([] ++ X) rfl OWN2.out ROW2.out.2.2.1 M m cm L rfl HM.out.symm cm (RM.out.below HB4.out) (n + m) rfl (by omega) HB4'.out.size ?_
       intro A3 c3 w5 own3 row3 bel3
       have HB5 := Lib.hid (HB4.out.trans (bel3.mono HB3.out.size))
       have ROW3 := Lib.hid row3
       clear own3 row3 bel3))
  refine (R2.out _ _ _ ROW3.out).mono ?_; rintro e w6 ⟨A9, n9, c9, A10, n10, c10, rfl, hb6⟩
  have HB6 := Lib.hid (bel_al (bel_then HB5.out hb6) (.cells #[.slice A9 n9 c9, .slice A10 n10 c10] 26))
  clear hb6
  have n1 : ¬ e1 = 0 := by simpa using t1
  have n2 : (e1 != 0) = true := by simp [n1]
  have t2 := T2.out
  have t3 := T3.out
  by_cases hm0 : m = 0
  · rw [decide_eq_true hm0] at t2 t3
    have hm1 : (m : Int) = 0 := by omega
    obtain rfl : e2 = 0 := by simpa using t2
    go_wp2_with fail
    go_ret
    exact ⟨rfl, HB6.out⟩
  · rw [decide_eq_false hm0] at t2 t3
    have hm1 : ¬ (m : Int) = 0 := by omega
    have n3 : ¬ e2 = 0 := by simpa using t2
    go_wp2_with fail
    go_ret
    exact ⟨rfl, HB6.out⟩

theorem imageCuts_walk (A : Option Addr) (ca : Nat) (C : List Int) (B : Option Addr) (cb : Nat) (D : List Int) (x : Int) (M : Option Addr) (cm : Nat) (L : List Int) (w : World) (rA : RowAt w A ca C) (rB : RowAt w B cb D) (wx : (Lit.int .u16 x).wf = true) (rM : RowAt w M cm L) :
    Calls Try.prog 6 #[.slice A C.length ca, .slice B D.length cb, .int .u16 x, .slice M L.length cm] w fun e w' => e = .returned (.bool true) ∧ Below w.heap.size w w' := by
  have hx : 0 ≤ x ∧ x < 65536 := by have := bounds_u16 wx; omega
  obtain ⟨y, rfl⟩ : ∃ n : Nat, x = n := ⟨x.toNat, by omega⟩
  by_cases hl : 600 < C.length ∨ (C.length ≤ 600 ∧ 600 < D.length) ∨ (C.length ≤ 600 ∧ D.length ≤ 600 ∧ 100 < L.length)
  · exact cuts_long A B M ca cb cm _ _ _ _ w (Nat.le_trans rA.1 rA.2.1) (Nat.le_trans rB.1 rB.2.1) (Nat.le_trans rM.1 rM.2.1) hl
  · cases hq : rightB C.length D.length
    · exact cuts_no A B M ca cb cm _ _ _ _ w (by omega) (by omega) (by omega) hq
    · exact cuts_yes A B M ca cb cm _ _ _ _ _ C D L y (by omega) rfl rfl rfl rfl rfl w rA rB rM (by omega) (by omega) (by omega) hq
end Go.Proofs.Ytokibkemolmgcaa.Mm
