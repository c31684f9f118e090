/- The statement ImageUnlike, walked. -/
import Derived.Test.YtokibkemolmgcaaImgLay3
namespace Go.Proofs.Ytokibkemolmgcaa.Mm
open Go.ChangeShapes Go.WideShapes Go.ChangeAt Go.RowKit
set_option linter.unusedVariables false

/-- an answer of Lay, whatever its bytes -/
def LayR (w : World) (k : Int) (e : Ending) (w' : World) : Prop := ∃ v, e = .returned (.tuple #[v, .int .i64 k]) ∧ Below w.heap.size w w'
theorem lay_r (A B : Option Addr) (ca cb : Nat) (C D : List Int) (c d : Nat) (hc : C.length = c) (hd : D.length = d) (h1 : c ≤ 9000) (h2 : d ≤ 9000) (k : Int) (hk : k = if rightB c d then 0 else 4) (w : World) (rA : RowAt w A ca C) (rB : RowAt w B cb D) :
    Calls Try.prog 9 #[.agg #[.slice A c ca, .slice B d cb]] w (LayR w k) := by
  cases hq : rightB c d
  · rw [hq] at hk
    simp at hk
    subst hk
    refine (lay_no A B c d ca cb h1 h2 w hq).mono ?_
    rintro e w' ⟨rfl, b⟩
    exact ⟨_, rfl, b⟩
  · rw [hq] at hk
    simp at hk
    subst hk
    refine (lay_yes A B ca cb C D c d hc hd h1 h2 w rA rB hq).mono ?_
    rintro e w' ⟨A', c', rfl, _, b⟩
    exact ⟨_, rfl, b⟩

theorem unlike_long (A B C D : Option Addr) (ca cb cc cd a b c d : Nat) (w : World) (ha : a ≤ maxLen) (hb : b ≤ maxLen) (hc : c ≤ maxLen) (hd : d ≤ maxLen)
    (hlong : 600 < a ∨ (a ≤ 600 ∧ 600 < b) ∨ (a ≤ 600 ∧ b ≤ 600 ∧ 600 < c) ∨ (a ≤ 600 ∧ b ≤ 600 ∧ c ≤ 600 ∧ 600 < d)) :
    Calls Try.prog 7 #[.slice A a ca, .slice B b cb, .slice C c cc, .slice D d cd] w fun e w' => e = .returned (.bool true) ∧ Below w.heap.size w w' := by
  unfold maxLen at ha hb hc hd
  rcases hlong with h | ⟨h, h'⟩ | ⟨h, h', h''⟩ | ⟨h, h', h'', h'''⟩
  all_goals
    go_enter Try.func7, Try.ntmps7
    go_wp2_with fail
    refine (awake_any _).mono ?_; rintro e w1 ⟨rfl, hb1⟩
    go_wp2_with fail
    refine (awake_any _).mono ?_; rintro e w2 ⟨rfl, hb2⟩
    go_wp2_with fail
    go_ret
    exact ⟨rfl, bel_then hb1 hb2⟩

theorem unlike_not (A B C D : Option Addr) (ca cb cc cd a b c d : Nat) (la lb lc ld : List Int) (w : World) (ha : la.length = a) (hb : lb.length = b) (hc : lc.length = c) (hd : ld.length = d)
    (rA : RowAt w A ca la) (rB : RowAt w B cb lb) (rC : RowAt w C cc lc) (rD : RowAt w D cd ld) (h1 : a ≤ 600) (h2 : b ≤ 600) (h3 : c ≤ 600) (h4 : d ≤ 600) (k m : Int)
    (hk : k = if rightB a b then 0 else 4) (hm : m = if rightB c d then 0 else 4) (hn : k = 4 ∨ (k = 0 ∧ m = 4)) :
    Calls Try.prog 7 #[.slice A a ca, .slice B b cb, .slice C c cc, .slice D d cd] w fun e w' => e = .returned (.bool true) ∧ Below w.heap.size w w' := by
  have L1 := Lib.hid (fun w' (b' : Below w.heap.size w w') => lay_r A B ca cb la lb a b ha hb (by omega) (by omega) k hk w' (rA.below b') (rB.below b'))
  have L2 := Lib.hid (fun w' (b' : Below w.heap.size w w') => lay_r C D cc cd lc ld c d hc hd (by omega) (by omega) m hm w' (rC.below b') (rD.below b'))
  clear ha hb hc hd rA rB rC rD hk hm
  rcases hn with rfl | ⟨rfl, rfl⟩
  all_goals
    go_enter Try.func7, Try.ntmps7
    go_wp2_with fail
    refine (awake_any _).mono ?_; rintro e w1 ⟨rfl, hb1⟩
    go_wp2_with fail
    refine (L1.out _ hb1).mono ?_; rintro e w2 ⟨v1, rfl, hb2⟩
    have hb2 := bel_then hb1 hb2
    go_wp2_with fail
    refine (L2.out _ hb2).mono ?_; rintro e w3 ⟨v2, rfl, hb3⟩
    have hb3 := bel_then hb2 hb3
    go_wp2_with fail
    go_ret
    exact ⟨rfl, hb3⟩

theorem unlike_yes (A B C D : Option Addr) (ca cb cc cd a b c d : Nat) (la lb lc ld : List Int) (w : World) (ha : la.length = a) (hb : lb.length = b) (hc : lc.length = c) (hd : ld.length = d)
    (rA : RowAt w A ca la) (rB : RowAt w B cb lb) (rC : RowAt w C cc lc) (rD : RowAt w D cd ld) (h1 : a ≤ 600) (h2 : b ≤ 600) (h3 : c ≤ 600) (h4 : d ≤ 600)
    (hk : rightB a b = true) (hm : rightB c d = true) :
    Calls Try.prog 7 #[.slice A a ca, .slice B b cb, .slice C c cc, .slice D d cd] w fun e w' => e = .returned (.bool true) ∧ Below w.heap.size w w' := by
  have L1 := Lib.hid (fun w' (b' : Below w.heap.size w w') => lay_yes A B ca cb la lb a b ha hb (by omega) (by omega) w' (rA.below b') (rB.below b') hk)
  have L2 := Lib.hid (fun w' (b' : Below w.heap.size w w') => lay_yes C D cc cd lc ld c d hc hd (by omega) (by omega) w' (rC.below b') (rD.below b') hm)
  have RA := Lib.hid rA
  have RB := Lib.hid rB
  have RC := Lib.hid rC
  have RD := Lib.hid rD
  have HA := Lib.hid ha
  have HB := Lib.hid hb
  have HC := Lib.hid hc
  have HD := Lib.hid hd
  have t1 := str_beq (layL la lb) (layL lc ld) (layL_byte rA.2.2.1 rB.2.2.1 (by omega) (by omega)) (layL_byte rC.2.2.1 rD.2.2.1 (by omega) (by omega))
  have t2 := str_beq la lc rA.2.2.1 rC.2.2.1
  have t3 := str_beq lb ld rB.2.2.1 rD.2.2.1
  have e1 : decide (layL la lb = layL lc ld) = (decide (la = lc) && decide (lb = ld)) := by rw [Bool.eq_iff_iff]; simp [lay_inj]
  rw [e1] at t1
  have N1 := Lib.hid (layL_len la lb)
  have N2 := Lib.hid (layL_len lc ld)
  rw [ha, hb] at N1
  rw [hc, hd] at N2
  clear ha hb hc hd rA rB rC rD hk hm e1
  generalize layL la lb = X at *
  generalize layL lc ld = Y at *
  have T1 := Lib.hid t1
  have T2 := Lib.hid t2
  have T3 := Lib.hid t3
  clear t1 t2 t3
  generalize decide (la = lc) = p at *
  generalize decide (lb = ld) = q at *
  go_enter Try.func7, Try.ntmps7
  go_wp2_with fail
  refine (awake_any _).mono ?_; rintro e w1 ⟨rfl, hb1⟩
  go_wp2_with fail
  refine (L1.out _ hb1).mono ?_; rintro e w2 ⟨A5, c5, rfl, o5, hb2⟩
  have OX := Lib.hid o5.row
  clear o5
  have hb2 := bel_then hb1 hb2
  go_wp2_with fail
  refine (L2.out _ hb2).mono ?_; rintro e w3 ⟨A6, c6, rfl, o6, hb3⟩
  have cx := conv_row (OX.out.below hb3) _ (show X.length = 12 + a + b by rw [N1.out])
  have cy := conv_row o6.row _ (show Y.length = 12 + c + d by rw [N2.out])
  have hb3 := bel_then hb2 hb3
  have x1 := conv_row (RA.out.below hb3) _ HA.out
  have x2 := conv_row (RB.out.below hb3) _ HB.out
  have x3 := conv_row (RC.out.below hb3) _ HC.out
  have x4 := conv_row (RD.out.below hb3) _ HD.out
  have HB3 := Lib.hid hb3
  have t1 := T1.out
  have t2 := T2.out
  have t3 := T3.out
  clear o6 hb1 hb2 hb3
  cases p
  · go_wp2_with fail
    go_ret
    exact ⟨rfl, HB3.out⟩
  · cases q
    · go_wp2_with fail
      go_ret
      exact ⟨rfl, HB3.out⟩
    · go_wp2_with fail
      go_ret
      exact ⟨rfl, HB3.out⟩

theorem imageUnlike_walk (A : Option Addr) (ca : Nat) (la : List Int) (B : Option Addr) (cb : Nat) (lb : List Int) (C : Option Addr) (cc : Nat) (lc : List Int) (D : Option Addr) (cd : Nat) (ld : List Int) (w : World) (rA : RowAt w A ca la) (rB : RowAt w B cb lb) (rC : RowAt w C cc lc) (rD : RowAt w D cd ld) :
    Calls Try.prog 7 #[.slice A la.length ca, .slice B lb.length cb, .slice C lc.length cc, .slice D ld.length cd] w fun e w' => e = .returned (.bool true) ∧ Below w.heap.size w w' := by
  by_cases hl : 600 < la.length ∨ (la.length ≤ 600 ∧ 600 < lb.length) ∨ (la.length ≤ 600 ∧ lb.length ≤ 600 ∧ 600 < lc.length) ∨ (la.length ≤ 600 ∧ lb.length ≤ 600 ∧ lc.length ≤ 600 ∧ 600 < ld.length)
  · exact unlike_long A B C D ca cb cc cd _ _ _ _ w (Nat.le_trans rA.1 rA.2.1) (Nat.le_trans rB.1 rB.2.1) (Nat.le_trans rC.1 rC.2.1) (Nat.le_trans rD.1 rD.2.1) hl
  · cases h1 : rightB la.length lb.length
    · exact unlike_not A B C D ca cb cc cd _ _ _ _ la lb lc ld w rfl rfl rfl rfl rA rB rC rD (by omega) (by omega) (by omega) (by omega) 4 _ (by rw [h1]; rfl) rfl (.inl rfl)
    · cases h2 : rightB lc.length ld.length
      · exact unlike_not A B C D ca cb cc cd _ _ _ _ la lb lc ld w rfl rfl rfl rfl rA rB rC rD (by omega) (by omega) (by omega) (by omega) 0 4 (by rw [h1]; rfl) (by rw [h2]; rfl) (.inr ⟨rfl, rfl⟩)
      · exact unlike_yes A B C D ca cb cc cd _ _ _ _ la lb lc ld w rfl rfl rfl rfl rA rB rC rD (by omega) (by omega) (by omega) (by omega) h1 h2
end Go.Proofs.Ytokibkemolmgcaa.Mm
