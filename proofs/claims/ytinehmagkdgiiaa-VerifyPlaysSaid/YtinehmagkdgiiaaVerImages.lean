/- The statement VerifyImages, walked, over the contracts of package verify. -/
import Derived.Test.YtinehmagkdgiiaaVerC
import Derived.Test.YtinehmagkdgiiaaImR
namespace Go.Proofs.Ytinehmagkdgiiaa.Mm
open Go.ChangeShapes Go.WideShapes Go.ChangeAt Go.RowKit
set_option linter.unusedVariables false

/-- what Image answers of bytes: 0, or the error -/
def imgE (b : List Int) : Int := if errL b ≠ 0 then errL b else verE (codeI b)
def ImageP (w : World) (b : List Int) (e : Ending) (w' : World) : Prop := (imgE b = 0 ∧ ReadY w b e w') ∨ (imgE b ≠ 0 ∧ ReadN w (imgE b) e w')
def ImageC : Prop := ∀ (A : Option Addr) (cap n : Nat) (b : List Int), b.length = n → n ≤ 100000 → ∀ w : World, RowAt w A cap b → Calls Try.prog 10 #[.slice A n cap] w (ImageP w b)
theorem img_lay {C D : List Int} (h : rightB C.length D.length = true) : imgE (layL C D) = verE C := by
  unfold imgE
  rw [if_neg (fun k => k (lay_err C D h)), lay_code]

set_option maxRecDepth 10000 in
set_option maxHeartbeats 2000000 in
theorem vimages_skip (AW : Hid AwC) (A B : Option Addr) (ca cb c d : Nat) (hc : c ≤ maxLen) (hd : d ≤ maxLen) (h : ¬ (c ≤ 4200 ∧ d ≤ 4200)) (w : World) :
    Calls Try.prog 6 #[.slice A c ca, .slice B d cb] w fun e w' => e = .returned (.bool true) ∧ Below w.heap.size w w' := by
  unfold maxLen at hc hd
  have hx : 4200 < c ∨ (c ≤ 4200 ∧ 4200 < d) := by omega
  clear h
  rcases hx with h | ⟨h, h'⟩
  all_goals
    go_enter Try.func6, Try.ntmps6
    go_wp2_with fail
    refine (AW.out _).mono ?_; rintro e w1 ⟨rfl, hb1⟩
    have B1 := Lib.hid hb1; clear hb1
    go_wp2_with fail
    refine (AW.out _).mono ?_; rintro e w2 ⟨rfl, hb2⟩
    have B2 := Lib.hid (bel_then B1.out hb2); clear hb2
    go_wp2_with fail
    go_ret
    exact ⟨rfl, B2.out⟩
set_option maxRecDepth 10000 in
set_option maxHeartbeats 2000000 in
theorem vimages_no (AW : Hid AwC) (A B : Option Addr) (ca cb c d : Nat) (h1 : c ≤ 4200) (h2 : d ≤ 4200) (hq : rightB c d = false) (w : World) :
    Calls Try.prog 6 #[.slice A c ca, .slice B d cb] w fun e w' => e = .returned (.bool true) ∧ Below w.heap.size w w' := by
  have L1 := Lib.hid (fun w' => lay_no A B c d ca cb (by omega) (by omega) w' hq)
  unfold LayN at L1
  clear hq
  go_enter Try.func6, Try.ntmps6
  go_wp2_with fail
  refine (AW.out _).mono ?_; rintro e w1 ⟨rfl, hb1⟩
  have B1 := Lib.hid hb1; clear hb1
  go_wp2_with fail
  refine (L1.out _).mono ?_; rintro e w2 ⟨rfl, hb2⟩
  have B2 := Lib.hid (bel_then B1.out hb2); clear hb2
  go_wp2
  go_ret
  exact ⟨rfl, B2.out⟩
set_option maxRecDepth 10000 in
set_option maxHeartbeats 4000000 in
theorem vimages_yes (AW : Hid AwC) (VC : Hid CodeC) (VI : Hid ImageC) (A B : Option Addr) (ca cb c d : Nat) (C D : List Int) (hc : C.length = c) (hd : D.length = d) (h1 : c ≤ 4200) (h2 : d ≤ 4200) (hq : rightB c d = true) (w : World) (rA : RowAt w A ca C) (rB : RowAt w B cb D) :
    Calls Try.prog 6 #[.slice A c ca, .slice B d cb] w fun e w' => e = .returned (.bool true) ∧ Below w.heap.size w w' := by
  have hr : rightB C.length D.length = true := by rw [hc, hd]; exact hq
  have L1 := Lib.hid (fun w' (k : Below w.heap.size w w') => lay_yes A B ca cb C D c d hc hd (by omega) (by omega) w' (rA.below k) (rB.below k) hq)
  unfold LayY at L1
  have L2 := Lib.hid (fun w' A' c' (k : RowAt w' A' c' (layL C D)) => VI.out A' c' (12 + c + d) (layL C D) (by rw [layL_len, hc, hd]) (by omega) w' k)
  unfold ImageP ReadY ReadN at L2
  rw [img_lay hr, lay_code, lay_data, hc, hd] at L2
  have K1 := Lib.hid (fun w' (k : Below w.heap.size w w') => VC.out A ca c C hc w' (rA.below k))
  have RA := Lib.hid rA
  have RB := Lib.hid rB
  have HC := Lib.hid hc
  have HD := Lib.hid hd
  clear rA rB hc hd hq hr
  generalize verE C = q at *
  go_enter Try.func6, Try.ntmps6
  go_wp2_with fail
  refine (AW.out _).mono ?_; rintro e w1 ⟨rfl, hb1⟩
  have B1 := Lib.hid hb1; clear hb1
  go_wp2_with fail
  refine (L1.out _ B1.out).mono ?_; rintro e w2 ⟨A2, c2, rfl, o2, hb2⟩
  have B2 := Lib.hid (bel_then B1.out hb2)
  have O2 := Lib.hid o2
  clear hb2 o2 L1
  go_wp2_with fail
  refine (L2.out _ _ _ O2.out.row).mono ?_
  rintro e w3 (⟨hz, A5, c5, A6, c6, rfl, o5, o6, hb3⟩ | ⟨hz, rfl, hb3⟩)
  · subst hz
    have B3 := Lib.hid (bel_al (bel_then B2.out hb3) (.cells #[.slice A5 c c5, .slice A6 d c6] 25))
    have N3 := Lib.hid (HasB.new w3 25 [.slice A5 c c5, .slice A6 d c6])
    have O5 := Lib.hid (o5.below (bel_al (Below.refl _ _) (.cells #[.slice A5 c c5, .slice A6 d c6] 25)))
    have O6 := Lib.hid (o6.below (bel_al (Below.refl _ _) (.cells #[.slice A5 c c5, .slice A6 d c6] 25)))
    clear hb3 o5 o6
    go_wp2_with fail
    refine (K1.out _ B3.out).mono ?_; rintro e w4 ⟨rfl, hb4⟩
    have B4 := Lib.hid (bel_then B3.out hb4)
    have k0 := (N3.out.below hb4).cell 0
    have k1 := (N3.out.below hb4).cell 1
    simp only [List.getElem?_cons_succ, List.getElem?_cons_zero] at k0 k1
    have y1 := conv_row (O5.out.below hb4).row _ HC.out
    have y2 := conv_row (O6.out.below hb4).row _ HD.out
    have y3 := conv_row (RA.out.below B4.out) _ HC.out
    have y4 := conv_row (RB.out.below B4.out) _ HD.out
    clear hb4 N3 O5 O6
    go_wp2
    go_ret
    exact ⟨rfl, B4.out⟩
  · have hz1 : (q != 0) = true := by rw [bne_iff_ne]; exact hz
    have B3 := Lib.hid (bel_al (bel_then B2.out hb3) (.cells #[.slice none 0 0, .slice none 0 0] 25))
    have N3 := Lib.hid (HasB.new w3 25 [.slice none 0 0, .slice none 0 0])
    clear hb3 hz
    go_wp2_with fail
    refine (K1.out _ B3.out).mono ?_; rintro e w4 ⟨rfl, hb4⟩
    have B4 := Lib.hid (bel_then B3.out hb4)
    have k0 := (N3.out.below hb4).cell 0
    have k1 := (N3.out.below hb4).cell 1
    simp only [List.getElem?_cons_succ, List.getElem?_cons_zero] at k0 k1
    clear hb4 N3
    go_wp2
    go_ret
    exact ⟨rfl, B4.out⟩
theorem vimages (AW : Hid AwC) (VC : Hid CodeC) (VI : Hid ImageC) (A : Option Addr) (ca : Nat) (C : List Int) (B : Option Addr) (cb : Nat) (D : List Int) (w : World) (rA : RowAt w A ca C) (rB : RowAt w B cb D) :
    Calls Try.prog 6 #[.slice A C.length ca, .slice B D.length cb] w fun e w' => e = .returned (.bool true) ∧ Below w.heap.size w w' := by
  by_cases h : C.length ≤ 4200 ∧ D.length ≤ 4200
  · cases hq : rightB C.length D.length
    · exact vimages_no AW A B ca cb _ _ h.1 h.2 hq w
    · exact vimages_yes AW VC VI A B ca cb _ _ C D rfl rfl h.1 h.2 hq w rA rB
  · exact vimages_skip AW A B ca cb _ _ (by have := rA.1; have := rA.2.1; omega) (by have := rB.1; have := rB.2.1; omega) h w
end Go.Proofs.Ytinehmagkdgiiaa.Mm
