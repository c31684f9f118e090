/- The statement VerifyPlays, walked, over the contracts of package verify. -/
import Derived.Test.YtinehmagkdgiiaaVerImages
import Derived.Test.YtinehmagkdgiiaaVerRef
namespace Go.Proofs.Ytinehmagkdgiiaa.Mm
open Go.ChangeShapes Go.WideShapes Go.ChangeAt Go.RowKit
set_option linter.unusedVariables false

theorem pow_bd {s : Int} (h : powB s = true) : 128 ≤ s ∧ s ≤ 16384 := by
  unfold powB at h
  simp at h
  omega
theorem fits_ways (n s : Int) : (powB s = false ∧ fitsB n s = false) ∨ (powB s = true ∧ decide (0 ≤ n) = false ∧ fitsB n s = false) ∨
    (∃ h m : Int, powB s = true ∧ decide (0 ≤ n) = true ∧ s.tdiv 2 = h ∧ IntKind.i64.wrap h = h ∧ IntKind.i64.wrap (h - 32) = m ∧ decide (n ≤ m) = false ∧ fitsB n s = false) ∨ (∃ h m : Int, powB s = true ∧ decide (0 ≤ n) = true ∧ s.tdiv 2 = h ∧ IntKind.i64.wrap h = h ∧ IntKind.i64.wrap (h - 32) = m ∧ decide (n ≤ m) = true ∧ fitsB n s = true) := by
  cases hp : powB s
  · exact .inl ⟨rfl, by unfold fitsB; rw [hp]; rfl⟩
  · obtain ⟨p1, p2⟩ := pow_bd hp
    by_cases h0 : 0 ≤ n
    · have ht : s.tdiv 2 = s / 2 := Int.tdiv_eq_ediv_of_nonneg (by omega)
      have hw : IntKind.i64.wrap (s / 2 - 32) = s / 2 - 32 := IntWalk.i64_in _ (by omega)
      by_cases h1 : n ≤ s / 2 - 32
      · exact .inr (.inr (.inr ⟨_, _, rfl, decide_eq_true h0, ht, IntWalk.i64_in _ (by omega), hw, decide_eq_true h1, by unfold fitsB; rw [hp, Bool.true_and]; exact decide_eq_true ⟨h0, h1⟩⟩))
      · exact .inr (.inr (.inl ⟨_, _, rfl, decide_eq_true h0, ht, IntWalk.i64_in _ (by omega), hw, decide_eq_false h1, by unfold fitsB; rw [hp, Bool.true_and]; exact decide_eq_false fun h => h1 h.2⟩))
    · exact .inr (.inl ⟨rfl, decide_eq_false h0, by unfold fitsB; rw [hp, Bool.true_and]; exact decide_eq_false fun h => h0 h.1⟩)

set_option maxRecDepth 10000 in
set_option maxHeartbeats 2000000 in
theorem vplays_skip (AW : Hid AwC) (A B : Option Addr) (ca cb c d : Nat) (n s : Int) (hc : c ≤ maxLen) (hd : d ≤ maxLen) (h : ¬ (c ≤ 4200 ∧ d ≤ 8400)) (w : World) :
    Calls Try.prog 3 #[.slice A c ca, .slice B d cb, .int .i64 n, .int .i64 s] w fun e w' => e = .returned (.bool true) ∧ Below w.heap.size w w' := by
  unfold maxLen at hc hd
  have hx : 4200 < c ∨ (c ≤ 4200 ∧ 8400 < d) := by omega
  clear h
  rcases hx with h | ⟨h, h'⟩
  all_goals
    go_enter Try.func3, Try.ntmps3
    go_wp2_with fail
    refine (AW.out _).mono ?_; rintro e w1 ⟨rfl, hb1⟩
    have B1 := Lib.hid hb1; clear hb1
    go_wp2_with fail
    refine (AW.out _).mono ?_; rintro e w2 ⟨rfl, hb2⟩
    have B2 := Lib.hid (bel_then B1.out hb2); clear hb2
    go_wp2_with fail
    go_ret
    exact ⟨rfl, B2.out⟩

set_option maxRecDepth 10000 in
set_option maxHeartbeats 4000000 in
theorem vplays_1 (AW : Hid AwC) (VC : Hid CodeC) (VF : Hid FitsC) (VI : Hid ImageC) (A B : Option Addr) (ca cb c d : Nat) (C D : List Int) (hc : C.length = c) (hd : D.length = d) (h1 : c ≤ 4200) (h2 : d ≤ 8400) (n s : Int) (hn : -9223372036854775808 ≤ n ∧ n ≤ 9223372036854775807) (hs : -9223372036854775808 ≤ s ∧ s ≤ 9223372036854775807) (hE : errL D ≠ 0) (w : World) (rA : RowAt w A ca C) (rB : RowAt w B cb D) :
    Calls Try.prog 3 #[.slice A c ca, .slice B d cb, .int .i64 n, .int .i64 s] w fun e w' => e = .returned (.bool true) ∧ Below w.heap.size w w' := by
  have FC := fits_ways n s
  have L2 := Lib.hid (fun w' (k : Below w.heap.size w w') => VI.out B cb d D hd (by omega) w' (rB.below k))
  have K1 := Lib.hid (fun w' (k : Below w.heap.size w w') => VC.out A ca c C hc w' (rA.below k))
  have K2 := Lib.hid (fun w' (k : Below w.heap.size w w') => rCode_any A ca c C hc w' (rA.below k))
  have VF2 := Lib.hid (VF.out n s hn hs)
  have PW := Lib.hid (rPower_any s)
  have HC := Lib.hid hc
  have HD := Lib.hid hd
  have R2 := Lib.hid (fun w' (k : Below w.heap.size w w') => rRead_no B cb D d hd (by omega) w' (rB.below k) hE)
  unfold RReadN at R2
  have hi : imgE D = errL D := by unfold imgE; rw [if_pos hE]
  unfold ImageP ReadN at L2
  rw [hi] at L2
  have L9 := Lib.hid (fun w' k => (L2.out w' k).mono fun e w'' h => (h.resolve_left fun h => hE h.1).2)
  clear L2
  have hq : (errL D == 0) = false := by simpa using hE
  have hq2 : (errL D != 0) = true := by simpa using hE
  clear rA rB hc hd hi hE hn hs
  generalize errL D = q at *
  generalize verE C = v at *
  generalize fitsB n s = fb at *
  generalize powB s = pb at *
  go_enter Try.func3, Try.ntmps3
  go_wp2_with fail
  refine (AW.out _).mono ?_; rintro e w1 ⟨rfl, hb1⟩
  have B1 := Lib.hid hb1; clear hb1
  go_wp2_with fail
  refine (L9.out _ B1.out).mono ?_; rintro e w2 ⟨rfl, hb2⟩
  have B2 := Lib.hid (bel_al (bel_then B1.out hb2) (.cells #[.slice none 0 0, .slice none 0 0] 25))
  have N2 := Lib.hid (HasB.new w2 25 [.slice none 0 0, .slice none 0 0])
  clear hb2
  go_wp2_with fail
  refine (R2.out _ B2.out).mono ?_; rintro e w3 ⟨rfl, hb3⟩
  have B3 := Lib.hid (bel_then B2.out hb3)
  have N3 := Lib.hid (N2.out.below hb3)
  clear hb3 N2
  go_wp2_with fail
  refine (PW.out _).mono ?_; rintro e w5 ⟨rfl, rfl⟩
  rcases FC with ⟨f1, f2⟩ | ⟨f1, f2, f3⟩ | ⟨hh, mm, f1, f2, f3, f3b, f4, f5, f6⟩ | ⟨hh, mm, f1, f2, f3, f3b, f4, f5, f6⟩
  all_goals
    go_wp2_with fail
    refine (K1.out _ B3.out).mono ?_; rintro e w6 ⟨rfl, hb6⟩
    have B6 := Lib.hid (bel_then B3.out hb6)
    have N6 := Lib.hid (N3.out.below hb6)
    go_wp2_with fail
    refine (K2.out _ B6.out).mono ?_; rintro e w7 ⟨rfl, hb7⟩
    have B7 := Lib.hid (bel_then B6.out hb7)
    have N7 := Lib.hid (N6.out.below hb7)
    go_wp2_with fail
    refine (VF2.out _).mono ?_; rintro e w8 ⟨rfl, hb8⟩
    have B8 := Lib.hid (bel_then B7.out hb8)
    have k0 := (N7.out.below hb8).cell 0
    have k1 := (N7.out.below hb8).cell 1
    simp only [List.getElem?_cons_succ, List.getElem?_cons_zero] at k0 k1
    go_wp2
    go_ret
    exact ⟨rfl, B8.out⟩

set_option maxRecDepth 10000 in
set_option maxHeartbeats 4000000 in
theorem vplays_2 (AW : Hid AwC) (VC : Hid CodeC) (VF : Hid FitsC) (VI : Hid ImageC) (A B : Option Addr) (ca cb c d : Nat) (C D : List Int) (hc : C.length = c) (hd : D.length = d) (h1 : c ≤ 4200) (h2 : d ≤ 8400) (n s : Int) (hn : -9223372036854775808 ≤ n ∧ n ≤ 9223372036854775807) (hs : -9223372036854775808 ≤ s ∧ s ≤ 9223372036854775807) (hE : errL D = 0) (hV : verE (codeI D) ≠ 0) (w : World) (rA : RowAt w A ca C) (rB : RowAt w B cb D) :
    Calls Try.prog 3 #[.slice A c ca, .slice B d cb, .int .i64 n, .int .i64 s] w fun e w' => e = .returned (.bool true) ∧ Below w.heap.size w w' := by
  have FC := fits_ways n s
  have L2 := Lib.hid (fun w' (k : Below w.heap.size w w') => VI.out B cb d D hd (by omega) w' (rB.below k))
  have K1 := Lib.hid (fun w' (k : Below w.heap.size w w') => VC.out A ca c C hc w' (rA.below k))
  have K2 := Lib.hid (fun w' (k : Below w.heap.size w w') => rCode_any A ca c C hc w' (rA.below k))
  have VF2 := Lib.hid (VF.out n s hn hs)
  have PW := Lib.hid (rPower_any s)
  have HC := Lib.hid hc
  have HD := Lib.hid hd
  have R2 := Lib.hid (fun w' (k : Below w.heap.size w w') => rRead_yes B cb D d hd (by omega) w' (rB.below k) hE)
  unfold RReadY at R2
  have hi : imgE D = verE (codeI D) := by unfold imgE; rw [if_neg (fun k => k hE)]
  unfold ImageP ReadN at L2
  rw [hi] at L2
  have L9 := Lib.hid (fun w' k => (L2.out w' k).mono fun e w'' h => (h.resolve_left fun h => hV h.1).2)
  clear L2
  have K3 := Lib.hid (fun w' A' c' (k : RowAt w' A' c' (codeI D)) => rCode_any A' c' (codeI D).length (codeI D) rfl w' k)
  have hq2 : (verE (codeI D) != 0) = true := by simpa using hV
  clear rA rB hc hd hi hE hV hn hs
  generalize verE (codeI D) = q at *
  generalize verE C = v at *
  generalize fitsB n s = fb at *
  generalize powB s = pb at *
  generalize (codeI D).length = x at *
  generalize (dataL D).length = y at *
  go_enter Try.func3, Try.ntmps3
  go_wp2_with fail
  refine (AW.out _).mono ?_; rintro e w1 ⟨rfl, hb1⟩
  have B1 := Lib.hid hb1; clear hb1
  go_wp2_with fail
  refine (L9.out _ B1.out).mono ?_; rintro e w2 ⟨rfl, hb2⟩
  have B2 := Lib.hid (bel_al (bel_then B1.out hb2) (.cells #[.slice none 0 0, .slice none 0 0] 25))
  have N2 := Lib.hid (HasB.new w2 25 [.slice none 0 0, .slice none 0 0])
  clear hb2
  go_wp2_with fail
  refine (R2.out _ B2.out).mono ?_; rintro e w3 ⟨A7, c7, A8, c8, rfl, r7, r8, hb3⟩
  have B3 := Lib.hid (bel_then B2.out hb3)
  have N3 := Lib.hid (N2.out.below hb3)
  have R7 := Lib.hid r7
  have R8 := Lib.hid r8
  clear hb3 N2 r7 r8
  go_wp2_with fail
  refine (K3.out _ _ _ R7.out).mono ?_; rintro e w4 ⟨rfl, hb4⟩
  have B4 := Lib.hid (bel_then B3.out hb4)
  have N4 := Lib.hid (N3.out.below hb4)
  have S7 := Lib.hid (R7.out.below hb4)
  have S8 := Lib.hid (R8.out.below hb4)
  clear hb4 N3 R7 R8
  go_wp2_with fail
  refine (PW.out _).mono ?_; rintro e w5 ⟨rfl, rfl⟩
  rcases FC with ⟨f1, f2⟩ | ⟨f1, f2, f3⟩ | ⟨hh, mm, f1, f2, f3, f3b, f4, f5, f6⟩ | ⟨hh, mm, f1, f2, f3, f3b, f4, f5, f6⟩
  all_goals
    go_wp2_with fail
    refine (K1.out _ B4.out).mono ?_; rintro e w6 ⟨rfl, hb6⟩
    have B6 := Lib.hid (bel_then B4.out hb6)
    have N6 := Lib.hid (N4.out.below hb6)
    go_wp2_with fail
    refine (K2.out _ B6.out).mono ?_; rintro e w7 ⟨rfl, hb7⟩
    have B7 := Lib.hid (bel_then B6.out hb7)
    have N7 := Lib.hid (N6.out.below hb7)
    go_wp2_with fail
    refine (VF2.out _).mono ?_; rintro e w8 ⟨rfl, hb8⟩
    have B8 := Lib.hid (bel_then B7.out hb8)
    have k0 := (N7.out.below hb8).cell 0
    have k1 := (N7.out.below hb8).cell 1
    simp only [List.getElem?_cons_succ, List.getElem?_cons_zero] at k0 k1
    go_wp2
    go_ret
    exact ⟨rfl, B8.out⟩

set_option maxRecDepth 10000 in
set_option maxHeartbeats 4000000 in
theorem vplays_3 (AW : Hid AwC) (VC : Hid CodeC) (VF : Hid FitsC) (VI : Hid ImageC) (A B : Option Addr) (ca cb c d : Nat) (C D : List Int) (hc : C.length = c) (hd : D.length = d) (h1 : c ≤ 4200) (h2 : d ≤ 8400) (n s : Int) (hn : -9223372036854775808 ≤ n ∧ n ≤ 9223372036854775807) (hs : -9223372036854775808 ≤ s ∧ s ≤ 9223372036854775807) (hE : errL D = 0) (hV : verE (codeI D) = 0) (w : World) (rA : RowAt w A ca C) (rB : RowAt w B cb D) :
    Calls Try.prog 3 #[.slice A c ca, .slice B d cb, .int .i64 n, .int .i64 s] w fun e w' => e = .returned (.bool true) ∧ Below w.heap.size w w' := by
  have FC := fits_ways n s
  have L2 := Lib.hid (fun w' (k : Below w.heap.size w w') => VI.out B cb d D hd (by omega) w' (rB.below k))
  have K1 := Lib.hid (fun w' (k : Below w.heap.size w w') => VC.out A ca c C hc w' (rA.below k))
  have K2 := Lib.hid (fun w' (k : Below w.heap.size w w') => rCode_any A ca c C hc w' (rA.below k))
  have VF2 := Lib.hid (VF.out n s hn hs)
  have PW := Lib.hid (rPower_any s)
  have HC := Lib.hid hc
  have HD := Lib.hid hd
  have R2 := Lib.hid (fun w' (k : Below w.heap.size w w') => rRead_yes B cb D d hd (by omega) w' (rB.below k) hE)
  unfold RReadY at R2
  have hi : imgE D = 0 := by unfold imgE; rw [if_neg (fun k => k hE)]; exact hV
  unfold ImageP at L2
  rw [hi] at L2
  have L9 : Hid (∀ w', Below w.heap.size w w' → Calls Try.prog 10 #[.slice B d cb] w' (ReadY w' D)) := Lib.hid (fun w' k => (L2.out w' k).mono fun e w'' h => (h.resolve_right fun h => h.1 rfl).2)
  clear L2
  unfold ReadY at L9
  have K3 := Lib.hid (fun w' A' c' (k : RowAt w' A' c' (codeI D)) => rCode_any A' c' (codeI D).length (codeI D) rfl w' k)
  rw [hV] at K3
  clear rA rB hc hd hi hE hV hn hs
  generalize verE C = v at *
  generalize fitsB n s = fb at *
  generalize powB s = pb at *
  generalize codeI D = X at *
  generalize dataL D = Y at *
  generalize hxl : X.length = x at *
  generalize hyl : Y.length = y at *
  have HX := Lib.hid hxl
  have HY := Lib.hid hyl
  clear hxl hyl
  go_enter Try.func3, Try.ntmps3
  go_wp2_with fail
  refine (AW.out _).mono ?_; rintro e w1 ⟨rfl, hb1⟩
  have B1 := Lib.hid hb1; clear hb1
  go_wp2_with fail
  refine (L9.out _ B1.out).mono ?_; rintro e w2 ⟨A5, c5, A6, c6, rfl, o5, o6, hb2⟩
  have B2 := Lib.hid (bel_al (bel_then B1.out hb2) (.cells #[.slice A5 x c5, .slice A6 y c6] 25))
  have N2 := Lib.hid (HasB.new w2 25 [.slice A5 x c5, .slice A6 y c6])
  have O5 := Lib.hid (o5.below (bel_al (Below.refl _ _) (.cells #[.slice A5 x c5, .slice A6 y c6] 25)))
  have O6 := Lib.hid (o6.below (bel_al (Below.refl _ _) (.cells #[.slice A5 x c5, .slice A6 y c6] 25)))
  clear hb2 o5 o6
  go_wp2_with fail
  refine (R2.out _ B2.out).mono ?_; rintro e w3 ⟨A7, c7, A8, c8, rfl, r7, r8, hb3⟩
  have B3 := Lib.hid (bel_then B2.out hb3)
  have N3 := Lib.hid (N2.out.below hb3)
  have R7 := Lib.hid r7
  have R8 := Lib.hid r8
  have P3 := Lib.hid hb3
  clear hb3 N2 r7 r8
  go_wp2_with fail
  refine (K3.out _ _ _ R7.out).mono ?_; rintro e w4 ⟨rfl, hb4⟩
  have B4 := Lib.hid (bel_then B3.out hb4)
  have N4 := Lib.hid (N3.out.below hb4)
  have S7 := Lib.hid (R7.out.below hb4)
  have S8 := Lib.hid (R8.out.below hb4)
  have P4 := Lib.hid hb4
  clear hb4 N3 R7 R8
  go_wp2_with fail
  refine (PW.out _).mono ?_; rintro e w5 ⟨rfl, rfl⟩
  rcases FC with ⟨f1, f2⟩ | ⟨f1, f2, f3⟩ | ⟨hh, mm, f1, f2, f3, f3b, f4, f5, f6⟩ | ⟨hh, mm, f1, f2, f3, f3b, f4, f5, f6⟩
  all_goals
    go_wp2_with fail
    refine (K1.out _ B4.out).mono ?_; rintro e w6 ⟨rfl, hb6⟩
    have B6 := Lib.hid (bel_then B4.out hb6)
    have N6 := Lib.hid (N4.out.below hb6)
    go_wp2_with fail
    refine (K2.out _ B6.out).mono ?_; rintro e w7 ⟨rfl, hb7⟩
    have B7 := Lib.hid (bel_then B6.out hb7)
    have N7 := Lib.hid (N6.out.below hb7)
    go_wp2_with fail
    refine (VF2.out _).mono ?_; rintro e w8 ⟨rfl, hb8⟩
    have B8 := Lib.hid (bel_then B7.out hb8)
    have k0 := (N7.out.below hb8).cell 0
    have k1 := (N7.out.below hb8).cell 1
    simp only [List.getElem?_cons_succ, List.getElem?_cons_zero] at k0 k1
    have g8 := bel_then (bel_then hb6 hb7) hb8
    have y1 := conv_row ((O5.out.below (bel_then (bel_then P3.out P4.out) g8)).row) _ HX.out
    have y2 := conv_row ((O6.out.below (bel_then (bel_then P3.out P4.out) g8)).row) _ HY.out
    have y3 := conv_row (S7.out.below g8) _ HX.out
    have y4 := conv_row (S8.out.below g8) _ HY.out
    go_wp2
    go_ret
    exact ⟨rfl, B8.out⟩

theorem vplays (AW : Hid AwC) (VC : Hid CodeC) (VF : Hid FitsC) (VI : Hid ImageC) (A : Option Addr) (ca : Nat) (C : List Int) (B : Option Addr) (cb : Nat) (D : List Int) (n s : Int) (w : World) (rA : RowAt w A ca C) (rB : RowAt w B cb D) (hn : (Lit.int .i64 n).wf = true) (hs : (Lit.int .i64 s).wf = true) :
    Calls Try.prog 3 #[.slice A C.length ca, .slice B D.length cb, .int .i64 n, .int .i64 s] w fun e w' => e = .returned (.bool true) ∧ Below w.heap.size w w' := by
  have bn : ∀ m : Int, (Lit.int .i64 m).wf = true → -9223372036854775808 ≤ m ∧ m ≤ 9223372036854775807 := fun m h => by
    have : IntKind.i64.min ≤ m ∧ m ≤ IntKind.i64.max := by simpa [Lit.wf] using h
    rwa [show IntKind.i64.min = -9223372036854775808 by decide, show IntKind.i64.max = 9223372036854775807 by decide] at this
  by_cases h : C.length ≤ 4200 ∧ D.length ≤ 8400
  · by_cases hE : errL D = 0
    · by_cases hV : verE (codeI D) = 0
      · exact vplays_3 AW VC VF VI A B ca cb _ _ C D rfl rfl h.1 h.2 n s (bn n hn) (bn s hs) hE hV w rA rB
      · exact vplays_2 AW VC VF VI A B ca cb _ _ C D rfl rfl h.1 h.2 n s (bn n hn) (bn s hs) hE hV w rA rB
    · exact vplays_1 AW VC VF VI A B ca cb _ _ C D rfl rfl h.1 h.2 n s (bn n hn) (bn s hs) hE w rA rB
  · exact vplays_skip AW A B ca cb _ _ n s (by have := rA.1; have := rA.2.1; omega) (by have := rB.1; have := rB.2.1; omega) h w
end Go.Proofs.Ytinehmagkdgiiaa.Mm
