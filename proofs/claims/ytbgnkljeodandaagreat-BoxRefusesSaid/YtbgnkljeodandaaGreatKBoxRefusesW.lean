/- The statement BoxRefuses, walked. -/
import Derived.Test.YtbgnkljeodandaaGreatKBoxRefuses
namespace Go.Proofs.YtbgnkljeodandaaGreat.Mm
open Go.ChangeShapes Go.WideShapes Go.ChangeAt Go.RowKit
set_option linter.unusedVariables false
set_option linter.unusedSimpArgs false

theorem w64C {x : Int} (h : -9223372036854775808 ≤ x ∧ x ≤ 9223372036854775807) : wrap64 x = x := by unfold wrap64; omega
set_option maxRecDepth 10000 in
set_option maxHeartbeats 16000000 in
theorem vrefuses_few (AW : Hid AwB) (NC : Hid NewC) (RC : Hid RCodeC) (A0 : Option Addr) (ca cl : Nat) (C : List Int) (D0 : Option Addr) (cd dl : Nat) (D : List Int) (b s : Int)
    (hc : C.length = cl) (hd : D.length = dl) (h1 : cl ≤ 500) (h2 : dl ≤ 5000) (hb : -9223372036854775808 ≤ b ∧ b ≤ 9223372036854775807) (hs : -9223372036854775808 ≤ s ∧ s ≤ 9223372036854775807) (w : World) (rA : RowAt w A0 ca C) (rD : RowAt w D0 cd D) :
    Calls Tryz.prog 6 #[.slice A0 cl ca, .slice D0 dl cd, .int .i64 b, .int .i64 s] w fun e w' => e = .returned (.bool true) ∧ Below w.heap.size w w' := by
  have B0 := Lib.hid (Below.refl w.heap.size w)
  have RA := Lib.hid rA
  have RD := Lib.hid rD
  have PW := Lib.hid (rpowB_any s)
  have RK := Lib.hid (fun w' (k : Below w.heap.size w w') => RC.out A0 ca cl C hc w' (rA.below k))
  clear rA rD
  go_enter Tryz.func6, Tryz.ntmps6
  go_wp2_with fail
  refine (AW.out _).mono ?_; rintro e w1 ⟨rfl, hb1⟩
  have B1 := Lib.hid hb1; clear hb1
  go_wp2_with fail
  refine (new_m w 8192 128 (by decide) (by decide) (by decide) B1.out).mono ?_; rintro e w2 ⟨p, g, h, rfl, m, _⟩
  have S2 := Lib.hid m
  have C1 := Lib.hid (NC.out p g h _ _ (b, s) A0 ca cl C D0 cd dl D none 0 0 [] w2 ⟨hb, hs⟩ hc (by omega) hd (by omega) rfl (by omega) m.at_ (RA.out.below m.bel) (RD.out.below m.bel) (kRow_nil _ _) (RA.out.offG m.g_) (RD.out.offG m.g_))
  clear m
  simp only at C1
  go_wp2_with fail
  refine C1.out.mono ?_; rintro e w3 hN
  obtain ⟨y, QA, qc, TA, tc, B', T', rfl, oy, q3, q4⟩ := new_any (by rw [List.length_replicate]; omega) hN
  have S3 := Lib.hid (S2.out.chg q3 q4)
  have hlen : (64 * ((List.replicate 128 false).length : Nat) : Int) = 8192 := by rw [List.length_replicate]; rfl
  rw [hlen]
  obtain ⟨E, hE, HE⟩ := ref_cases C D b s
  rw [hE]
  have L3 := Lib.hid (bx_len oy QA qc TA tc)
  obtain ⟨W4, e4, x4, b4, -⟩ := boxX w3 (y.cs QA qc TA tc)
  unfold Bx.val
  generalize y.cs QA qc TA tc = cs at *
  replace e4 := Lib.hid e4
  replace b4 := Lib.hid b4
  rw [hc, hd] at HE
  clear hN C1 q3 q4 S2 x4 RA RD hE hlen hc hd
  generalize verE C = ve at *
  rcases HE with ⟨k1, rfl⟩ | ⟨rfl, k2, rfl⟩ | ⟨rfl, k2, HE⟩
  · have v1 : (E == 0) = false := by simpa using k1
    clear k1
    go_wp2_with (first
      | (refine st_box rfl (.tmp 11) (.tmp 40) rfl rfl w3 _ rfl rfl cs L3.out.1 L3.out.2 rfl rfl W4 e4.out ?_))
    refine (RK.out W4 (bel_then S3.out.bel b4.out)).mono ?_; rintro e w5 ⟨rfl, hb5⟩
    have B5 := Lib.hid (bel_then (bel_then S3.out.bel b4.out) hb5)
    clear hb5
    go_wp2_with fail
    all_goals go_ret
    all_goals exact ⟨rfl, B5.out⟩
  · rw [k2] at PW
    clear k2
    go_wp2_with (first
      | (refine st_box rfl (.tmp 11) (.tmp 40) rfl rfl w3 _ rfl rfl cs L3.out.1 L3.out.2 rfl rfl W4 e4.out ?_))
    refine (RK.out W4 (bel_then S3.out.bel b4.out)).mono ?_; rintro e w5 ⟨rfl, hb5⟩
    have B5 := Lib.hid (bel_then (bel_then S3.out.bel b4.out) hb5)
    clear hb5
    go_wp2_with fail
    refine (PW.out _).mono ?_; rintro e w6 ⟨rfl, rfl⟩
    go_wp2_with fail
    all_goals go_ret
    all_goals exact ⟨rfl, B5.out⟩
  · have kp := powS_pos k2
    rw [k2] at PW
    clear k2
    rcases HE with ⟨k3, rfl⟩ | ⟨k3, HE⟩
    · have d3 : decide (s / 2 - 32 < (cl : Int)) = true := by simp; omega
      clear k3
      have hd2 : s.tdiv 2 = s / 2 := Int.tdiv_eq_ediv_of_nonneg (by omega)
      have q1 : wrap64 (s / 2) = s / 2 := w64C (by omega)
      have q2 : wrap64 (s / 2 - 32) = s / 2 - 32 := w64C (by omega)
      have q3 : IntKind.i64.wrap (s / 2) = s / 2 := IntWalk.i64_in _ (by omega)
      have q4 : IntKind.i64.wrap (s / 2 - 32) = s / 2 - 32 := IntWalk.i64_in _ (by omega)
      generalize s / 2 = hf at *
      go_wp2_with (first
        | (refine st_box rfl (.tmp 11) (.tmp 40) rfl rfl w3 _ rfl rfl cs L3.out.1 L3.out.2 rfl rfl W4 e4.out ?_))
      refine (RK.out W4 (bel_then S3.out.bel b4.out)).mono ?_; rintro e w5 ⟨rfl, hb5⟩
      have B5 := Lib.hid (bel_then (bel_then S3.out.bel b4.out) hb5)
      clear hb5
      go_wp2_with fail
      refine (PW.out _).mono ?_; rintro e w6 ⟨rfl, rfl⟩
      go_wp2_with fail
      all_goals go_ret
      all_goals exact ⟨rfl, B5.out⟩
    · have d3 : decide (s / 2 - 32 < (cl : Int)) = false := by simp; omega
      clear k3
      rcases HE with ⟨k4, rfl⟩ | ⟨k4, HE⟩
      · have d4 : decide (s / 2 < (dl : Int)) = true := by simp; omega
        clear k4
        have hd2 : s.tdiv 2 = s / 2 := Int.tdiv_eq_ediv_of_nonneg (by omega)
        have q1 : wrap64 (s / 2) = s / 2 := w64C (by omega)
        have q2 : wrap64 (s / 2 - 32) = s / 2 - 32 := w64C (by omega)
        have q3 : IntKind.i64.wrap (s / 2) = s / 2 := IntWalk.i64_in _ (by omega)
        have q4 : IntKind.i64.wrap (s / 2 - 32) = s / 2 - 32 := IntWalk.i64_in _ (by omega)
        generalize s / 2 = hf at *
        go_wp2_with (first
          | (refine st_box rfl (.tmp 11) (.tmp 40) rfl rfl w3 _ rfl rfl cs L3.out.1 L3.out.2 rfl rfl W4 e4.out ?_))
        refine (RK.out W4 (bel_then S3.out.bel b4.out)).mono ?_; rintro e w5 ⟨rfl, hb5⟩
        have B5 := Lib.hid (bel_then (bel_then S3.out.bel b4.out) hb5)
        clear hb5
        go_wp2_with fail
        refine (PW.out _).mono ?_; rintro e w6 ⟨rfl, rfl⟩
        go_wp2_with fail
        all_goals go_ret
        all_goals exact ⟨rfl, B5.out⟩
      · have d4 : decide (s / 2 < (dl : Int)) = false := by simp; omega
        clear k4
        rcases HE with ⟨k5, rfl⟩ | ⟨k5, HE⟩
        · have d5 : decide (b < s) = true := by simp; omega
          clear k5
          have hd2 : s.tdiv 2 = s / 2 := Int.tdiv_eq_ediv_of_nonneg (by omega)
          have q1 : wrap64 (s / 2) = s / 2 := w64C (by omega)
          have q2 : wrap64 (s / 2 - 32) = s / 2 - 32 := w64C (by omega)
          have q3 : IntKind.i64.wrap (s / 2) = s / 2 := IntWalk.i64_in _ (by omega)
          have q4 : IntKind.i64.wrap (s / 2 - 32) = s / 2 - 32 := IntWalk.i64_in _ (by omega)
          generalize s / 2 = hf at *
          go_wp2_with (first
            | (refine st_box rfl (.tmp 11) (.tmp 40) rfl rfl w3 _ rfl rfl cs L3.out.1 L3.out.2 rfl rfl W4 e4.out ?_))
          refine (RK.out W4 (bel_then S3.out.bel b4.out)).mono ?_; rintro e w5 ⟨rfl, hb5⟩
          have B5 := Lib.hid (bel_then (bel_then S3.out.bel b4.out) hb5)
          clear hb5
          go_wp2_with fail
          refine (PW.out _).mono ?_; rintro e w6 ⟨rfl, rfl⟩
          go_wp2_with fail
          all_goals go_ret
          all_goals exact ⟨rfl, B5.out⟩
        · have d5 : decide (b < s) = false := by simp; omega
          rcases HE with ⟨k6, rfl⟩ | ⟨k6, HE⟩
          · have d6 : decide (8192 < b) = true := by simp; omega
            clear k6 k5
            have hd2 : s.tdiv 2 = s / 2 := Int.tdiv_eq_ediv_of_nonneg (by omega)
            have q1 : wrap64 (s / 2) = s / 2 := w64C (by omega)
            have q2 : wrap64 (s / 2 - 32) = s / 2 - 32 := w64C (by omega)
            have q3 : IntKind.i64.wrap (s / 2) = s / 2 := IntWalk.i64_in _ (by omega)
            have q4 : IntKind.i64.wrap (s / 2 - 32) = s / 2 - 32 := IntWalk.i64_in _ (by omega)
            generalize s / 2 = hf at *
            go_wp2_with (first
              | (refine st_box rfl (.tmp 11) (.tmp 40) rfl rfl w3 _ rfl rfl cs L3.out.1 L3.out.2 rfl rfl W4 e4.out ?_))
            refine (RK.out W4 (bel_then S3.out.bel b4.out)).mono ?_; rintro e w5 ⟨rfl, hb5⟩
            have B5 := Lib.hid (bel_then (bel_then S3.out.bel b4.out) hb5)
            clear hb5
            go_wp2_with fail
            refine (PW.out _).mono ?_; rintro e w6 ⟨rfl, rfl⟩
            go_wp2_with fail
            all_goals go_ret
            all_goals exact ⟨rfl, B5.out⟩
          · have d6 : decide (8192 < b) = false := by simp; omega
            have htm : b.tmod s = b % s := Int.tmod_eq_emod_of_nonneg (by omega)
            have hz : (s == 0) = false := by simp; omega
            have e0 := Int.emod_nonneg b (by omega : s ≠ 0)
            have e1 := Int.emod_lt_of_pos b (by omega : 0 < s)
            have wr1 : wrap64 (b + s) = b + s := w64C (by omega)
            have wr2 : wrap64 (b + s + 64) = b + s + 64 := w64C (by omega)
            generalize b % s = rm at *
            rcases HE with ⟨k7, rfl⟩ | ⟨k7, HE⟩
            · have d7 : (rm == 0) = false := by simpa using k7
              have k8 := Lib.hid k7
              clear k7
              have hd2 : s.tdiv 2 = s / 2 := Int.tdiv_eq_ediv_of_nonneg (by omega)
              have q1 : wrap64 (s / 2) = s / 2 := w64C (by omega)
              have q2 : wrap64 (s / 2 - 32) = s / 2 - 32 := w64C (by omega)
              have q3 : IntKind.i64.wrap (s / 2) = s / 2 := IntWalk.i64_in _ (by omega)
              have q4 : IntKind.i64.wrap (s / 2 - 32) = s / 2 - 32 := IntWalk.i64_in _ (by omega)
              generalize s / 2 = hf at *
              go_wp2_with (first
                | (refine st_box rfl (.tmp 11) (.tmp 40) rfl rfl w3 _ rfl rfl cs L3.out.1 L3.out.2 rfl rfl W4 e4.out ?_))
              refine (RK.out W4 (bel_then S3.out.bel b4.out)).mono ?_; rintro e w5 ⟨rfl, hb5⟩
              have B5 := Lib.hid (bel_then (bel_then S3.out.bel b4.out) hb5)
              clear hb5
              go_wp2_with fail
              refine (PW.out _).mono ?_; rintro e w6 ⟨rfl, rfl⟩
              go_wp2_with fail
              all_goals first | exact absurd ‹rm = 0› k8.out | (go_ret; exact ⟨rfl, B5.out⟩)
            · subst k7
              rcases HE with ⟨k8, rfl⟩ | ⟨k8, rfl⟩
              · have d8 : decide (8192 < b + s + 64) = true := by simp; omega
                clear k8
                have hd2 : s.tdiv 2 = s / 2 := Int.tdiv_eq_ediv_of_nonneg (by omega)
                have q1 : wrap64 (s / 2) = s / 2 := w64C (by omega)
                have q2 : wrap64 (s / 2 - 32) = s / 2 - 32 := w64C (by omega)
                have q3 : IntKind.i64.wrap (s / 2) = s / 2 := IntWalk.i64_in _ (by omega)
                have q4 : IntKind.i64.wrap (s / 2 - 32) = s / 2 - 32 := IntWalk.i64_in _ (by omega)
                generalize s / 2 = hf at *
                go_wp2_with (first
                  | (refine st_box rfl (.tmp 11) (.tmp 40) rfl rfl w3 _ rfl rfl cs L3.out.1 L3.out.2 rfl rfl W4 e4.out ?_))
                refine (RK.out W4 (bel_then S3.out.bel b4.out)).mono ?_; rintro e w5 ⟨rfl, hb5⟩
                have B5 := Lib.hid (bel_then (bel_then S3.out.bel b4.out) hb5)
                clear hb5
                go_wp2_with fail
                refine (PW.out _).mono ?_; rintro e w6 ⟨rfl, rfl⟩
                go_wp2_with fail
                all_goals go_ret
                all_goals exact ⟨rfl, B5.out⟩
              · have d8 : decide (8192 < b + s + 64) = false := by simp; omega
                clear k8
                have hd2 : s.tdiv 2 = s / 2 := Int.tdiv_eq_ediv_of_nonneg (by omega)
                have q1 : wrap64 (s / 2) = s / 2 := w64C (by omega)
                have q2 : wrap64 (s / 2 - 32) = s / 2 - 32 := w64C (by omega)
                have q3 : IntKind.i64.wrap (s / 2) = s / 2 := IntWalk.i64_in _ (by omega)
                have q4 : IntKind.i64.wrap (s / 2 - 32) = s / 2 - 32 := IntWalk.i64_in _ (by omega)
                generalize s / 2 = hf at *
                go_wp2_with (first
                  | (refine st_box rfl (.tmp 11) (.tmp 40) rfl rfl w3 _ rfl rfl cs L3.out.1 L3.out.2 rfl rfl W4 e4.out ?_))
                refine (RK.out W4 (bel_then S3.out.bel b4.out)).mono ?_; rintro e w5 ⟨rfl, hb5⟩
                have B5 := Lib.hid (bel_then (bel_then S3.out.bel b4.out) hb5)
                clear hb5
                go_wp2_with fail
                refine (PW.out _).mono ?_; rintro e w6 ⟨rfl, rfl⟩
                go_wp2_with fail
                all_goals go_ret
                all_goals exact ⟨rfl, B5.out⟩
theorem vrefuses_long (AW : Hid AwB) (A0 : Option Addr) (ca cl : Nat) (D0 : Option Addr) (cd dl : Nat) (b s : Int)
    (m1 : cl ≤ maxLen) (m2 : dl ≤ maxLen) (hl : 500 < cl ∨ (cl ≤ 500 ∧ 5000 < dl)) (w : World) :
    Calls Tryz.prog 6 #[.slice A0 cl ca, .slice D0 dl cd, .int .i64 b, .int .i64 s] w fun e w' => e = .returned (.bool true) ∧ Below w.heap.size w w' := by
  unfold maxLen at m1 m2
  rcases hl with h | ⟨h1, h⟩
  all_goals
    go_enter Tryz.func6, Tryz.ntmps6
    go_wp2_with fail
    refine (AW.out _).mono ?_; rintro e w1 ⟨rfl, hb1⟩
    have B1 := Lib.hid hb1; clear hb1
    go_wp2_with fail
    refine (AW.out _).mono ?_; rintro e w2 ⟨rfl, hb2⟩
    have B2 := Lib.hid (bel_then B1.out hb2); clear hb2
    go_wp2_with fail
    go_ret
    exact ⟨rfl, B2.out⟩
theorem vrefuses (AW : Hid AwB) (NC : Hid NewC) (RC : Hid RCodeC) (A0 : Option Addr) (ca : Nat) (C : List Int) (D0 : Option Addr) (cd : Nat) (D : List Int) (b s : Int) (w : World) (rA : RowAt w A0 ca C) (rD : RowAt w D0 cd D) (hb : (Lit.int .i64 b).wf = true) (hs : (Lit.int .i64 s).wf = true) :
    Calls Tryz.prog 6 #[.slice A0 C.length ca, .slice D0 D.length cd, .int .i64 b, .int .i64 s] w fun e w' => e = .returned (.bool true) ∧ Below w.heap.size w w' := by
  by_cases h : C.length ≤ 500 ∧ D.length ≤ 5000
  · exact vrefuses_few AW NC RC A0 ca _ C D0 cd _ D b s rfl rfl h.1 h.2 (bounds_i64 hb) (bounds_i64 hs) w rA rD
  · exact vrefuses_long AW A0 ca _ D0 cd _ b s (Nat.le_trans rA.1 rA.2.1) (Nat.le_trans rD.1 rD.2.1) (by omega) w
end Go.Proofs.YtbgnkljeodandaaGreat.Mm
