/- The statement BoxDead, walked, over the contracts of package box. -/
import Derived.Test.YtbgnkljeodandaaGreatKBxS
namespace Go.Proofs.YtbgnkljeodandaaGreat.Mm
open Go.ChangeShapes Go.WideShapes Go.ChangeAt Go.RowKit
set_option linter.unusedVariables false
set_option linter.unusedSimpArgs false

theorem bx_ov {x : Bx} (o : x.Ok) : (x.is == 1) = x.W.ov := by
  cases h : x.W.ov
  · have : ¬ x.is = 1 := fun e => by have := o.ov.2 e; rw [h] at this; cases this
    simpa using this
  · have := o.ov.1 h
    simpa using this
set_option maxRecDepth 10000 in
set_option maxHeartbeats 8000000 in
theorem vdead_few (AW : Hid AwB) (NC : Hid NewC) (SC : Hid SliceC) (A0 : Option Addr) (ca cl : Nat) (C : List Int) (D0 : Option Addr) (cd dl : Nat) (D : List Int) (R0 : Option Addr) (cr rl : Nat) (R : List Int) (n : Int)
    (hc : C.length = cl) (hd : D.length = dl) (hr : R.length = rl) (h1 : cl ≤ 500) (h2 : dl ≤ 500) (h3 : rl ≤ 50) (hn : 0 ≤ n ∧ n ≤ 255) (w : World) (rA : RowAt w A0 ca C) (rD : RowAt w D0 cd D) (rR : KRow .u32 w R0 cr R) :
    Calls Tryz.prog 8 #[.slice A0 cl ca, .slice D0 dl cd, .slice R0 rl cr, .int .u8 n] w fun e w' => e = .returned (.bool true) ∧ Below w.heap.size w w' := by
  have B0 := Lib.hid (Below.refl w.heap.size w)
  have RA := Lib.hid rA
  have RD := Lib.hid rD
  have RR := Lib.hid rR
  clear rA rD rR
  obtain ⟨n0, n1⟩ := hn
  go_enter Tryz.func8, Tryz.ntmps8
  go_wp2_with fail
  refine (AW.out _).mono ?_; rintro e w1 ⟨rfl, hb1⟩
  have B1 := Lib.hid hb1; clear hb1
  go_wp2_with fail
  refine (new_m w 4096 64 (by decide) (by decide) (by decide) B1.out).mono ?_; rintro e w2 ⟨p, g, h, rfl, s, _⟩
  have S := Lib.hid s
  have C1 := Lib.hid (NC.out p g h _ _ (1024, 1024) A0 ca cl C D0 cd dl D R0 cr rl R w2 (by unfold RgI; omega) hc (by omega) hd (by omega) hr (by omega) s.at_ (RA.out.below s.bel) (RD.out.below s.bel) (RR.out.below s.bel) (RA.out.offG s.g_) (RD.out.offG s.g_))
  have HCB := Lib.hid RA.out.2.2.1
  have HDB := Lib.hid RD.out.2.2.1
  have HRU := Lib.hid (krow_u RR.out)
  clear s RA RD RR
  simp only at C1
  go_wp2_with fail
  refine C1.out.mono ?_; rintro e w3 ⟨QA, qc, TA, tc, ⟨hne, rfl, h1', h2', h3', h4'⟩ | ⟨hne, rfl, h1', h2', h3', h4'⟩⟩
  · have L3 := Lib.hid (bx_len zeroX_ok.c QA qc TA tc)
    have B3 := Lib.hid (S.out.chg h3' h4').bel
    unfold Bx.val
    generalize zeroX.cs QA qc TA tc = cs at *
    generalize newE C D (1024, 1024) (64 * ((List.replicate 64 false).length : Nat)) = ee at *
    obtain ⟨W4, e4, x4, b4, _⟩ := boxX w3 cs
    have B4 := Lib.hid (bel_then B3.out b4)
    replace e4 := Lib.hid e4
    clear C1 h1' h2' h3' h4' S x4 b4 B3
    have hq : (ee != 0) = true := by simpa using hne
    go_wp2_with (first
      | (refine st_box rfl (.tmp 11) (.tmp 47) rfl rfl w3 _ rfl rfl cs L3.out.1 L3.out.2 rfl rfl W4 e4.out ?_))
    go_ret
    exact ⟨rfl, B4.out⟩
  · obtain ⟨hv, k1, k2⟩ := newE_0 hne
    have S3 := Lib.hid (S.out.chg h3' h4')
    have I0 := Lib.hid (start_i (z := 64) (by omega) HCB.out HDB.out HRU.out (by omega) k1 k2)
    have OX := Lib.hid I0.out.ok
    have L3 := Lib.hid (bx_len OX.out.c QA qc TA tc)
    replace h1' : KRow .u32 w3 QA qc (newX (1024, 1024) R).W.rep := h1'
    replace h2' : EvRow w3 TA tc (newX (1024, 1024) R).W.tr := h2'
    have ST := Lib.hid (show (newX (1024, 1024) R).is = 0 from rfl)
    obtain ⟨W4, e4, x4, b4, _⟩ := boxX w3 ((newX (1024, 1024) R).cs QA qc TA tc)
    have S4 := Lib.hid (S3.out.below b4)
    have C2 := SC.out (newX (1024, 1024) R) n p g h _ _ W4 QA qc TA tc OX.out (by simp [newX]) (by omega) S4.out.at_ (h1'.below b4) (h2'.below b4)
    unfold Bx.val at C2 ⊢
    replace C2 := Lib.hid C2
    have I2 := Lib.hid (slF_i n.toNat I0.out)
    generalize (newX (1024, 1024) R).cs QA qc TA tc = cs at *
    generalize newX (1024, 1024) R = x at *
    generalize newB (List.replicate (64 * 64) 0) (1024, 1024) C D = B at *
    generalize newT (List.replicate 64 false) (1024, 1024) = T at *
    replace e4 := Lib.hid e4
    replace x4 := Lib.hid x4
    clear C1 h1' h2' h3' h4' S S3 b4 HCB HDB HRU hne hv k1 k2
    go_wp2_with (first
      | (refine st_box rfl (.tmp 11) (.tmp 47) rfl rfl w3 _ rfl rfl cs L3.out.1 L3.out.2 rfl rfl W4 e4.out ?_)
      | (refine ld_box rfl (.tmp 11) rfl w3.heap.size rfl cs L3.out.1 x4.out ?_))
    refine C2.out.mono ?_; rintro e w5 ⟨QA, qc, TA, tc, rfl, h1', h2', h3', h4'⟩
    have S5 := Lib.hid (S4.out.chg h3' h4'.wide)
    have OY := Lib.hid I2.out.ok
    have IY := I2
    have YP := Lib.hid (fun (h : (slF T n.toNat x B).1.is ≠ 0) => slF_over (T := T) 10 (B := (slF T n.toNat x B).2.1) h)
    have YQ := Lib.hid (fun (h : (slF T n.toNat x B).1.is = 0) => slF_pos (T := T) (n := 10) (by omega) (B := (slF T n.toNat x B).2.1) h)
    have YL := Lib.hid (slF_le (T := T) 10 (slF T n.toNat x B).1 (slF T n.toNat x B).2.1)
    have HT := Lib.hid I2.out.tr
    clear I2 C2 e4 x4 L3
    generalize (slF T n.toNat x B).2.2 = kk at *
    generalize (slF T n.toNat x B).2.1 = B2 at *
    generalize (slF T n.toNat x B).1 = y at *
    have L5 := Lib.hid (bx_len OY.out.c QA qc TA tc)
    obtain ⟨W6, e6, x6, b6, z6⟩ := boxX w5 (y.cs QA qc TA tc)
    have S6 := Lib.hid (S5.out.below b6)
    have C3 := SC.out y 10 p g h B2 T W6 QA qc TA tc OY.out (by have := HT.out; omega) (by omega) S6.out.at_ (h1'.below b6) (h2'.below b6)
    rw [show ((10 : Int)).toNat = 10 from rfl] at C3
    unfold Bx.val at C3 ⊢
    replace C3 := Lib.hid C3
    generalize hcs : y.cs QA qc TA tc = ds at *
    replace hcs := Lib.hid hcs
    replace e6 := Lib.hid e6
    replace x6 := Lib.hid x6
    clear h1' h2' h3' h4' S5 b6
    go_wp2_with (first
      | (refine st_box rfl (.tmp 13) (.tmp 57) rfl rfl w5 _ rfl rfl ds L5.out.1 L5.out.2 rfl rfl W6 e6.out ?_)
      | (refine ld_box rfl (.tmp 13) rfl w5.heap.size rfl ds L5.out.1 x6.out ?_))
    refine C3.out.mono ?_; rintro e w7 ⟨QB, qd, TB, td, rfl, h1', h2', h3', h4'⟩
    have S7 := Lib.hid (S6.out.chg h3' h4'.wide)
    have X7 := Lib.hid (x6.out.chg h4' (x6.out.ne S6.out.at_.bytes (by decide)) (x6.out.ne S6.out.at_.bytes (by decide)))
    obtain ⟨v0, v1, v2, v3, v4, v5, v6, v7, v8, v9, v10, ec, ev⟩ := bx_cs OY.out.c
    by_cases hy : y.is = 0
    · have OZ := Lib.hid (slF_i (T := T) (lo := 1024) (hi := 2048) 10 (n0 := 0 + n.toNat) (x := y) (B := B2) IY.out).ok
      have k1 := YQ.out hy
      have k2 := YL.out
      have L7 := Lib.hid (bx_len OZ.out.c QB qd TB td)
      obtain ⟨W8, e8, x8, b8, z8⟩ := boxX w7 ((slF T 10 y B2).1.cs QB qd TB td)
      unfold Bx.val
      generalize (slF T 10 y B2).1.cs QB qd TB td = fs at *
      generalize (slF T 10 y B2).2.2 = k3 at *
      have X8 := X7.out.below b8
      rw [← hcs.out, ev] at X8
      have c16 := X8.cell 16
      simp only [List.getElem?_cons_succ, List.getElem?_cons_zero] at c16
      rw [hy] at c16
      have B8 := Lib.hid (bel_then S7.out.bel b8)
      replace e8 := Lib.hid e8
      clear h1' h2' h3' h4' C3 YP YQ YL hcs e6 x6 ec ev X8 X7 x8 b8 OZ
      go_wp2_with (first
        | (refine st_box rfl (.tmp 15) (.tmp 63) rfl rfl w7 _ rfl rfl fs L7.out.1 L7.out.2 rfl rfl W8 e8.out ?_))
      go_ret
      exact ⟨ret_bool (by simp; omega), B8.out⟩
    · have e10 := YP.out hy
      rw [e10] at h1' h2' h3' ⊢
      have L7 := Lib.hid (bx_len OY.out.c QB qd TB td)
      have hov := bx_ov OY.out
      obtain ⟨W8, e8, x8, b8, z8⟩ := boxX w7 (y.cs QB qd TB td)
      unfold Bx.val
      have X8 := X7.out.below b8
      rw [← hcs.out, ev] at X8
      rw [ev] at x8
      obtain ⟨c0, c1, c2, c3, c4, c5, c6, c7, c8, c9, c10, _, _, c13, c14, _, c16, c17⟩ := has18 X8
      obtain ⟨d0, d1, d2, d3, d4, d5, d6, d7, d8, d9, d10, _, _, d13, d14, _, d16, d17⟩ := has18 x8
      have E8 := eq8B v1 v2 v3 v4 v5 v6 v7 v8 W8
      have hy2 : (y.is == 0) = false := by simpa using hy
      have B8 := Lib.hid (bel_then S7.out.bel b8)
      generalize y.cs QB qd TB td = fs at *
      generalize y.is = is at *
      generalize y.wh = wh at *
      generalize y.W.ov = ov at *
      generalize y.W.tr.length = tl at *
      replace e8 := Lib.hid e8
      clear h1' h2' h3' h4' C3 YP YQ YL hcs e6 x6 ec ev X8 X7 x8 b8 hy e10
      go_wp2_with (first
        | (refine st_box rfl (.tmp 15) (.tmp 63) rfl rfl w7 _ rfl rfl fs L7.out.1 L7.out.2 rfl rfl W8 e8.out ?_))
      go_ret
      exact ⟨rfl, B8.out⟩
theorem vdead_long (AW : Hid AwB) (A0 : Option Addr) (ca cl : Nat) (D0 : Option Addr) (cd dl : Nat) (R0 : Option Addr) (cr rl : Nat) (n : Int)
    (m1 : cl ≤ maxLen) (m2 : dl ≤ maxLen) (m3 : rl ≤ maxLen) (hl : 500 < cl ∨ (cl ≤ 500 ∧ 500 < dl) ∨ (cl ≤ 500 ∧ dl ≤ 500 ∧ 50 < rl)) (w : World) :
    Calls Tryz.prog 8 #[.slice A0 cl ca, .slice D0 dl cd, .slice R0 rl cr, .int .u8 n] w fun e w' => e = .returned (.bool true) ∧ Below w.heap.size w w' := by
  unfold maxLen at m1 m2 m3
  rcases hl with h | ⟨h1, h⟩ | ⟨h1, h2, h⟩
  all_goals
    go_enter Tryz.func8, Tryz.ntmps8
    go_wp2_with fail
    refine (AW.out _).mono ?_; rintro e w1 ⟨rfl, hb1⟩
    have B1 := Lib.hid hb1; clear hb1
    go_wp2_with fail
    refine (AW.out _).mono ?_; rintro e w2 ⟨rfl, hb2⟩
    have B2 := Lib.hid (bel_then B1.out hb2); clear hb2
    go_wp2_with fail
    go_ret
    exact ⟨rfl, B2.out⟩
theorem vdead (AW : Hid AwB) (NC : Hid NewC) (SC : Hid SliceC) (A0 : Option Addr) (ca : Nat) (C : List Int) (D0 : Option Addr) (cd : Nat) (D : List Int) (R0 : Option Addr) (rl cr : Nat) (n : Int) (w : World) (rA : RowAt w A0 ca C) (rD : RowAt w D0 cd D) (rR : ∃ R : List Int, rl = R.length ∧ KRow .u32 w R0 cr R) (hn : (Lit.int .u8 n).wf = true) :
    Calls Tryz.prog 8 #[.slice A0 C.length ca, .slice D0 D.length cd, .slice R0 rl cr, .int .u8 n] w fun e w' => e = .returned (.bool true) ∧ Below w.heap.size w w' := by
  obtain ⟨R, rfl, rR⟩ := rR
  by_cases h : C.length ≤ 500 ∧ D.length ≤ 500 ∧ R.length ≤ 50
  · exact vdead_few AW NC SC A0 ca _ C D0 cd _ D R0 cr _ R n rfl rfl rfl h.1 h.2.1 h.2.2 (bounds_u8 hn) w rA rD rR
  · exact vdead_long AW A0 ca _ D0 cd _ R0 cr _ n (Nat.le_trans rA.1 rA.2.1) (Nat.le_trans rD.1 rD.2.1) (Nat.le_trans rR.1 rR.2.1) (by omega) w
end Go.Proofs.YtbgnkljeodandaaGreat.Mm
