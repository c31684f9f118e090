/- The statement BoxSame, walked, over the contracts of package box. -/
import Derived.Test.YtbgnkljeodandaaGreatKBxS
namespace Go.Proofs.YtbgnkljeodandaaGreat.Mm
open Go.ChangeShapes Go.WideShapes Go.ChangeAt Go.RowKit
set_option linter.unusedVariables false
set_option linter.unusedSimpArgs false

set_option maxRecDepth 10000 in
set_option maxHeartbeats 8000000 in
theorem vsame_few (AW : Hid AwB) (NC : Hid NewC) (SC : Hid SliceC) (A0 : Option Addr) (ca cl : Nat) (C : List Int) (D0 : Option Addr) (cd dl : Nat) (D : List Int) (R0 : Option Addr) (cr rl : Nat) (R : List Int) (n : Int)
    (hc : C.length = cl) (hd : D.length = dl) (hr : R.length = rl) (h1 : cl ≤ 500) (h2 : dl ≤ 500) (h3 : rl ≤ 50) (hn : 0 ≤ n ∧ n ≤ 255) (w : World) (rA : RowAt w A0 ca C) (rD : RowAt w D0 cd D) (rR : KRow .u32 w R0 cr R) :
    Calls Tryz.prog 7 #[.slice A0 cl ca, .slice D0 dl cd, .slice R0 rl cr, .int .u8 n] w fun e w' => e = .returned (.bool true) ∧ Below w.heap.size w w' := by
  have B0 := Lib.hid (Below.refl w.heap.size w)
  have RA := Lib.hid rA
  have RD := Lib.hid rD
  have RR := Lib.hid rR
  have HCB := Lib.hid rA.2.2.1
  have HDB := Lib.hid rD.2.2.1
  have HRU := Lib.hid (krow_u rR)
  clear rA rD rR
  obtain ⟨n0, n1⟩ := hn
  go_enter Tryz.func7, Tryz.ntmps7
  go_wp2_with fail
  refine (AW.out _).mono ?_; rintro e w1 ⟨rfl, hb1⟩
  have B1 := Lib.hid hb1; clear hb1
  go_wp2_with fail
  refine (new_m w 4096 64 (by decide) (by decide) (by decide) B1.out).mono ?_; rintro e w2 ⟨p, g, h, rfl, s, _⟩
  have S2 := Lib.hid s; clear s
  go_wp2_with fail
  refine (new_m w 8192 128 (by decide) (by decide) (by decide) S2.out.bel).mono ?_; rintro e w3 ⟨p2, g2, h2, rfl, s, l1, l2, l3, hb⟩
  have T3 := Lib.hid (Tw2.of S2.out s l1 l2 l3 hb)
  clear s l1 l2 l3 hb S2
  have T4 := Lib.hid (T3.out.below (bel_al (Below.refl _ w3) (.cells #[.int .i64 1024, .int .i64 1024] 31)))
  have X4 : HasB (w3.alloc (.cells #[.int .i64 1024, .int .i64 1024] 31)) w3.heap.size 31 [.int .i64 1024, .int .i64 1024] := HasB.new w3 31 [.int .i64 1024, .int .i64 1024]
  replace X4 := Lib.hid X4
  clear T3
  have C1 := Lib.hid (fun w' (b : Below w.heap.size w w') (m : MemAt w' p g h (List.replicate (64 * 64) 0) (List.replicate 64 false)) => NC.out p g h _ _ (1024, 1024) A0 ca cl C D0 cd dl D R0 cr rl R w' (by unfold RgI; omega) hc (by omega) hd (by omega) hr (by omega) m (RA.out.below b) (RD.out.below b) (RR.out.below b) (RA.out.offG T4.out.a.g_) (RD.out.offG T4.out.a.g_))
  have C2 := Lib.hid (fun w' (b : Below w.heap.size w w') (m : MemAt w' p2 g2 h2 (List.replicate (64 * 128) 0) (List.replicate 128 false)) => NC.out p2 g2 h2 _ _ (1024, 1024) A0 ca cl C D0 cd dl D R0 cr rl R w' (by unfold RgI; omega) hc (by omega) hd (by omega) hr (by omega) m (RA.out.below b) (RD.out.below b) (RR.out.below b) (RA.out.offG T4.out.b.g_) (RD.out.offG T4.out.b.g_))
  simp only at C1 C2
  go_wp2_with fail
  generalize hw4 : w3.alloc (.cells #[.int .i64 1024, .int .i64 1024] 31) = w4 at *
  clear hw4
  refine (C1.out _ T4.out.a.bel T4.out.a.at_).mono ?_; rintro e w5 hN
  obtain ⟨QA, qc, TA, tc, rfl, q1, q2, q3, q4⟩ := new_u (by omega) (by omega) hN
  clear hN C1
  have I0 := Lib.hid (boxO_i (z := 64) (code := C) (data := D) (rep := R) (by omega) HCB.out HDB.out HRU.out (by omega))
  have I0' := Lib.hid (boxO_i (z := 128) (code := C) (data := D) (rep := R) (by omega) HCB.out HDB.out HRU.out (by omega))
  have RG := Lib.hid (zonO_rg (newK C D) (z := 64) (by omega))
  have RG' := Lib.hid (zonO_rg (newK C D) (z := 128) (by omega))
  have RB := Lib.hid (memO_rg (code := C) (data := D) (z := 64) (z' := 128) (by omega) (by omega))
  have C2' := Lib.hid (fun w' (b : Below w.heap.size w w') (m : MemAt w' p2 g2 h2 (List.replicate (64 * 128) 0) (List.replicate 128 false)) => (C2.out w' b m).mono (fun e w'' hN => new_u (by omega) (by omega) hN))
  clear C2
  generalize newK C D = E at *
  have T5 := Lib.hid (T4.out.chgA q3 q4)
  have X5 := Lib.hid (hasb_pass X4.out T4.out.a.at_ q4 (by decide) (by decide))
  have hT := boxO_tr E R
  generalize boxO E R = x at *
  generalize memO E 64 C D = MA at *
  generalize memO E 128 C D = MB at *
  generalize zonO E 64 = ZA at *
  generalize zonO E 128 = ZB at *
  generalize loO E = lo at *
  generalize hiO E = hi at *
  have L5 := Lib.hid (bx_len I0.out.ok.c QA qc TA tc)
  obtain ⟨W6, e6, x6, b6, _⟩ := boxX w5 (x.cs QA qc TA tc)
  have T6 := Lib.hid (T5.out.below b6)
  have X6 := Lib.hid (X5.out.below b6)
  have K6 := Lib.hid (q1.below b6)
  have E6 := Lib.hid (q2.below b6)
  have Y6 := Lib.hid x6
  unfold Bx.val
  replace e6 := Lib.hid e6
  clear q1 q2 q3 q4 T4 T5 X4 X5 x6 b6
  generalize hcs : x.cs QA qc TA tc = cs at *
  replace hcs := Lib.hid hcs
  have xc := X6.out.cell 0
  have xd := X6.out.cell 1
  simp only [List.getElem?_cons_succ, List.getElem?_cons_zero] at xc xd
  go_wp2_with (first
    | (refine st_box rfl (.tmp 14) (.tmp 57) rfl rfl w5 _ rfl rfl cs L5.out.1 L5.out.2 rfl rfl W6 e6.out ?_))
  refine (C2'.out _ T6.out.b.bel T6.out.b.at_).mono ?_; rintro e w7 ⟨QB, qd, TB, td, rfl, q1, q2, q3, q4⟩
  have T7 := Lib.hid (T6.out.chgB q3 q4)
  have Y7 := Lib.hid (hasb_pass Y6.out T6.out.b.at_ q4 (by decide) (by decide))
  have K7 := Lib.hid (krow_pass K6.out T6.out.b.at_ q4)
  have E7 := Lib.hid (evrow_pass E6.out T6.out.b.at_ q4)
  have L7 := Lib.hid (bx_len I0'.out.ok.c QB qd TB td)
  obtain ⟨W8, e8, x8, b8, _⟩ := boxX w7 (x.cs QB qd TB td)
  have T8 := Lib.hid (T7.out.below b8)
  have Y8 := Lib.hid (Y7.out.below b8)
  have K8 := Lib.hid (K7.out.below b8)
  have E8 := Lib.hid (E7.out.below b8)
  have J8 := Lib.hid (q1.below b8)
  have F8 := Lib.hid (q2.below b8)
  have Z8 := Lib.hid x8
  have C3 := SC.out x n p g h MA ZA W8 QA qc TA tc I0.out.ok (by omega) (by omega) T8.out.a.at_ K8.out E8.out
  have C4 := Lib.hid (fun w' (m : MemAt w' p2 g2 h2 MB ZB) (k : KRow .u32 w' QB qd x.W.rep) (v : EvRow w' TB td x.W.tr) => SC.out x n p2 g2 h2 MB ZB w' QB qd TB td I0'.out.ok (by omega) (by omega) m k v)
  unfold Bx.val at C3 C4 ⊢
  rw [hcs.out] at C3
  replace C3 := Lib.hid C3
  replace e8 := Lib.hid e8
  generalize hds : x.cs QB qd TB td = ds at *
  replace hds := Lib.hid hds
  clear q1 q2 q3 q4 C2' T6 T7 X6 Y6 Y7 K6 K7 K8 E6 E7 E8 x8 b8 xc xd e6 L5
  have L5 := Lib.hid (bx_len I0.out.ok.c QA qc TA tc)
  rw [hcs.out] at L5
  go_wp2_with (first
    | (refine st_box rfl (.tmp 16) (.tmp 67) rfl rfl w7 _ rfl rfl ds L7.out.1 L7.out.2 rfl rfl W8 e8.out ?_)
    | (refine ld_box rfl (.tmp 14) rfl w5.heap.size rfl cs L5.out.1 Y8.out ?_))
  refine C3.out.mono ?_; rintro e w9 ⟨QC, qe, TC, te, rfl, q1, q2, q3, q4⟩
  obtain ⟨sm1, sm2, _⟩ := slF_sim RG.out RG'.out n.toNat RB.out I0.out
  have IY := Lib.hid (slF_i n.toNat I0.out).ok
  have SM1 := Lib.hid sm1
  have SM2 := Lib.hid sm2
  have T9 := Lib.hid (T8.out.chgA q3 q4.wide)
  have Z9 := Lib.hid (hasb_pass Z8.out T8.out.a.at_ q4.wide (by decide) (by decide))
  have J9 := Lib.hid (krow_pass J8.out T8.out.a.at_ q4.wide)
  have F9 := Lib.hid (evrow_pass F8.out T8.out.a.at_ q4.wide)
  clear sm1 sm2 q1 q2 q3 q4 C3 e8 T8 Y8 Z8 J8 F8 L5 hcs
  generalize (slF ZA n.toNat x MA).2.2 = kk at *
  generalize (slF ZA n.toNat x MA).2.1 = MA2 at *
  generalize (slF ZA n.toNat x MA).1 = y at *
  have L9 := Lib.hid (bx_len IY.out.c QC qe TC te)
  obtain ⟨W10, e10, x10, b10, _⟩ := boxX w9 (y.cs QC qe TC te)
  have T10 := Lib.hid (T9.out.below b10)
  have Z10 := Lib.hid (Z9.out.below b10)
  have Y10 := Lib.hid x10
  have C5 := Lib.hid (C4.out W10 T10.out.b.at_ (J9.out.below b10) (F9.out.below b10))
  unfold Bx.val
  generalize hfs : y.cs QC qe TC te = fs at *
  replace hfs := Lib.hid hfs
  replace e10 := Lib.hid e10
  clear C4 x10 b10 J9 F9 T9 Z9
  go_wp2_with (first
    | (refine st_box rfl (.tmp 18) (.tmp 75) rfl rfl w9 _ rfl rfl fs L9.out.1 L9.out.2 rfl rfl W10 e10.out ?_)
    | (refine ld_box rfl (.tmp 16) rfl w7.heap.size rfl ds L7.out.1 Z10.out ?_))
  refine C5.out.mono ?_; rintro e w11 ⟨QD, qf, TD, tf, rfl, q1, q2, q3, q4⟩
  rw [← SM1.out, ← SM2.out]
  have T11 := Lib.hid (T10.out.chgB q3 q4.wide)
  have Y11 := Lib.hid (hasb_pass Y10.out T10.out.b.at_ q4.wide (by decide) (by decide))
  have L11 := Lib.hid (bx_len IY.out.c QD qf TD tf)
  obtain ⟨v0, v1, v2, v3, v4, v5, v6, v7, v8, v9, v10, ec, ev⟩ := bx_cs IY.out.c
  obtain ⟨W12, e12, x12, b12, _⟩ := boxX w11 (y.cs QD qf TD tf)
  unfold Bx.val
  have X12 := Y11.out.below b12
  rw [← hfs.out, ev] at X12
  rw [ev] at x12
  obtain ⟨c0, c1, c2, c3, c4, c5, c6, c7, c8, c9, c10, _, _, c13, _, c15, c16, c17⟩ := has18 X12
  obtain ⟨d0, d1, d2, d3, d4, d5, d6, d7, d8, d9, d10, _, _, d13, _, d15, d16, d17⟩ := has18 x12
  have EQ8 := eq8B v1 v2 v3 v4 v5 v6 v7 v8 W12
  have B12 := Lib.hid (bel_then T11.out.a.bel b12)
  generalize y.cs QD qf TD tf = gs at *
  generalize y.is = is at *
  generalize y.wh = wh at *
  generalize y.W.cd = cdv at *
  generalize y.W.tr.length = tl at *
  replace e12 := Lib.hid e12
  clear q1 q2 q3 q4 C5 hfs e10 x12 ec ev X12 b12 T10 T11 Z10 Y10 Y11 hds SM1 SM2 RB RG RG' I0 I0' IY
  go_wp2_with (first
    | (refine st_box rfl (.tmp 20) (.tmp 83) rfl rfl w11 _ rfl rfl gs L11.out.1 L11.out.2 rfl rfl W12 e12.out ?_))
  go_ret
  exact ⟨rfl, B12.out⟩
theorem vsame_long (AW : Hid AwB) (A0 : Option Addr) (ca cl : Nat) (D0 : Option Addr) (cd dl : Nat) (R0 : Option Addr) (cr rl : Nat) (n : Int)
    (m1 : cl ≤ maxLen) (m2 : dl ≤ maxLen) (m3 : rl ≤ maxLen) (hl : 500 < cl ∨ (cl ≤ 500 ∧ 500 < dl) ∨ (cl ≤ 500 ∧ dl ≤ 500 ∧ 50 < rl)) (w : World) :
    Calls Tryz.prog 7 #[.slice A0 cl ca, .slice D0 dl cd, .slice R0 rl cr, .int .u8 n] w fun e w' => e = .returned (.bool true) ∧ Below w.heap.size w w' := by
  unfold maxLen at m1 m2 m3
  rcases hl with h | ⟨h1, h⟩ | ⟨h1, h2, h⟩
  all_goals
    go_enter Tryz.func7, Tryz.ntmps7
    go_wp2_with fail
    refine (AW.out _).mono ?_; rintro e w1 ⟨rfl, hb1⟩
    have B1 := Lib.hid hb1; clear hb1
    go_wp2_with fail
    refine (AW.out _).mono ?_; rintro e w2 ⟨rfl, hb2⟩
    have B2 := Lib.hid (bel_then B1.out hb2); clear hb2
    go_wp2_with fail
    go_ret
    exact ⟨rfl, B2.out⟩
theorem vsame (AW : Hid AwB) (NC : Hid NewC) (SC : Hid SliceC) (A0 : Option Addr) (ca : Nat) (C : List Int) (D0 : Option Addr) (cd : Nat) (D : List Int) (R0 : Option Addr) (rl cr : Nat) (n : Int) (w : World) (rA : RowAt w A0 ca C) (rD : RowAt w D0 cd D) (rR : ∃ R : List Int, rl = R.length ∧ KRow .u32 w R0 cr R) (hn : (Lit.int .u8 n).wf = true) :
    Calls Tryz.prog 7 #[.slice A0 C.length ca, .slice D0 D.length cd, .slice R0 rl cr, .int .u8 n] w fun e w' => e = .returned (.bool true) ∧ Below w.heap.size w w' := by
  obtain ⟨R, rfl, rR⟩ := rR
  by_cases h : C.length ≤ 500 ∧ D.length ≤ 500 ∧ R.length ≤ 50
  · exact vsame_few AW NC SC A0 ca _ C D0 cd _ D R0 cr _ R n rfl rfl rfl h.1 h.2.1 h.2.2 (bounds_u8 hn) w rA rD rR
  · exact vsame_long AW A0 ca _ D0 cd _ R0 cr _ n (Nat.le_trans rA.1 rA.2.1) (Nat.le_trans rD.1 rD.2.1) (Nat.le_trans rR.1 rR.2.1) (by omega) w
end Go.Proofs.YtbgnkljeodandaaGreat.Mm
