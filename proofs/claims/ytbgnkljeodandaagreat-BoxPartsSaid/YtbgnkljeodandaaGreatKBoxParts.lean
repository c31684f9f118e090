/- The statement BoxParts, walked, over the contracts of package box. -/
import Derived.Test.YtbgnkljeodandaaGreatKBxS
namespace Go.Proofs.YtbgnkljeodandaaGreat.Mm
open Go.ChangeShapes Go.WideShapes Go.ChangeAt Go.RowKit
set_option linter.unusedVariables false
set_option linter.unusedSimpArgs false

set_option maxRecDepth 10000 in
set_option maxHeartbeats 16000000 in
theorem vparts_few (AW : Hid AwB) (NC : Hid NewC) (SC : Hid SliceC) (A0 : Option Addr) (ca cl : Nat) (C : List Int) (D0 : Option Addr) (cd dl : Nat) (D : List Int) (R0 : Option Addr) (cr rl : Nat) (R : List Int) (u v : Int)
    (hc : C.length = cl) (hd : D.length = dl) (hr : R.length = rl) (h1 : cl ≤ 500) (h2 : dl ≤ 500) (h3 : rl ≤ 50) (hu : 0 ≤ u ∧ u ≤ 255) (hv : 0 ≤ v ∧ v ≤ 255) (w : World) (rA : RowAt w A0 ca C) (rD : RowAt w D0 cd D) (rR : KRow .u32 w R0 cr R) :
    Calls Tryz.prog 5 #[.slice A0 cl ca, .slice D0 dl cd, .slice R0 rl cr, .int .u8 u, .int .u8 v] w fun e w' => e = .returned (.bool true) ∧ Below w.heap.size w w' := by
  have B0 := Lib.hid (Below.refl w.heap.size w)
  have RA := Lib.hid rA
  have RD := Lib.hid rD
  have RR := Lib.hid rR
  have HCB := Lib.hid rA.2.2.1
  have HDB := Lib.hid rD.2.2.1
  have HRU := Lib.hid (krow_u rR)
  clear rA rD rR
  obtain ⟨u0, u1⟩ := hu
  obtain ⟨v0, v1⟩ := hv
  go_enter Tryz.func5, Tryz.ntmps5
  go_wp2_with fail
  refine (AW.out _).mono ?_; rintro e w1 ⟨rfl, hb1⟩
  have B1 := Lib.hid hb1; clear hb1
  go_wp2_with fail
  refine (new_m w 4096 64 (by decide) (by decide) (by decide) B1.out).mono ?_; rintro e w2 ⟨p, g, h, rfl, s, _⟩
  have S2 := Lib.hid s; clear s
  go_wp2_with fail
  refine (new_m w 4096 64 (by decide) (by decide) (by decide) S2.out.bel).mono ?_; rintro e w3 ⟨p2, g2, h2, rfl, s, l1, l2, l3, hb⟩
  have T3 := Lib.hid (Tw2.of S2.out s l1 l2 l3 hb)
  clear s l1 l2 l3 hb S2
  have T4 := Lib.hid (T3.out.below (bel_al (Below.refl _ w3) (.cells #[.int .i64 1024, .int .i64 1024] 31)))
  have X4 : HasB (w3.alloc (.cells #[.int .i64 1024, .int .i64 1024] 31)) w3.heap.size 31 [.int .i64 1024, .int .i64 1024] := HasB.new w3 31 [.int .i64 1024, .int .i64 1024]
  replace X4 := Lib.hid X4
  clear T3
  have C1 := Lib.hid (fun w' (b : Below w.heap.size w w') (m : MemAt w' p g h (List.replicate (64 * 64) 0) (List.replicate 64 false)) => NC.out p g h _ _ (1024, 1024) A0 ca cl C D0 cd dl D R0 cr rl R w' (by unfold RgI; omega) hc (by omega) hd (by omega) hr (by omega) m (RA.out.below b) (RD.out.below b) (RR.out.below b) (RA.out.offG T4.out.a.g_) (RD.out.offG T4.out.a.g_))
  have C2 := Lib.hid (fun w' (b : Below w.heap.size w w') (m : MemAt w' p2 g2 h2 (List.replicate (64 * 64) 0) (List.replicate 64 false)) => NC.out p2 g2 h2 _ _ (1024, 1024) A0 ca cl C D0 cd dl D R0 cr rl R w' (by unfold RgI; omega) hc (by omega) hd (by omega) hr (by omega) m (RA.out.below b) (RD.out.below b) (RR.out.below b) (RA.out.offG T4.out.b.g_) (RD.out.offG T4.out.b.g_))
  simp only at C1 C2
  go_wp2_with fail
  generalize hw4 : w3.alloc (.cells #[.int .i64 1024, .int .i64 1024] 31) = w4 at *
  clear hw4
  refine (C1.out _ T4.out.a.bel T4.out.a.at_).mono ?_; rintro e w5 hN
  obtain ⟨QA, qc, TA, tc, rfl, q1, q2, q3, q4⟩ := new_u (by omega) (by omega) hN
  clear hN C1
  have I0 := Lib.hid (boxO_i (z := 64) (code := C) (data := D) (rep := R) (by omega) HCB.out HDB.out HRU.out (by omega))
  have RG := Lib.hid (zonO_rg (newK C D) (z := 64) (by omega))
  have C2' := Lib.hid (fun w' (b : Below w.heap.size w w') (m : MemAt w' p2 g2 h2 (List.replicate (64 * 64) 0) (List.replicate 64 false)) => (C2.out w' b m).mono (fun e w'' hN => new_u (by omega) (by omega) hN))
  clear C2
  generalize newK C D = E at *
  have T5 := Lib.hid (T4.out.chgA q3 q4)
  have X5 := Lib.hid (hasb_pass X4.out T4.out.a.at_ q4 (by decide) (by decide))
  have hT := boxO_tr E R
  generalize boxO E R = x at *
  generalize memO E 64 C D = MA at *
  generalize zonO E 64 = ZA at *
  have HLO := Lib.hid (show E = 0 → loO E = 1024 ∧ hiO E = 2048 from fun h => ⟨by unfold loO; rw [if_pos h], by unfold hiO; rw [if_pos h]⟩)
  generalize loO E = lo at *
  generalize hiO E = hi at *
  have L5 := Lib.hid (bx_len I0.out.ok.c QA qc TA tc)
  obtain ⟨W6, e6, x6, b6, _⟩ := boxX w5 (x.cs QA qc TA tc)
  have T6 := Lib.hid (T5.out.below b6)
  have X6 := Lib.hid (X5.out.below b6)
  have K6 := Lib.hid (q1.below b6)
  have E6 := Lib.hid (q2.below b6)
  have Y6 := Lib.hid x6
  unfold Bx.val
  replace e6 := Lib.hid e6
  clear q1 q2 q3 q4 T4 T5 X4 X5 x6 b6
  generalize hcs : x.cs QA qc TA tc = cs at *
  replace hcs := Lib.hid hcs
  have xc := X6.out.cell 0
  have xd := X6.out.cell 1
  simp only [List.getElem?_cons_succ, List.getElem?_cons_zero] at xc xd
  go_wp2_with (first
    | (refine st_box rfl (.tmp 16) (.tmp 65) rfl rfl w5 _ rfl rfl cs L5.out.1 L5.out.2 rfl rfl W6 e6.out ?_))
  refine (C2'.out _ T6.out.b.bel T6.out.b.at_).mono ?_; rintro e w7 ⟨QB, qd, TB, td, rfl, q1, q2, q3, q4⟩
  have T7 := Lib.hid (T6.out.chgB q3 q4)
  have Y7 := Lib.hid (hasb_pass Y6.out T6.out.b.at_ q4 (by decide) (by decide))
  have K7 := Lib.hid (krow_pass K6.out T6.out.b.at_ q4)
  have E7 := Lib.hid (evrow_pass E6.out T6.out.b.at_ q4)
  have L7 := Lib.hid (bx_len I0.out.ok.c QB qd TB td)
  obtain ⟨W8, e8, x8, b8, -⟩ := boxX w7 (x.cs QB qd TB td)
  have T8 := Lib.hid (T7.out.below b8)
  have Y8 := Lib.hid (Y7.out.below b8)
  have K8 := Lib.hid (K7.out.below b8)
  have E8 := Lib.hid (E7.out.below b8)
  have J8 := Lib.hid (q1.below b8)
  have F8 := Lib.hid (q2.below b8)
  have Z8 := Lib.hid x8
  unfold Bx.val
  replace e8 := Lib.hid e8
  generalize hds : x.cs QB qd TB td = ds at *
  replace hds := Lib.hid hds
  clear q1 q2 q3 q4 C2' T6 T7 X6 Y6 Y7 K6 K7 E6 E7 x8 b8 xc xd e6
  have hE : E = 0 ∨ E ≠ 0 := Classical.em _
  rcases hE with hE | hE
  · obtain ⟨rfl, rfl⟩ := HLO.out hE
    subst hE
    have hsum : (u + v).toNat = u.toNat + v.toNat := by omega
    have C3 := SC.out x (u + v) p g h MA ZA W8 QA qc TA tc I0.out.ok (by omega) (by omega) T8.out.a.at_ K8.out E8.out
    have C4 := Lib.hid (fun w' (m : MemAt w' p2 g2 h2 MA ZA) (k : KRow .u32 w' QB qd x.W.rep) (f : EvRow w' TB td x.W.tr) => SC.out x u p2 g2 h2 MA ZA w' QB qd TB td I0.out.ok (by omega) (by omega) m k f)
    unfold Bx.val at C3 C4
    rw [hcs.out] at C3
    rw [hsum] at C3
    rw [hds.out] at C4
    replace C3 := Lib.hid C3
    have IY1 := Lib.hid (slF_i (u.toNat + v.toNat) I0.out)
    have IY2 := Lib.hid (slF_i u.toNat I0.out)
    have PM := Lib.hid (slF_more (T := ZA) v.toNat u.toNat x MA)
    have PP := Lib.hid (slF_parts (T := ZA) v.toNat u.toNat x MA)
    have PL := slF_le (T := ZA) u.toNat x MA
    clear K8 E8 HLO
    go_wp2_with (first
      | (refine st_box rfl (.tmp 18) (.tmp 75) rfl rfl w7 _ rfl rfl ds L7.out.1 L7.out.2 rfl rfl W8 e8.out ?_)
      | (refine ld_box rfl (.tmp 16) rfl w5.heap.size rfl cs L5.out.1 Y8.out ?_))
    refine C3.out.mono ?_; rintro e w9 ⟨QC, qe, TC, te, rfl, q1, q2, q3, q4⟩
    have T9 := Lib.hid (T8.out.chgA q3 q4.wide)
    have Z9 := Lib.hid (hasb_pass Z8.out T8.out.a.at_ q4.wide (by decide) (by decide))
    have J9 := Lib.hid (krow_pass J8.out T8.out.a.at_ q4.wide)
    have F9 := Lib.hid (evrow_pass F8.out T8.out.a.at_ q4.wide)
    clear q1 q2 q3 q4 C3 e8 T8 Y8 Z8 J8 F8 L5 hcs
    generalize slF ZA (u.toNat + v.toNat) x MA = P1 at *
    obtain ⟨y1, M1, k1⟩ := P1
    simp only at T9 IY1 PM PP ⊢
    have L9 := Lib.hid (bx_len IY1.out.ok.c QC qe TC te)
    obtain ⟨W10, e10, x10, b10, -⟩ := boxX w9 (y1.cs QC qe TC te)
    have T10 := Lib.hid (T9.out.below b10)
    have Z10 := Lib.hid (Z9.out.below b10)
    have Y10 := Lib.hid x10
    have C5 := Lib.hid (C4.out W10 T10.out.b.at_ (J9.out.below b10) (F9.out.below b10))
    obtain ⟨c0, c1, c2, c3, c4, c5, c6, c7, c8, c9, c10, ec1, ev1⟩ := bx_cs IY1.out.ok.c
    have EV1 := Lib.hid (ev1 QC qe TC te)
    have EC1 := Lib.hid ec1
    unfold Bx.val
    generalize y1.cs QC qe TC te = fs at *
    replace e10 := Lib.hid e10
    clear C4 x10 b10 J9 F9 T9 Z9 ev1 ec1
    go_wp2_with (first
      | (refine st_box rfl (.tmp 20) (.tmp 95) rfl rfl w9 _ rfl rfl fs L9.out.1 L9.out.2 rfl rfl W10 e10.out ?_)
      | (refine ld_box rfl (.tmp 18) rfl w7.heap.size rfl ds L7.out.1 Z10.out ?_))
    refine C5.out.mono ?_; rintro e w11 ⟨QD, qf, TD, tf, rfl, q1, q2, q3, q4⟩
    have T11 := Lib.hid (T10.out.chgB q3 q4.wide)
    have Y11 := Lib.hid (hasb_pass Y10.out T10.out.b.at_ q4.wide (by decide) (by decide))
    generalize hP2 : slF ZA u.toNat x MA = P2 at *
    obtain ⟨y2, M2, k2⟩ := P2
    simp only at T11 IY2 PM PP PL q1 q2 ⊢
    have L11 := Lib.hid (bx_len IY2.out.ok.c QD qf TD tf)
    obtain ⟨W12, e12, x12, b12, -⟩ := boxX w11 (y2.cs QD qf TD tf)
    have T12 := Lib.hid (T11.out.below b12)
    have Y12 := Lib.hid (Y11.out.below b12)
    have Z12 := Lib.hid x12
    have J12 := Lib.hid (q1.below b12)
    have F12 := Lib.hid (q2.below b12)
    obtain ⟨d0, d1, d2, d3, d4, d5, d6, d7, d8, d9, d10, ec2, ev2⟩ := bx_cs IY2.out.ok.c
    have EV2 := Lib.hid (ev2 QD qf TD tf)
    have C6 := SC.out y2 v p2 g2 h2 M2 ZA W12 QD qf TD tf IY2.out.ok (by have := IY2.out.tr; omega) (by omega) T12.out.b.at_ J12.out F12.out
    unfold Bx.val at C6 ⊢
    generalize y2.cs QD qf TD tf = gs at *
    replace C6 := Lib.hid C6
    replace e12 := Lib.hid e12
    clear q1 q2 q3 q4 C5 Z10 Y10 e10 L9 x12 b12 T10 T11 Y11 J12 F12 ev2 ec2 hP2 hds L7
    have yy := Y12.out
    rw [EV1.out] at yy
    have s16 := yy.cell 16
    simp only [List.getElem?_cons_succ, List.getElem?_cons_zero] at s16
    have zz := Z12.out
    rw [EV2.out] at zz
    have z16 := zz.cell 16
    simp only [List.getElem?_cons_succ, List.getElem?_cons_zero] at z16
    clear yy zz
    by_cases hk : k2 = u.toNat
    · have hkd : ((k2 : Int) == u) = true := by simp; omega
      have hk2 : (k2 : Int) ≤ 255 := by omega
      have hP := Lib.hid (PP.out hk)
      have KL3 := slF_le (T := ZA) v.toNat y2 M2
      have IY3 := Lib.hid (slF_i v.toNat IY2.out)
      have HK := Lib.hid hk
      clear PM PP hk s16 z16
      go_wp2_with (first
        | (refine st_box rfl (.tmp 22) (.tmp 103) rfl rfl w11 _ rfl rfl gs L11.out.1 L11.out.2 rfl rfl W12 e12.out ?_)
        | (refine ld_box rfl (.tmp 22) rfl w11.heap.size rfl gs L11.out.1 Z12.out ?_))
      refine C6.out.mono ?_; rintro e w13 ⟨QE, qg, TE, tg, rfl, q1, q2, q3, q4⟩
      have T13 := Lib.hid (T12.out.chgB q3 q4.wide)
      have Y13 := Lib.hid (hasb_pass Y12.out T12.out.b.at_ q4.wide (by decide) (by decide))
      clear q1 q2 q3 q4 C6 e12 Z12 Y12 T12 EV2 L11
      generalize slF ZA v.toNat y2 M2 = P3 at *
      obtain ⟨y3, M3, k3⟩ := P3
      simp only at T13 IY3 hP KL3 ⊢
      have hk3 : (k3 : Int) ≤ 255 := by omega
      have L13 := Lib.hid (bx_len IY3.out.ok.c QE qg TE tg)
      obtain ⟨W14, e14, x14, b14, -⟩ := boxX w13 (y3.cs QE qg TE tg)
      have T14 := Lib.hid (T13.out.below b14)
      have Y14 := Y13.out.below b14
      rw [EV1.out] at Y14
      obtain ⟨f0, f1, f2, f3, f4, f5, f6, f7, f8, f9, f10, ec3, ev3⟩ := bx_cs IY3.out.ok.c
      have X14 := x14
      rw [ev3] at X14
      replace X14 := Lib.hid X14
      replace Y14 := Lib.hid Y14
      unfold Bx.val
      generalize y3.cs QE qg TE tg = hs at *
      replace e14 := Lib.hid e14
      have EC3 := Lib.hid ec3
      have B14 := Lib.hid T14.out.a.bel
      clear x14 b14 T13 Y13 ec3 ev3 EV1
      rcases hP.out with hL | ⟨r1, r2, r3⟩
      · obtain ⟨e1, e2, e3⟩ : y1 = y3 ∧ M1 = M3 ∧ k1 = u.toNat + k3 := by simpa using hL
        have hk1 : (k2 : Int) + (k3 : Int) = (k1 : Int) := by have := HK.out; omega
        clear hL hP HK e3
        have ecc := EC1.out
        rw [e1, EC3.out] at ecc
        simp only [Cp.mk.injEq, List.cons.injEq, and_true] at ecc
        obtain ⟨rfl, ⟨rfl, rfl, rfl, rfl, rfl, rfl, rfl, rfl⟩, rfl, rfl⟩ := ecc
        subst e1 e2
        have LL : ((M1.drop 1024).take 1024).length = 1024 := by rw [List.length_take, List.length_drop, IY1.out.len]; have := RG.out.top; omega
        have LB : Go.Proofs.YtbgnkljeodandaaGreat.Mm.Bytes ((M1.drop 1024).take 1024) := take_byte (drop_byte IY1.out.byt _) _
        have LBH := Lib.hid LB
        clear LB
        have W1 := RG.out.wh 1024 1024 (by omega)
        rw [decide_eq_true (by omega)] at W1
        replace W1 := Lib.hid W1
        obtain ⟨p0, p1, p2', p3, p4, p5, p6, p7, p8, p9, p10, -, -, p13, -, -, p16, p17⟩ := has18 Y14.out
        obtain ⟨t0, t1, t2, t3, t4, t5, t6, t7, t8, t9, t10, -, -, t13, -, -, t16, t17⟩ := has18 X14.out
        have EQ8 := eq8B f1 f2 f3 f4 f5 f6 f7 f8 W14
        have HIS : (y1.is = 0 ∧ (k1 : Int) < u + v) ∨ (y1.is = 0 ∧ ¬ (k1 : Int) < u + v) ∨ y1.is ≠ 0 := by omega
        generalize y1.is = is at *
        generalize y1.wh = wh at *
        generalize y1.W.tr.length = tl at *
        clear IY3 KL3 EC1 EC3 X14 Y14
        rcases HIS with ⟨rfl, hd⟩ | ⟨rfl, hd⟩ | hd
        · have dd : decide ((k1 : Int) < u + v) = true := by simp; omega
          clear hd
          iterate 30 (first | (go_big_may; refine st_box rfl (.tmp 24) (.tmp 115) rfl rfl w13 _ rfl rfl hs L13.out.1 L13.out.2 rfl rfl W14 e14.out ?_) | go_values | go_skip | go_guarded | go_step | go_upon | go_back | skip)
          go_wp2_with fail
          go_ret
          exact ⟨rfl, B14.out⟩
        · have dd : decide ((k1 : Int) < u + v) = false := by simp; omega
          clear hd
          iterate 30 (first | (go_big_may; refine st_box rfl (.tmp 24) (.tmp 115) rfl rfl w13 _ rfl rfl hs L13.out.1 L13.out.2 rfl rfl W14 e14.out ?_) | go_values | go_skip | go_guarded | go_step | go_upon | go_back | skip)
          go_wp2_with fail
          refine (read_i T14.out.a.at_ 1024 1024 W1.out).mono ?_; rintro e w15 ⟨rfl, hr15, hb15⟩
          have T15 := Lib.hid (T14.out.below hb15)
          have HR15 := Lib.hid hr15
          clear hr15 hb15 e14 p0 p1 p2' p3 p4 p5 p6 p7 p8 p9 p10 p13 p16 p17 t0 t1 t2 t3 t4 t5 t6 t7 t8 t9 t10 t13 t16 t17 EQ8
          go_wp2_with fail
          refine (read_i T15.out.b.at_ 1024 1024 W1.out).mono ?_; rintro e w16 ⟨rfl, hr16, hb16⟩
          have hr15 := HR15.out.below hb16
          rw [show (1024 : Int).toNat = 1024 from rfl] at hr15 hr16
          have B16 := Lib.hid (T15.out.below hb16).a.bel
          have r15 := row_blk LBH.out (by rw [LL]; unfold maxLen; omega) hr15
          have r16 := row_blk LBH.out (by rw [LL]; unfold maxLen; omega) hr16
          have z15 := conv_row r15 1024 LL
          have z16 := conv_row r16 1024 LL
          rw [LL] at z15 z16
          generalize (M1.drop 1024).take 1024 = LST at *
          clear hr15 hr16 r15 r16 HR15 hb16 LBH
          go_wp2
          go_ret
          exact ⟨rfl, B16.out⟩
        · have dd : (is == 0) = false := by simpa using hd
          clear hd
          iterate 30 (first | (go_big_may; refine st_box rfl (.tmp 24) (.tmp 115) rfl rfl w13 _ rfl rfl hs L13.out.1 L13.out.2 rfl rfl W14 e14.out ?_) | go_values | go_skip | go_guarded | go_step | go_upon | go_back | skip)
          go_wp2_with fail
          refine (read_i T14.out.a.at_ 1024 1024 W1.out).mono ?_; rintro e w15 ⟨rfl, hr15, hb15⟩
          have T15 := Lib.hid (T14.out.below hb15)
          have HR15 := Lib.hid hr15
          clear hr15 hb15 e14 p0 p1 p2' p3 p4 p5 p6 p7 p8 p9 p10 p13 p16 p17 t0 t1 t2 t3 t4 t5 t6 t7 t8 t9 t10 t13 t16 t17 EQ8
          go_wp2_with fail
          refine (read_i T15.out.b.at_ 1024 1024 W1.out).mono ?_; rintro e w16 ⟨rfl, hr16, hb16⟩
          have hr15 := HR15.out.below hb16
          rw [show (1024 : Int).toNat = 1024 from rfl] at hr15 hr16
          have B16 := Lib.hid (T15.out.below hb16).a.bel
          have r15 := row_blk LBH.out (by rw [LL]; unfold maxLen; omega) hr15
          have r16 := row_blk LBH.out (by rw [LL]; unfold maxLen; omega) hr16
          have z15 := conv_row r15 1024 LL
          have z16 := conv_row r16 1024 LL
          rw [LL] at z15 z16
          generalize (M1.drop 1024).take 1024 = LST at *
          clear hr15 hr16 r15 r16 HR15 hb16 LBH
          go_wp2
          go_ret
          exact ⟨rfl, B16.out⟩
      · have dk : decide ((k1 : Int) < u + v) = true := by simp; omega
        have p16 := Y14.out.cell 16
        have t16 := X14.out.cell 16
        simp only [List.getElem?_cons_succ, List.getElem?_cons_zero] at p16 t16
        rw [r1] at p16
        have HIS : (y3.is = 0 ∧ (k2 : Int) + (k3 : Int) < u + v) ∨ (y3.is = 0 ∧ ¬ (k2 : Int) + (k3 : Int) < u + v) ∨ y3.is ≠ 0 := by omega
        clear hP HK r1 r2 r3 IY3 KL3 EC1 EC3 X14 Y14
        generalize y3.is = is at *
        rcases HIS with ⟨rfl, hd⟩ | ⟨rfl, hd⟩ | hd
        · have dd : decide ((k2 : Int) + (k3 : Int) < u + v) = true := by simp; omega
          clear hd
          iterate 30 (first | (go_big_may; refine st_box rfl (.tmp 24) (.tmp 115) rfl rfl w13 _ rfl rfl hs L13.out.1 L13.out.2 rfl rfl W14 e14.out ?_) | go_values | go_skip | go_guarded | go_step | go_upon | go_back | skip)
          go_wp2_with fail
          go_ret
          exact ⟨rfl, B14.out⟩
        · have dd : decide ((k2 : Int) + (k3 : Int) < u + v) = false := by simp; omega
          clear hd
          iterate 30 (first | (go_big_may; refine st_box rfl (.tmp 24) (.tmp 115) rfl rfl w13 _ rfl rfl hs L13.out.1 L13.out.2 rfl rfl W14 e14.out ?_) | go_values | go_skip | go_guarded | go_step | go_upon | go_back | skip)
          go_wp2_with fail
          go_ret
          exact ⟨rfl, B14.out⟩
        · have dd : (is == 0) = false := by simpa using hd
          clear hd
          iterate 30 (first | (go_big_may; refine st_box rfl (.tmp 24) (.tmp 115) rfl rfl w13 _ rfl rfl hs L13.out.1 L13.out.2 rfl rfl W14 e14.out ?_) | go_values | go_skip | go_guarded | go_step | go_upon | go_back | skip)
          go_wp2_with fail
          go_ret
          exact ⟨rfl, B14.out⟩
    · have hP := PM.out (by omega)
      obtain ⟨rfl, rfl, rfl⟩ : y1 = y2 ∧ M1 = M2 ∧ k1 = k2 := by simpa using hP
      have hkd : ((k1 : Int) == u) = false := by simp; omega
      have B12 := Lib.hid T12.out.a.bel
      clear PM PP hP C6
      by_cases hs : y1.is = 0
      · rw [hs] at s16 z16
        go_wp2_with (first
          | (refine st_box rfl (.tmp 22) (.tmp 103) rfl rfl w11 _ rfl rfl gs L11.out.1 L11.out.2 rfl rfl W12 e12.out ?_))
        go_ret
        exact ⟨rfl, B12.out⟩
      · have hs1 : (y1.is == 0) = false := by simpa using hs
        generalize y1.is = is at *
        go_wp2_with (first
          | (refine st_box rfl (.tmp 22) (.tmp 103) rfl rfl w11 _ rfl rfl gs L11.out.1 L11.out.2 rfl rfl W12 e12.out ?_))
        go_ret
        exact ⟨rfl, B12.out⟩
  · have hq : (E != 0) = true := by simpa using hE
    have B8 := Lib.hid T8.out.a.bel
    clear HLO hE
    go_wp2_with (first
      | (refine st_box rfl (.tmp 18) (.tmp 75) rfl rfl w7 _ rfl rfl ds L7.out.1 L7.out.2 rfl rfl W8 e8.out ?_))
    go_ret
    exact ⟨rfl, B8.out⟩
set_option maxRecDepth 10000 in
theorem vparts_long (AW : Hid AwB) (A0 : Option Addr) (ca cl : Nat) (D0 : Option Addr) (cd dl : Nat) (R0 : Option Addr) (cr rl : Nat) (u v : Int)
    (m1 : cl ≤ maxLen) (m2 : dl ≤ maxLen) (m3 : rl ≤ maxLen) (hl : 500 < cl ∨ (cl ≤ 500 ∧ 500 < dl) ∨ (cl ≤ 500 ∧ dl ≤ 500 ∧ 50 < rl)) (w : World) :
    Calls Tryz.prog 5 #[.slice A0 cl ca, .slice D0 dl cd, .slice R0 rl cr, .int .u8 u, .int .u8 v] w fun e w' => e = .returned (.bool true) ∧ Below w.heap.size w w' := by
  unfold maxLen at m1 m2 m3
  rcases hl with h | ⟨h1, h⟩ | ⟨h1, h2, h⟩
  all_goals
    go_enter Tryz.func5, Tryz.ntmps5
    go_wp2_with fail
    refine (AW.out _).mono ?_; rintro e w1 ⟨rfl, hb1⟩
    have B1 := Lib.hid hb1; clear hb1
    go_wp2_with fail
    refine (AW.out _).mono ?_; rintro e w2 ⟨rfl, hb2⟩
    have B2 := Lib.hid (bel_then B1.out hb2); clear hb2
    go_wp2_with fail
    go_ret
    exact ⟨rfl, B2.out⟩
theorem vparts13 (AW : Hid AwB) (NC : Hid NewC) (SC : Hid SliceC) (A0 : Option Addr) (ca : Nat) (C : List Int) (D0 : Option Addr) (cd : Nat) (D : List Int) (R0 : Option Addr) (rl cr : Nat) (u v : Int) (w : World) (rA : RowAt w A0 ca C) (rD : RowAt w D0 cd D) (rR : ∃ R : List Int, rl = R.length ∧ KRow .u32 w R0 cr R) (hu : (Lit.int .u8 u).wf = true) (hv : (Lit.int .u8 v).wf = true) :
    Calls Tryz.prog 5 #[.slice A0 C.length ca, .slice D0 D.length cd, .slice R0 rl cr, .int .u8 u, .int .u8 v] w fun e w' => e = .returned (.bool true) ∧ Below w.heap.size w w' := by
  obtain ⟨R, rfl, rR⟩ := rR
  by_cases h : C.length ≤ 500 ∧ D.length ≤ 500 ∧ R.length ≤ 50
  · exact vparts_few AW NC SC A0 ca _ C D0 cd _ D R0 cr _ R u v rfl rfl rfl h.1 h.2.1 h.2.2 (bounds_u8 hu) (bounds_u8 hv) w rA rD rR
  · exact vparts_long AW A0 ca _ D0 cd _ R0 cr _ u v (Nat.le_trans rA.1 rA.2.1) (Nat.le_trans rD.1 rD.2.1) (Nat.le_trans rR.1 rR.2.1) (by omega) w
end Go.Proofs.YtbgnkljeodandaaGreat.Mm
