/- The statement BoxPlays, walked, over the contracts of package box. -/
import Derived.Test.YtbgnkljeodandaaGreatLBpA
namespace Go.Proofs.YtbgnkljeodandaaGreat.Mm
open Go.ChangeShapes Go.WideShapes Go.ChangeAt Go.RowKit
set_option linter.unusedVariables false
set_option linter.unusedSimpArgs false
set_option maxRecDepth 10000 in
set_option maxHeartbeats 8000000 in
theorem vplays_few (AW : Hid AwB) (NC : Hid NewC) (SC : Hid SliceC2) (RC : Hid RCodeC) (A0 : Option Addr) (ca cl : Nat) (C : List Int) (D0 : Option Addr) (cd dl : Nat) (D : List Int) (R0 : Option Addr) (cr rl : Nat) (R : List Int) (S0 : Option Addr) (cs sl : Nat) (SL : List Int)
    (hc : C.length = cl) (hd : D.length = dl) (hr : R.length = rl) (hs : SL.length = sl) (h1 : cl ≤ 500) (h2 : dl ≤ 500) (h3 : rl ≤ 50) (h4 : sl ≤ 10) (w : World) (rA : RowAt w A0 ca C) (rD : RowAt w D0 cd D) (rR : KRow .u32 w R0 cr R) (rS : KRow .i64 w S0 cs SL) :
    Calls Tryz.prog 3 #[.slice A0 cl ca, .slice D0 dl cd, .slice R0 rl cr, .slice S0 sl cs] w fun e w' => e = .returned (.bool true) ∧ Below w.heap.size w w' := by
  have IM2 : ∀ a b : Value, (Tryz.prog.info? 50).map (·.size) = some ([a, b] : List Value).length := fun a b => by kernel_rfl
  have IB : ∀ l : List Value, l.length = 18 → (Tryz.prog.info? 40).map (·.size) = some l.length := fun l h => by rw [h]; exact box_size
  have IR : ∀ l : List Value, l.length = 18 → (Tryz.prog.info? 58).map (·.size) = some l.length := fun l h => by rw [h]; exact rbox_size
  have B0 := Lib.hid (Below.refl w.heap.size w)
  have RA := Lib.hid rA
  have RD := Lib.hid rD
  have RR := Lib.hid rR
  have RS := Lib.hid rS
  have HS := Lib.hid hs
  have RK := Lib.hid (fun w' (k : Below w.heap.size w w') => RC.out A0 ca cl C hc w' (rA.below k))
  clear rA rD rR rS hs
  go_enter Tryz.func3, Tryz.ntmps3
  go_wp2_with fail
  refine (AW.out _).mono ?_; rintro e w1 ⟨rfl, hb1⟩
  have B1 := Lib.hid hb1; clear hb1
  go_wp2_with fail
  refine (new_m w 4096 64 (by decide) (by decide) (by decide) B1.out).mono ?_; rintro e w2 ⟨p, g, h, rfl, s, _⟩
  obtain ⟨W2, e2, bW, hRG⟩ : ∃ W2, w2.alloc (.cells #[.int .i64 1024, .int .i64 1024] 31) = W2 ∧ Below w2.heap.size w2 W2 ∧ HasB W2 w2.heap.size 31 [.int .i64 1024, .int .i64 1024] := ⟨_, rfl, bel_al (Below.refl _ _) _, HasB.new w2 31 [.int .i64 1024, .int .i64 1024]⟩
  have y0 := hRG.cell 0
  have y1 := hRG.cell 1
  simp only [List.getElem?_cons_succ, List.getElem?_cons_zero] at y0 y1
  clear hRG
  have s2 := s.below bW
  have S := Lib.hid s2
  have C1 := Lib.hid (NC.out p g h _ _ (1024, 1024) A0 ca cl C D0 cd dl D R0 cr rl R W2 (by unfold RgI; omega) hc (by omega) hd (by omega) hr (by omega) s2.at_ (RA.out.below s2.bel) (RD.out.below s2.bel) (RR.out.below s2.bel) (RA.out.offG s2.g_) (RD.out.offG s2.g_))
  have HCB := Lib.hid RA.out.2.2.1
  have HDB := Lib.hid RD.out.2.2.1
  have HRU := Lib.hid (krow_u RR.out)
  clear s s2 bW
  simp only at C1
  go_wp2_with fail
  refine C1.out.mono ?_; rintro e w3 hN
  obtain ⟨QA, qc, TA, tc, rfl, q1, q2, q3, q4⟩ := new_u (by omega) (by omega) hN
  have I0 := Lib.hid (boxO_i (z := 64) (by omega) HCB.out HDB.out HRU.out (by omega))
  have L3 := Lib.hid (bx_len I0.out.ok.c QA qc TA tc)
  have S3 := Lib.hid (S.out.chg q3 q4)
  obtain ⟨W4, e4, x4, b4, z4⟩ := boxX w3 ((boxO (newK C D) R).cs QA qc TA tc)
  have S4 := Lib.hid (S3.out.below b4)
  have ra4 := Lib.hid (q1.below b4)
  have ta4 := Lib.hid (q2.below b4)
  have oqa := Lib.hid (fun j (hj : w3.heap.size ≤ j) => (⟨q1.offNew hj, q2.offNew hj⟩ : ((boxO (newK C D) R).W.rep = [] ∨ Off QA j) ∧ ((boxO (newK C D) R).W.tr = [] ∨ Off TA j)))
  have KC := newK_cases C D
  rw [hc, hd] at KC
  unfold Bx.val
  replace e4 := Lib.hid e4
  replace x4 := Lib.hid x4
  have hg3 : g < w3.heap.size := S3.out.at_.bytes.lt
  have hp3 : p < w3.heap.size := S3.out.at_.own.lt
  have hh3 : h < w3.heap.size := S3.out.at_.zones.lt
  clear hN C1 q1 q2 q3 q4 S S3 e2 y0 y1
  generalize hbs : (boxO (newK C D) R).cs QA qc TA tc = bs at *
  rcases KC with ⟨k1, kE⟩ | ⟨k1, k2, kE⟩ | ⟨k1, k2, k3, kE⟩
  · have hbx : boxO (newK C D) R = zeroX := by unfold boxO; rw [if_neg (by rw [kE]; exact k1)]
    rw [hbx] at hbs
    rw [kE]
    have hv0 : (verE C == 0) = false := by simpa using k1
    have hvn : (verE C != 0) = true := by simpa using k1
    clear kE k1 hbx
    generalize verE C = ve at *
    go_wp2_with (first
      | (refine st_box rfl (.tmp 12) (.tmp 63) rfl rfl w3 _ rfl rfl bs L3.out.1 L3.out.2 rfl rfl W4 e4.out ?_))
    refine (RK.out W4 S4.out.bel).mono ?_; rintro e w5 ⟨rfl, hb5⟩
    have S5 := Lib.hid (S4.out.below hb5)
    have x5 := x4.out.below hb5
    rw [← hbs] at x5
    replace x5 : HasB w5 w3.heap.size 40 [.int .u32 0, .int .u32 0, .int .u32 0, .int .u32 0, .int .u32 0, .int .u32 0, .int .u32 0, .int .u32 0, .int .u32 0, .int .u32 0, .int .u32 0, .slice QA 0 qc, .int .i64 0, .slice TA 0 tc, .bool false, .int .u32 0, .int .i64 0, .int .i64 0] := x5
    have KE := Lib.hid (x5.below (Below.refl _ w5).drew)
    have E8 := fun w => eq8B 0 0 0 0 0 0 0 0 w
    obtain ⟨z0, z1, z2, z3, z4, z5, z6, z7, z8, z9, z10, z11, z12, z13, z14, z15, z16, z17⟩ := has18 x5
    clear x5 S4 x4 ra4 ta4 oqa e4 RK hb5 b4
    go_upto_region 10 with fail
    go_cut [8] from 86 to 95 (fun s8 wx => s8 = .bool true ∧ Below w5.heap.size w5 wx)
    case first =>
      go_region_with (first | (go_at_call 13; (with_reducible refine (of_cpL 0 0 0 0 0 0 0 0 0 0 0 _).mono ?_); rintro e wq ⟨rfl, hbq⟩; have KE2 := HasB.below (w := w5.drew) KE.out hbq; obtain ⟨j0, j1, j2, j3, j4, j5, j6, j7, j8, j9, j10, j11, j12, j13, j14, j15, j16, j17⟩ := has18 KE2; have HBQ := Lib.hid (show Below w5.heap.size w5 wq from bel_then (Below.refl _ _).drew hbq); clear KE2 hbq))
      all_goals go_wp2_with fail
      all_goals go_meet
      all_goals exact ⟨rfl, HBQ.out⟩
    obtain ⟨rfl, hbc⟩ := hcut
    have BC := Lib.hid (bel_then S5.out.bel hbc)
    clear hbc E8 KE z0 z1 z2 z3 z4 z5 z6 z7 z8 z9 z10 z11 z12 z13 z14 z15 z16 z17
    go_wp2_with fail
    go_ret
    exact ⟨rfl, BC.out⟩
  · have hbx : boxO (newK C D) R = zeroX := by unfold boxO; rw [if_neg (by rw [kE]; decide)]
    rw [hbx] at hbs
    rw [kE]
    rw [k1] at RK
    have k2' : (decide (480 < cl) = true) ∨ (decide (480 < cl) = false ∧ decide (512 < dl) = true) := by
      by_cases hq : 480 < cl
      · exact .inl (decide_eq_true hq)
      · exact .inr ⟨decide_eq_false hq, decide_eq_true (by omega)⟩
    clear kE k1 hbx
    rcases k2' with hq | ⟨hq, hq2⟩
    · go_wp2_with (first
        | (refine st_box rfl (.tmp 12) (.tmp 63) rfl rfl w3 _ rfl rfl bs L3.out.1 L3.out.2 rfl rfl W4 e4.out ?_))
      refine (RK.out W4 S4.out.bel).mono ?_; rintro e w5 ⟨rfl, hb5⟩
      have S5 := Lib.hid (S4.out.below hb5)
      have x5 := x4.out.below hb5
      rw [← hbs] at x5
      replace x5 : HasB w5 w3.heap.size 40 [.int .u32 0, .int .u32 0, .int .u32 0, .int .u32 0, .int .u32 0, .int .u32 0, .int .u32 0, .int .u32 0, .int .u32 0, .int .u32 0, .int .u32 0, .slice QA 0 qc, .int .i64 0, .slice TA 0 tc, .bool false, .int .u32 0, .int .i64 0, .int .i64 0] := x5
      have KE := Lib.hid (x5.below (Below.refl _ w5).drew)
      have E8 := fun w => eq8B 0 0 0 0 0 0 0 0 w
      obtain ⟨z0, z1, z2, z3, z4, z5, z6, z7, z8, z9, z10, z11, z12, z13, z14, z15, z16, z17⟩ := has18 x5
      clear x5 S4 x4 ra4 ta4 oqa e4 RK hb5 b4
      go_upto_region 10 with fail
      go_region_with (first | (go_at_call 13; (with_reducible refine (of_cpL 0 0 0 0 0 0 0 0 0 0 0 _).mono ?_); rintro e wq ⟨rfl, hbq⟩; have KE2 := HasB.below (w := w5.drew) KE.out hbq; obtain ⟨j0, j1, j2, j3, j4, j5, j6, j7, j8, j9, j10, j11, j12, j13, j14, j15, j16, j17⟩ := has18 KE2; have HBQ := Lib.hid (show Below w5.heap.size w5 wq from bel_then (Below.refl _ _).drew hbq); clear KE2 hbq))
      all_goals go_wp2_with fail
      all_goals go_ret
      all_goals exact ⟨by first | rfl | exact ret_bool (by simp), bel_then S5.out.bel HBQ.out⟩
    · go_wp2_with (first
        | (refine st_box rfl (.tmp 12) (.tmp 63) rfl rfl w3 _ rfl rfl bs L3.out.1 L3.out.2 rfl rfl W4 e4.out ?_))
      refine (RK.out W4 S4.out.bel).mono ?_; rintro e w5 ⟨rfl, hb5⟩
      have S5 := Lib.hid (S4.out.below hb5)
      have x5 := x4.out.below hb5
      rw [← hbs] at x5
      replace x5 : HasB w5 w3.heap.size 40 [.int .u32 0, .int .u32 0, .int .u32 0, .int .u32 0, .int .u32 0, .int .u32 0, .int .u32 0, .int .u32 0, .int .u32 0, .int .u32 0, .int .u32 0, .slice QA 0 qc, .int .i64 0, .slice TA 0 tc, .bool false, .int .u32 0, .int .i64 0, .int .i64 0] := x5
      have KE := Lib.hid (x5.below (Below.refl _ w5).drew)
      have E8 := fun w => eq8B 0 0 0 0 0 0 0 0 w
      obtain ⟨z0, z1, z2, z3, z4, z5, z6, z7, z8, z9, z10, z11, z12, z13, z14, z15, z16, z17⟩ := has18 x5
      clear x5 S4 x4 ra4 ta4 oqa e4 RK hb5 b4
      go_upto_region 10 with fail
      go_region_with (first | (go_at_call 13; (with_reducible refine (of_cpL 0 0 0 0 0 0 0 0 0 0 0 _).mono ?_); rintro e wq ⟨rfl, hbq⟩; have KE2 := HasB.below (w := w5.drew) KE.out hbq; obtain ⟨j0, j1, j2, j3, j4, j5, j6, j7, j8, j9, j10, j11, j12, j13, j14, j15, j16, j17⟩ := has18 KE2; have HBQ := Lib.hid (show Below w5.heap.size w5 wq from bel_then (Below.refl _ _).drew hbq); clear KE2 hbq))
      all_goals go_wp2_with fail
      all_goals go_ret
      all_goals exact ⟨by first | rfl | exact ret_bool (by simp), bel_then S5.out.bel HBQ.out⟩
  · rw [kE]
    simp only [kE, boxO, memO, zonO, loO, hiO, if_true] at I0 S4 ra4 ta4 oqa hbs
    have hcl : decide (480 < cl) = false := decide_eq_false (by omega)
    rw [k1] at RK
    have hT := newT_rg 64 (by omega)
    have EQ0 := Lib.hid (rg_start C D (by omega) (by omega))
    have F0 : Hid (Bytes (splice (splice (List.replicate 2200 0) 1024 C) 1536 D) ∧ (splice (splice (List.replicate 2200 (0 : Int)) 1024 C) 1536 D).length = 2200 ∧ (splice (List.replicate 2200 (0 : Int)) 1024 C).length = 2200) := by
      have a1 := splice_len (List.replicate 2200 (0 : Int)) 1024 C (by rw [List.length_replicate]; omega)
      rw [List.length_replicate] at a1
      have a2 := splice_len (splice (List.replicate 2200 (0 : Int)) 1024 C) 1536 D (by rw [a1]; omega)
      refine Lib.hid ⟨fun z hz => ?_, a2.trans a1, a1⟩
      rcases splice_mem hz with hz | hz
      · rcases splice_mem hz with hz | hz
        · exact zeros_byte _ z hz
        · exact RA.out.2.2.1 z hz
      · exact RD.out.2.2.1 z hz
    generalize newB (List.replicate (64 * 64) 0) (1024, 1024) C D = B0' at *
    generalize newT (List.replicate 64 false) (1024, 1024) = T at *
    clear kE
    go_wp2_with (first
      | (refine st_box rfl (.tmp 12) (.tmp 63) rfl rfl w3 _ rfl rfl bs L3.out.1 L3.out.2 rfl rfl W4 e4.out ?_))
    refine (RK.out W4 S4.out.bel).mono ?_; rintro e w5 ⟨rfl, hb5⟩
    have S5 := Lib.hid (S4.out.below hb5)
    have x5 := Lib.hid (x4.out.below hb5)
    have ra5 := Lib.hid (ra4.out.below hb5)
    have ta5 := Lib.hid (ta4.out.below hb5)
    have hs5 := hb5.size
    clear S4 x4 ra4 ta4 e4 RK hb5 b4
    go_wp2_with fail
    refine (rNew_any 2200 (by omega) w5).mono ?_; rintro e w6 ⟨g6, h6, rfl, u6, v6, ug6, vh6, b6⟩
    have U0 := Lib.hid (rSet_any g6 h6 2200 1024 1024 2200 2200 true (List.replicate 2200 0) (List.replicate 2200 false) List.length_replicate List.length_replicate (by omega) (by omega) w6 (by have := rowB u6 (zeros_byte _) (by rw [List.length_replicate]; unfold maxLen; omega); rwa [List.length_replicate] at this) (by have := blB_ v6 (by rw [List.length_replicate]; unfold maxLen; omega); rwa [List.length_replicate] at this) (List.replicate 2200 0) U22 List.length_replicate U22_len
      (fun i hi hh => ⟨by rw [List.getD_eq_getElem?_getD, List.getElem?_replicate]; split <;> rfl, by rw [U22_all, decide_eq_true_iff]; omega⟩)
      (fun i hi hh => ⟨rfl, by rw [U22_all, List.getD_eq_getElem?_getD, List.getElem?_replicate, decide_eq_false (by omega)]; split <;> rfl⟩) (by omega))
    have S6 := S5.out.below b6
    have x6 := x5.out.below b6
    have ra6 := ra5.out.below b6
    have ta6 := ta5.out.below b6
    have hs6 := b6.size
    clear S5 x5 ra5 ta5 u6 v6 ug6 vh6
    go_wp2_with fail
    refine U0.out.mono ?_; rintro e w7 ⟨xb0, yb, rfl, u7, v7, ug7, vh7, b7⟩
    have rx7 := rowB u7 (zeros_byte 2200) (by rw [List.length_replicate]; unfold maxLen; omega)
    have ry7 := blB_ v7 (by rw [U22_len]; unfold maxLen; omega)
    rw [List.length_replicate] at rx7
    rw [U22_len] at ry7
    have hs7 := b7.size
    have hxl := u7.lt
    have hyl := v7.lt
    obtain ⟨A8, e8, m8, bA8⟩ : ∃ A8, w7.alloc (.cells #[.slice (some ⟨xb0, 0, none⟩) 2200 2200, .slice (some ⟨yb, 0, none⟩) 2200 2200] 50) = A8 ∧ HasB A8 w7.heap.size 50 [.slice (some ⟨xb0, 0, none⟩) 2200 2200, .slice (some ⟨yb, 0, none⟩) 2200 2200] ∧ Below w7.heap.size w7 A8 := ⟨_, rfl, HasB.newAt w7 _ _ #[.slice (some ⟨xb0, 0, none⟩) 2200 2200, .slice (some ⟨yb, 0, none⟩) 2200 2200] rfl, bel_al (Below.refl _ _) _⟩
    have b78 := b7.trans (bA8.mono b7.size)
    have S8 := S6.below b78
    have k1_8 := Lib.hid (x6.below b78)
    have ra8 := Lib.hid (ra6.below b78)
    have ta8 := Lib.hid (ta6.below b78)
    have rx8 := rx7.below bA8
    have ry8 := Lib.hid (ry7.below bA8)
    have hA8 : A8.heap.size = w7.heap.size + 1 := by rw [← e8]; simp
    have RW1 := Lib.hid (rWrite_any xb0 yb 2200 1024 cl 2200 2200 ca A0 (List.replicate 2200 0) C List.length_replicate hc (by omega) (by omega) (by omega) A8 rx8 (by omega) (RA.out.below S8.bel))
    replace S8 := Lib.hid S8
    replace m8 := Lib.hid m8
    clear u7 v7 b7 bA8 b78 rx7 ry7 rx8 S6 x6 ra6 ta6 U0 b6
    go_wp2_with (first
      | (refine ld_any rfl 50 (.tmp 15) rfl (w7.heap.size) (by rfl) [.slice (some ⟨xb0, 0, none⟩) 2200 2200, .slice (some ⟨yb, 0, none⟩) 2200 2200] m8.out rfl Tryz.underlying50 (IM2 _ _) ?_))
    refine RW1.out.mono ?_; rintro e w9 ⟨xb1, cB1, rfl, rx9, hx9, hx9', b9⟩
    have S9 := Lib.hid (S8.out.below b9)
    have k1_9 := Lib.hid (k1_8.out.below b9)
    have ra9 := Lib.hid (ra8.out.below b9)
    have ta9 := Lib.hid (ta8.out.below b9)
    have m9 := Lib.hid (m8.out.below b9)
    have ry9 := Lib.hid (ry8.out.below b9)
    have rx9h := Lib.hid rx9
    have hs9 := b9.size
    clear e8 S8 k1_8 ra8 ta8 m8 ry8 b9 RW1 rx9
    have hq9 : p ≠ w7.heap.size ∧ g ≠ w7.heap.size ∧ h ≠ w7.heap.size ∧ w.heap.size ≤ w7.heap.size ∧ w3.heap.size ≠ w7.heap.size ∧ w3.heap.size ≤ w7.heap.size := by have := S9.out.g_; omega
    go_wp2_with (first
      | (refine st_any rfl 50 (.tmp 15) (.tmp 100) rfl rfl (w7.heap.size) [.slice (some ⟨xb0, 0, none⟩) 2200 2200, .slice (some ⟨yb, 0, none⟩) 2200 2200] [.slice (some ⟨xb1, 0, none⟩) 2200 cB1, .slice (some ⟨yb, 0, none⟩) 2200 2200] (by rfl) (by rfl) m9.out rfl (IM2 _ _) (by simp [Value.oneCell']) ?_; intro W10 n10 c10; have m10 := Lib.hid n10; have hs10 := c10.size; have S10 := Lib.hid (S9.out.keep1 c10 hq9.1 hq9.2.1 hq9.2.2.1 hq9.2.2.2.1); have k1_10 := Lib.hid (k1_9.out.chg c10 hq9.2.2.2.2.1 hq9.2.2.2.2.1); have ra10 := Lib.hid (ra9.out.off c10 (oqa.out _ hq9.2.2.2.2.2).1); have ta10 := Lib.hid (ta9.out.off c10 (oqa.out _ hq9.2.2.2.2.2).2); have rx10 := Lib.hid (rx9h.out.chg c10 (by omega) (by omega)); have ry10 := Lib.hid (BlAt.chg ry9.out c10 (by omega) (by omega)); have RW2 := Lib.hid (rWrite_any xb1 yb 2200 1536 dl cB1 2200 cd D0 _ D F0.out.2.2 hd (by omega) (by omega) (by omega) W10 rx10.out (by omega) (RD.out.below S10.out.bel)); clear S9 k1_9 ra9 ta9 m9 ry9 rx9h n10 c10)
      | (refine ld_any rfl 50 (.tmp 15) rfl (w7.heap.size) (by rfl) [.slice (some ⟨xb1, 0, none⟩) 2200 cB1, .slice (some ⟨yb, 0, none⟩) 2200 2200] m10.out rfl Tryz.underlying50 (IM2 _ _) ?_))
    refine RW2.out.mono ?_; rintro e w11 ⟨xb, cB, rfl, rx11, hx11, hx11', b11⟩
    have S11 := Lib.hid (S10.out.below b11)
    have k1_11 := Lib.hid (k1_10.out.below b11)
    have ra11 := Lib.hid (ra10.out.below b11)
    have ta11 := Lib.hid (ta10.out.below b11)
    have m11 := Lib.hid (m10.out.below b11)
    have ry11 := Lib.hid (ry10.out.below b11)
    have rx11h := Lib.hid rx11
    have hs11 := b11.size
    clear S10 k1_10 ra10 ta10 m10 ry10 rx10 b11 RW2 rx11
    have hSZ : ∀ j, j = 0 → True := fun _ _ => trivial
    go_wp2_with (first
      | (refine st_any rfl 50 (.tmp 15) (.tmp 103) rfl rfl (w7.heap.size) [.slice (some ⟨xb1, 0, none⟩) 2200 cB1, .slice (some ⟨yb, 0, none⟩) 2200 2200] [.slice (some ⟨xb, 0, none⟩) 2200 cB, .slice (some ⟨yb, 0, none⟩) 2200 2200] (by rfl) (by rfl) m11.out rfl (IM2 _ _) (by simp [Value.oneCell']) ?_; intro W12 n12 c12; have m12 := n12; have hs12 := c12.size; have S12 := (S11.out.keep1 c12 hq9.1 hq9.2.1 hq9.2.2.1 hq9.2.2.2.1); have k1_12 := (k1_11.out.chg c12 hq9.2.2.2.2.1 hq9.2.2.2.2.1); have ra12 := (ra11.out.off c12 (oqa.out _ hq9.2.2.2.2.2).1); have ta12 := (ta11.out.off c12 (oqa.out _ hq9.2.2.2.2.2).2); have rx12 := (rx11h.out.chg c12 (by omega) (by omega)); have ry12 := (BlAt.chg ry11.out c12 (by omega) (by omega)); obtain ⟨A13, e13, n13, bA13⟩ : ∃ A13, W12.alloc (.cells #[.int .u32 0, .int .u32 0, .int .u32 0, .int .u32 0, .int .u32 0, .int .u32 0, .int .u32 0, .int .u32 0, .int .u32 0, .int .u32 0, .int .u32 0, .slice none 0 0, .int .i64 0, .slice none 0 0, .bool false, .int .u32 0, .int .i64 0, .int .i64 0] 58) = A13 ∧ HasB A13 W12.heap.size 58 [.int .u32 0, .int .u32 0, .int .u32 0, .int .u32 0, .int .u32 0, .int .u32 0, .int .u32 0, .int .u32 0, .int .u32 0, .int .u32 0, .int .u32 0, .slice none 0 0, .int .i64 0, .slice none 0 0, .bool false, .int .u32 0, .int .i64 0, .int .i64 0] ∧ Below W12.heap.size W12 A13 := ⟨_, rfl, HasB.newAt W12 _ _ #[.int .u32 0, .int .u32 0, .int .u32 0, .int .u32 0, .int .u32 0, .int .u32 0, .int .u32 0, .int .u32 0, .int .u32 0, .int .u32 0, .int .u32 0, .slice none 0 0, .int .i64 0, .slice none 0 0, .bool false, .int .u32 0, .int .i64 0, .int .i64 0] rfl, bel_al (Below.refl _ _) _⟩; have hA13 : A13.heap.size = W12.heap.size + 1 := (by rw [← e13]; simp); have m13 := Lib.hid (m12.below bA13); have S13 := Lib.hid (S12.below bA13); have k1_13 := Lib.hid (k1_12.below bA13); have ra13 := Lib.hid (ra12.below bA13); have ta13 := Lib.hid (ta12.below bA13); have rx13 := Lib.hid (rx12.below bA13); have ry13 := Lib.hid (ry12.below bA13); have k3_13 := Lib.hid n13; clear n12 c12 m12 S12 k1_12 ra12 ta12 rx12 ry12 bA13 n13 S11 k1_11 ra11 ta11 m11 ry11 rx11h)
      | (refine st_any rfl 58 (.tmp 16) (.tmp 107) rfl rfl (W12.heap.size) [.int .u32 0, .int .u32 0, .int .u32 0, .int .u32 0, .int .u32 0, .int .u32 0, .int .u32 0, .int .u32 0, .int .u32 0, .int .u32 0, .int .u32 0, .slice none 0 0, .int .i64 0, .slice none 0 0, .bool false, .int .u32 0, .int .i64 0, .int .i64 0] [.int .u32 1024, .int .u32 0, .int .u32 0, .int .u32 0, .int .u32 0, .int .u32 0, .int .u32 0, .int .u32 0, .int .u32 0, .int .u32 1024, .int .u32 1024, .slice R0 rl cr, .int .i64 0, .slice none 0 0, .bool false, .int .u32 0, .int .i64 0, .int .i64 0] (by rfl) (by rfl) k3_13.out rfl (IR _ rfl) (by simp [Value.oneCell']) ?_; intro W14 n14 c14; have k3_14 := Lib.hid n14; have hs14 := c14.size; replace c14 := Lib.hid c14; clear n14 e13))
    have hS14 := S13.out.keep1 c14.out (by omega) (by omega) (by omega) (by have := S13.out.g_; omega)
    have START : Hid (PlR w p g h w3.heap.size w7.heap.size W12.heap.size T yb 2200 R0 cr 0 (newX (1024, 1024) R) B0' (splice (splice (List.replicate 2200 0) 1024 C) 1536 D) QA qc TA tc none 0 xb cB W14) := Lib.hid ⟨I0.out, EQ0.out, F0.out.1, F0.out.2.1, hS14,
      by rw [hbs]; exact k1_13.out.chg c14.out (by omega) (by omega), m13.out.chg c14.out (by omega) (by omega),
      by have e : (newX (1024, 1024) R).cs R0 cr none 0 = [.int .u32 1024, .int .u32 0, .int .u32 0, .int .u32 0, .int .u32 0, .int .u32 0, .int .u32 0, .int .u32 0, .int .u32 0, .int .u32 1024, .int .u32 1024, .slice R0 rl cr, .int .i64 0, .slice none 0 0, .bool false, .int .u32 0, .int .i64 0, .int .i64 0] := (by rw [← hr]; rfl)
         rw [e]; exact k3_14.out,
      ra13.out.off c14.out (oqa.out _ (by omega)).1, ta13.out.off c14.out (oqa.out _ (by omega)).2, RR.out.below hS14.bel, evRow_nil W14,
      rx13.out.chg c14.out (by omega) (by omega), BlAt.chg ry13.out c14.out (by omega) (by omega),
      fun j hj => oqa.out j (by rcases hj with rfl | rfl | rfl <;> omega),
      fun j hj => ⟨RR.out.offNew (by have := S13.out.g_; rcases hj with rfl | rfl | rfl | rfl <;> omega), .inl rfl, by rcases hj with rfl | rfl | rfl | rfl <;> omega, by rcases hj with rfl | rfl | rfl | rfl <;> omega⟩,
      by have := S13.out.g_; omega⟩
    clear S13 k1_13 m13 ra13 ta13 rx13 ry13 k3_14 c14 I0 EQ0 F0 RA RD oqa hS14
    generalize newX (1024, 1024) R = x0 at *
    generalize splice (splice (List.replicate 2200 0) 1024 C) 1536 D = Bf0 at *
    generalize hb1 : w3.heap.size = b1 at *
    generalize hb2 : w7.heap.size = b2 at *
    generalize hb3 : W12.heap.size = b3 at *
    go_loopw [17, 18] (fun lv iv wr => ∃ (k lf n0 : Nat) (x : Bx) (B Bf : List Int) (QA : Option Addr) (qc : Nat) (TA : Option Addr) (tc : Nat) (TB : Option Addr) (tb xb cB : Nat), lv = .int .i64 lf ∧ iv = .int .i64 k ∧ k ≤ sl ∧ lf ≤ 150 ∧ n0 ≤ 150 * k ∧ Hid (PlR w p g h b1 b2 b3 T yb 2200 R0 cr n0 x B Bf QA qc TA tc TB tb xb cB wr)) (fun _ iv _ => sl - (intOf iv).toNat)
    case atStart => exact ⟨0, 150, 0, x0, B0', Bf0, QA, qc, TA, tc, none, 0, xb, cB, rfl, rfl, by omega, by omega, by omega, START⟩
    case round =>
      clear START hbs L3
      obtain ⟨k, lf, n0, x, B, Bf, QA, qc, TA, tc, TB, tb, xb, cB, rfl, rfl, hk, hlf, hn0, K⟩ := hrel
      by_cases hlt : k < sl
      · obtain ⟨ps, hps, hpb, hcs⟩ := (RS.out.below K.out.s.bel).2.2.2 (by intro e; have := HS.out; rw [e] at this; simp at this; omega)
        have cS := hcs k (by rw [HS.out]; exact hlt)
        have wS := bounds_i64 (RS.out.2.2.1 (SL.getD k 0) (by rw [List.getD_eq_getElem?_getD, List.getElem?_eq_getElem (by rw [HS.out]; exact hlt)]; exact List.getElem_mem _))
        subst hps
        clear hcs
        generalize SL.getD k 0 = sv at *
        obtain ⟨ws0, ws1⟩ := wS
        generalize hnn : min sv (lf : Int) = nn at *
        have hn1 : nn ≤ lf := by omega
        have hn2 : -9223372036854775808 ≤ nn := by omega
        go_upto_region 19 with fail
        go_cut [19] from 114 to 119 (fun s19 wx => s19 = .int .i64 nn ∧ wx = wr)
        case first =>
          go_wp2_with fail
          all_goals go_meet
          all_goals exact ⟨by congr 1; omega, rfl⟩
        obtain ⟨rfl, hwc⟩ := hcut
        obtain rfl : wr = wc := hwc.symm
        clear cS hnn ws0 ws1 hpb
        have hN : nn.toNat ≤ 150 := by omega
        have KP := K.out
        have hlt1 := KP.k1.lt
        have hlt2 := KP.k2.lt
        have hlt3 := KP.k3.lt
        obtain ⟨hd1, hd2, hd3, hd4, hd5, hd6, hd7, hd8, hd9, hd10⟩ := KP.d
        have C2 := SC.out x nn p g h B T wr QA qc TA tc KP.i.ok (by have := KP.i.tr; omega) (by omega) KP.s.at_ KP.ra KP.ta
        have R2 := Lib.hid (fun (w' : World) (rx : RowAt w' (some ⟨xb, 0, none⟩) cB Bf) (ry : BlAt w' (some ⟨yb, 0, none⟩) 2200 U22) (rb : KRow .u32 w' R0 cr x.W.rep) (tb_ : EvRow w' TB tb x.W.tr) => rslice_any hT nn.toNat n0 x Bf KP.f (by omega) xb yb cB 2200 w' rx ry R0 cr TB tb rb tb_ nn (by omega) rfl)
        have SIM := slF_sim hT T22_rg nn.toNat KP.eq KP.i
        have NXI := slF_i nn.toNat KP.i
        have NXF := ref_n hT nn.toNat KP.f
        have KLE := slF_le (T := T) nn.toNat x B
        have REP := slF_rep T nn.toNat x B
        have LX1 := Lib.hid (bx_len KP.i.ok.c QA qc TA tc)
        have LX3 := Lib.hid (bx_len KP.i.ok.c R0 cr TB tb)
        generalize slF T nn.toNat x B = q at *
        generalize slF T22 nn.toNat x Bf = q' at *
        obtain ⟨y, B2, kk⟩ := q
        obtain ⟨y', Bf2, kk'⟩ := q'
        simp only at SIM NXI NXF KLE REP
        obtain ⟨rfl, rfl, hEQ⟩ := SIM
        replace R2 : Hid (∀ (w' : World) (rx : RowAt w' (some ⟨xb, 0, none⟩) cB Bf) (ry : BlAt w' (some ⟨yb, 0, none⟩) 2200 U22) (rb : KRow .u32 w' R0 cr x.W.rep) (tb_ : EvRow w' TB tb x.W.tr), Calls Tryz.prog 18 #[.agg #[.slice (some ⟨xb, 0, none⟩) 2200 cB, .slice (some ⟨yb, 0, none⟩) 2200 2200], .agg (x.cs R0 cr TB tb).toArray, .int .i64 nn] w' fun e w'' => ∃ xb' cB' TB' tb', e = .returned (.tuple #[.agg (y.cs R0 cr TB' tb').toArray, .agg #[.slice (some ⟨xb', 0, none⟩) 2200 cB', .slice (some ⟨yb, 0, none⟩) 2200 2200], .int .i64 kk]) ∧ RowAt w'' (some ⟨xb', 0, none⟩) cB' Bf2 ∧ EvRow w'' TB' tb' y.W.tr ∧ Below w'.heap.size w' w'' ∧ (xb' = xb ∨ w'.heap.size ≤ xb') ∧ ((TB' = TB ∧ y.W.tr = x.W.tr) ∨ ∀ z, TB' = some z → w'.heap.size ≤ z.block)) := R2
        replace C2 : Hid (Calls Tryz.prog 17 #[.pointer (some ⟨p, 0, none⟩), .agg (x.cs QA qc TA tc).toArray, .int .i64 nn] wr fun e w' => ∃ RA rc TA' tc', e = .returned (.tuple #[.agg (y.cs RA rc TA' tc').toArray, .int .i64 kk]) ∧ KRow .u32 w' RA rc y.W.rep ∧ EvRow w' TA' tc' y.W.tr ∧ MemAt w' p g h B2 T ∧ Chg g g wr w' ∧ OffL wr x.W.rep QA y.W.rep RA ∧ OffL wr x.W.tr TA y.W.tr TA') := Lib.hid C2
        have HK1 := Lib.hid KP.k1
        have NXI := Lib.hid NXI
        have NXF := Lib.hid NXF
        have HEQ := Lib.hid hEQ
        have REP := Lib.hid REP
        clear hEQ
        generalize hxs : x.cs QA qc TA tc = xs at *
        generalize hfs : x.cs R0 cr TB tb = fs at *
        have ESL := Lib.hid (IB xs LX1.out.1)
        have EFS := Lib.hid (IR fs LX3.out.1)
        go_wp2_with (first
          | (refine ld_any rfl 40 (.tmp 12) rfl (b1) (by rfl) xs HK1.out rfl Tryz.underlying40 ESL.out ?_))
        refine C2.out.mono ?_; rintro e w2 ⟨QA', qc', TA', tc', rfl, ra2, ta2, m2, c2, oA, oT⟩
        have hsz2 := c2.size
        have S2 := KP.s.chg m2 c2.wide
        have k1_2 := HK1.out.chg c2 (by omega) (by omega)
        have k2_2 := KP.k2.chg c2 (by omega) (by omega)
        have k3_2 := (show HasB wr b3 58 fs from by rw [← hfs]; exact KP.k3).chg c2 (by omega) (by omega)
        have ob := KP.ob
        have oa := KP.oa
        have rb2 := KP.rb.off c2 (ob g (.inl rfl)).1
        have tb2 := KP.tb_.off c2 (ob g (.inl rfl)).2.1
        have rx2 := KP.rx.chg c2 (ob g (.inl rfl)).2.2.1 (ob g (.inl rfl)).2.2.1
        have ry2 := KP.ry.chg c2 (ob g (.inl rfl)).2.2.2 (ob g (.inl rfl)).2.2.2
        have OA2 : Hid (∀ j, j = b1 ∨ j = b2 ∨ j = b3 → (y.W.rep = [] ∨ Off QA' j) ∧ (y.W.tr = [] ∨ Off TA' j)) := Lib.hid (fun j hj => ⟨oA j (by rcases hj with rfl | rfl | rfl <;> assumption) (oa j hj).1, oT j (by rcases hj with rfl | rfl | rfl <;> assumption) (oa j hj).2⟩)
        have LY1 := Lib.hid (bx_len NXI.out.ok.c QA' qc' TA' tc')
        obtain ⟨A3, e3, a3, bA3⟩ : ∃ A3, w2.alloc (.cells #[.int .u32 0, .int .u32 0, .int .u32 0, .int .u32 0, .int .u32 0, .int .u32 0, .int .u32 0, .int .u32 0, .int .u32 0, .int .u32 0, .int .u32 0, .slice none 0 0, .int .i64 0, .slice none 0 0, .bool false, .int .u32 0, .int .i64 0, .int .i64 0] 40) = A3 ∧ HasB A3 w2.heap.size 40 [.int .u32 0, .int .u32 0, .int .u32 0, .int .u32 0, .int .u32 0, .int .u32 0, .int .u32 0, .int .u32 0, .int .u32 0, .int .u32 0, .int .u32 0, .slice none 0 0, .int .i64 0, .slice none 0 0, .bool false, .int .u32 0, .int .i64 0, .int .i64 0] ∧ Below w2.heap.size w2 A3 := ⟨_, rfl, HasB.newAt w2 _ _ #[.int .u32 0, .int .u32 0, .int .u32 0, .int .u32 0, .int .u32 0, .int .u32 0, .int .u32 0, .int .u32 0, .int .u32 0, .int .u32 0, .int .u32 0, .slice none 0 0, .int .i64 0, .slice none 0 0, .bool false, .int .u32 0, .int .i64 0, .int .i64 0] rfl, bel_al (Below.refl _ _) _⟩
        have S3 := Lib.hid (S2.below bA3); have k1_3 := Lib.hid (k1_2.below bA3); have k2_3 := Lib.hid (k2_2.below bA3); have k3_3 := Lib.hid (k3_2.below bA3)
        have ra3 := Lib.hid (ra2.below bA3); have ta3 := Lib.hid (ta2.below bA3); have rb3 := Lib.hid (rb2.below bA3); have tb3 := Lib.hid (tb2.below bA3); have rx3 := Lib.hid (rx2.below bA3); have ry3 := Lib.hid (ry2.below bA3)
        have oRA := Lib.hid (ra2.offNew (Nat.le_refl _)); have oTA := Lib.hid (ta2.offNew (Nat.le_refl _)); have oRB := Lib.hid (rb2.offNew (Nat.le_refl _)); have oTB := Lib.hid (tb2.offNew (Nat.le_refl _))
        have hxb2 : xb < w2.heap.size := by
          obtain ⟨z, hz, hl, _⟩ := rx2.2.2.2 (by intro e; have := KP.len; rw [e] at this; simp at this)
          cases hz; exact hl
        have hyb2 : yb < w2.heap.size := (BlAt.at_ ry2).1
        have A3h := Lib.hid a3
        clear C2 HK1 ra2 ta2 m2 c2 oA oT S2 k1_2 k2_2 k3_2 rb2 tb2 rx2 ry2 a3 bA3
        generalize hys : y.cs QA' qc' TA' tc' = ys at *
        have EYL := Lib.hid (IB ys LY1.out.1)
        have hp2 : p ≠ w2.heap.size ∧ g ≠ w2.heap.size ∧ h ≠ w2.heap.size := by
          have h1 := KP.s.at_.own.lt; have h2 := KP.s.at_.bytes.lt; have h3 := KP.s.at_.zones.lt
          omega
        have hw2 : w.heap.size ≤ w2.heap.size := by omega
        have hA3 : A3.heap.size = w2.heap.size + 1 := by rw [← e3]; simp
        go_wp2_with (first
          | (refine st_any rfl 40 (.tmp 20) (.tmp 125) rfl rfl (w2.heap.size) [.int .u32 0, .int .u32 0, .int .u32 0, .int .u32 0, .int .u32 0, .int .u32 0, .int .u32 0, .int .u32 0, .int .u32 0, .int .u32 0, .int .u32 0, .slice none 0 0, .int .i64 0, .slice none 0 0, .bool false, .int .u32 0, .int .i64 0, .int .i64 0] ys (by rfl) (by rfl) A3h.out (by rw [LY1.out.1]; rfl) EYL.out LY1.out.2 ?_; intro W3 d3 c3; have d20_4 := Lib.hid d3; have hs3 := c3.size; replace c3 := Lib.hid c3; have k1_4 := Lib.hid (k1_3.out.chg c3.out (by omega) (by omega)); have k2_4 := Lib.hid (k2_3.out.chg c3.out (by omega) (by omega)); have k3_4 := Lib.hid (k3_3.out.chg c3.out (by omega) (by omega)); have S4 := Lib.hid (S3.out.keep1 c3.out hp2.1 hp2.2.1 hp2.2.2 hw2); have ra4 := Lib.hid (ra3.out.off c3.out oRA.out); have ta4 := Lib.hid (ta3.out.off c3.out oTA.out); have rb4 := Lib.hid (rb3.out.off c3.out oRB.out); have tb4 := Lib.hid (tb3.out.off c3.out oTB.out); have rx4 := Lib.hid (rx3.out.chg c3.out (by omega) (by omega)); have ry4 := Lib.hid (BlAt.chg ry3.out c3.out (by omega) (by omega)); clear k1_3 k2_3 k3_3 S3 ra3 ta3 rb3 tb3 rx3 ry3; have R3 := Lib.hid (R2.out W3 rx4.out ry4.out rb4.out tb4.out); clear e3 A3h R2 c3 d3)
          | (refine ld_any rfl 50 (.tmp 15) rfl (b2) (by rfl) [.slice (some ⟨xb, 0, none⟩) 2200 cB, .slice (some ⟨yb, 0, none⟩) 2200 2200] k2_4.out rfl Tryz.underlying50 (IM2 _ _) ?_)
          | (refine ld_any rfl 58 (.tmp 16) rfl (b3) (by rfl) fs k3_4.out rfl Tryz.underlying58 EFS.out ?_))
        refine R3.out.mono ?_; rintro e w4 ⟨xb', cB', TB', tb', rfl, rx5, tb5, bel4, hx4, ht4⟩
        have hs4 := bel4.size
        have k1_5 := k1_4.out.below bel4
        have k2_5 := k2_4.out.below bel4
        have k3_5 := k3_4.out.below bel4
        have d20_5 := d20_4.out.below bel4
        have S5 := S4.out.below bel4
        have ra5 := ra4.out.below bel4
        have ta5 := ta4.out.below bel4
        have rb5 := rb4.out.below bel4
        have ry5 := ry4.out.below bel4
        have rb5 : KRow .u32 w4 R0 cr y.W.rep := by rw [REP.out]; exact rb5
        have OB2 : Hid (∀ j, j = g ∨ j = b1 ∨ j = b2 ∨ j = b3 → (y.W.rep = [] ∨ Off R0 j) ∧ (y.W.tr = [] ∨ Off TB' j) ∧ xb' ≠ j ∧ yb ≠ j) := Lib.hid (fun j hj => by
          have hjl : j < W3.heap.size := by
            have h2 := KP.s.at_.bytes.lt
            rcases hj with rfl | rfl | rfl | rfl <;> omega
          obtain ⟨o1, o2, o3, o4⟩ := ob j hj
          refine ⟨by rw [REP.out]; exact o1, ?_, ?_, o4⟩
          · rcases ht4 with ⟨rfl, h⟩ | h
            · rw [h]; exact o2
            · exact .inr (fun z hz => by have := h z hz; omega)
          · rcases hx4 with rfl | h
            · exact o3
            · omega)
        have LG := Lib.hid (bx_len NXI.out.ok.c R0 cr TB' tb')
        have hx5 : xb' < w4.heap.size := by
          obtain ⟨z, hz, hl, _⟩ := rx5.2.2.2 (by intro e; have := NXF.out; obtain ⟨_, _, _, _, hl⟩ := this; rw [e] at hl; simp at hl)
          cases hz; exact hl
        have hy5 : yb < w4.heap.size := by omega
        obtain ⟨A6, e6, d22_6, d23_6, bA6⟩ : ∃ A6, (w4.alloc (.cells #[.int .u32 0, .int .u32 0, .int .u32 0, .int .u32 0, .int .u32 0, .int .u32 0, .int .u32 0, .int .u32 0, .int .u32 0, .int .u32 0, .int .u32 0, .slice none 0 0, .int .i64 0, .slice none 0 0, .bool false, .int .u32 0, .int .i64 0, .int .i64 0] 58)).alloc (.cells #[.slice none 0 0, .slice none 0 0] 50) = A6 ∧ HasB A6 w4.heap.size 58 [.int .u32 0, .int .u32 0, .int .u32 0, .int .u32 0, .int .u32 0, .int .u32 0, .int .u32 0, .int .u32 0, .int .u32 0, .int .u32 0, .int .u32 0, .slice none 0 0, .int .i64 0, .slice none 0 0, .bool false, .int .u32 0, .int .i64 0, .int .i64 0] ∧ HasB A6 (w4.heap.size + 1) 50 [.slice none 0 0, .slice none 0 0] ∧ Below w4.heap.size w4 A6 := ⟨_, rfl, (HasB.newAt w4 _ _ #[.int .u32 0, .int .u32 0, .int .u32 0, .int .u32 0, .int .u32 0, .int .u32 0, .int .u32 0, .int .u32 0, .int .u32 0, .int .u32 0, .int .u32 0, .slice none 0 0, .int .i64 0, .slice none 0 0, .bool false, .int .u32 0, .int .i64 0, .int .i64 0] rfl).al _, HasB.newAt _ _ _ #[.slice none 0 0, .slice none 0 0] (by simp), bel_al (bel_al (Below.refl _ _) _) _⟩
        have hA6 : A6.heap.size = w4.heap.size + 1 + 1 := by rw [← e6]; simp
        have k1_6 := Lib.hid (k1_5.below bA6); have k2_6 := Lib.hid (k2_5.below bA6); have k3_6 := Lib.hid (k3_5.below bA6); have d20_6 := Lib.hid (d20_5.below bA6)
        have S6 := Lib.hid (S5.below bA6); have ra6 := Lib.hid (ra5.below bA6); have ta6 := Lib.hid (ta5.below bA6); have rb6 := Lib.hid (rb5.below bA6); have tb6 := Lib.hid (tb5.below bA6); have rx6 := Lib.hid (rx5.below bA6); have ry6 := Lib.hid (ry5.below bA6)
        have O22 := Lib.hid (fun j (hj : w4.heap.size ≤ j) => (⟨ra5.offNew hj, ta5.offNew hj, rb5.offNew hj, tb5.offNew hj⟩ : (y.W.rep = [] ∨ Off QA' j) ∧ (y.W.tr = [] ∨ Off TA' j) ∧ (y.W.rep = [] ∨ Off R0 j) ∧ (y.W.tr = [] ∨ Off TB' j)))
        replace d22_6 := Lib.hid d22_6
        replace d23_6 := Lib.hid d23_6
        have hp4 : p ≠ w4.heap.size ∧ g ≠ w4.heap.size ∧ h ≠ w4.heap.size ∧ p ≠ w4.heap.size + 1 ∧ g ≠ w4.heap.size + 1 ∧ h ≠ w4.heap.size + 1 := by
          have h1 := KP.s.at_.own.lt; have h2 := KP.s.at_.bytes.lt; have h3 := KP.s.at_.zones.lt
          omega
        clear k1_5 k2_5 k3_5 d20_5 S5 ra5 ta5 rb5 tb5 rx5 ry5 bel4 hx4 ht4 bA6 R3 k1_4 k2_4 k3_4 d20_4 S4 ra4 ta4 rb4 tb4 rx4 ry4
        generalize hgs : y.cs R0 cr TB' tb' = gs at *
        have EGL := Lib.hid (IR gs LG.out.1)
        go_wp2_with (first
          | (refine st_any rfl 58 (.tmp 22) (.tmp 132) rfl rfl (w4.heap.size) [.int .u32 0, .int .u32 0, .int .u32 0, .int .u32 0, .int .u32 0, .int .u32 0, .int .u32 0, .int .u32 0, .int .u32 0, .int .u32 0, .int .u32 0, .slice none 0 0, .int .i64 0, .slice none 0 0, .bool false, .int .u32 0, .int .i64 0, .int .i64 0] gs (by rfl) (by rfl) d22_6.out (by rw [LG.out.1]; rfl) EGL.out LG.out.2 ?_; intro W7 n7 c7; have d22_7 := Lib.hid n7; replace c7 := Lib.hid c7; clear n7; have k1_7 := Lib.hid (k1_6.out.chg c7.out (by omega) (by omega)); have k2_7 := Lib.hid (k2_6.out.chg c7.out (by omega) (by omega)); have k3_7 := Lib.hid (k3_6.out.chg c7.out (by omega) (by omega)); have d20_7 := Lib.hid (d20_6.out.chg c7.out (by omega) (by omega)); have d23_7 := Lib.hid (d23_6.out.chg c7.out (by omega) (by omega)); have S7 := Lib.hid (S6.out.keep1 c7.out hp4.1 hp4.2.1 hp4.2.2.1 (by omega)); have ra7 := Lib.hid (ra6.out.off c7.out (O22.out (w4.heap.size) (by omega)).1); have ta7 := Lib.hid (ta6.out.off c7.out (O22.out (w4.heap.size) (by omega)).2.1); have rb7 := Lib.hid (rb6.out.off c7.out (O22.out (w4.heap.size) (by omega)).2.2.1); have tb7 := Lib.hid (tb6.out.off c7.out (O22.out (w4.heap.size) (by omega)).2.2.2); have rx7 := Lib.hid (rx6.out.chg c7.out (by omega) (by omega)); have ry7 := Lib.hid (BlAt.chg ry6.out c7.out (by omega) (by omega)); clear k1_6 k2_6 k3_6 d20_6 d22_6 d23_6 S6 ra6 ta6 rb6 tb6 rx6 ry6; clear c7 e6)
          | (refine st_any rfl 50 (.tmp 23) (.tmp 133) rfl rfl (w4.heap.size + 1) [.slice none 0 0, .slice none 0 0] [.slice (some ⟨xb', 0, none⟩) 2200 cB', .slice (some ⟨yb, 0, none⟩) 2200 2200] (by rfl) (by rfl) d23_7.out rfl (IM2 _ _) (by simp [Value.oneCell']) ?_; intro W8 n8 c8; have d23_8 := Lib.hid n8; replace c8 := Lib.hid c8; clear n8; have k1_8 := Lib.hid (k1_7.out.chg c8.out (by omega) (by omega)); have k2_8 := Lib.hid (k2_7.out.chg c8.out (by omega) (by omega)); have k3_8 := Lib.hid (k3_7.out.chg c8.out (by omega) (by omega)); have d20_8 := Lib.hid (d20_7.out.chg c8.out (by omega) (by omega)); have d22_8 := Lib.hid (d22_7.out.chg c8.out (by omega) (by omega)); have S8 := Lib.hid (S7.out.keep1 c8.out hp4.2.2.2.1 hp4.2.2.2.2.1 hp4.2.2.2.2.2 (by omega)); have ra8 := Lib.hid (ra7.out.off c8.out (O22.out (w4.heap.size + 1) (by omega)).1); have ta8 := Lib.hid (ta7.out.off c8.out (O22.out (w4.heap.size + 1) (by omega)).2.1); have rb8 := Lib.hid (rb7.out.off c8.out (O22.out (w4.heap.size + 1) (by omega)).2.2.1); have tb8 := Lib.hid (tb7.out.off c8.out (O22.out (w4.heap.size + 1) (by omega)).2.2.2); have rx8 := Lib.hid (rx7.out.chg c8.out (by omega) (by omega)); have ry8 := Lib.hid (BlAt.chg ry7.out c8.out (by omega) (by omega)); clear k1_7 k2_7 k3_7 d20_7 d22_7 d23_7 S7 ra7 ta7 rb7 tb7 rx7 ry7; clear c8)
          | (refine ld_any rfl 40 (.tmp 20) rfl (w2.heap.size) (by rfl) ys d20_8.out rfl Tryz.underlying40 EYL.out ?_)
          | (refine st_any rfl 40 (.tmp 12) (.tmp 135) rfl rfl (b1) xs ys (by rfl) (by rfl) k1_8.out (by rw [LX1.out.1, LY1.out.1]) EYL.out LY1.out.2 ?_; intro W9 n9 c9; have k1_9 := Lib.hid n9; replace c9 := Lib.hid c9; clear n9; have k2_9 := Lib.hid (k2_8.out.chg c9.out (by omega) (by omega)); have k3_9 := Lib.hid (k3_8.out.chg c9.out (by omega) (by omega)); have d20_9 := Lib.hid (d20_8.out.chg c9.out (by omega) (by omega)); have d22_9 := Lib.hid (d22_8.out.chg c9.out (by omega) (by omega)); have d23_9 := Lib.hid (d23_8.out.chg c9.out (by omega) (by omega)); have S9 := Lib.hid (S8.out.keep1 c9.out hd5 (by omega) hd8 (by omega)); have ra9 := Lib.hid (ra8.out.off c9.out (OA2.out (b1) (.inl rfl)).1); have ta9 := Lib.hid (ta8.out.off c9.out (OA2.out (b1) (.inl rfl)).2); have rb9 := Lib.hid (rb8.out.off c9.out (OB2.out (b1) (.inr (.inl rfl))).1); have tb9 := Lib.hid (tb8.out.off c9.out (OB2.out (b1) (.inr (.inl rfl))).2.1); have rx9 := Lib.hid (rx8.out.chg c9.out ((OB2.out (b1) (.inr (.inl rfl))).2.2.1) ((OB2.out (b1) (.inr (.inl rfl))).2.2.1)); have ry9 := Lib.hid (BlAt.chg ry8.out c9.out ((OB2.out (b1) (.inr (.inl rfl))).2.2.2) ((OB2.out (b1) (.inr (.inl rfl))).2.2.2)); clear k1_8 k2_8 k3_8 d20_8 d22_8 d23_8 S8 ra8 ta8 rb8 tb8 rx8 ry8; clear c9)
          | (refine ld_any rfl 58 (.tmp 22) rfl (w4.heap.size) (by rfl) gs d22_9.out rfl Tryz.underlying58 EGL.out ?_)
          | (refine st_any rfl 58 (.tmp 16) (.tmp 136) rfl rfl (b3) fs gs (by rfl) (by rfl) k3_9.out (by rw [LX3.out.1, LG.out.1]) EGL.out LG.out.2 ?_; intro Wa na ca; have k3_a := Lib.hid na; replace ca := Lib.hid ca; clear na; have k1_a := Lib.hid (k1_9.out.chg ca.out (by omega) (by omega)); have k2_a := Lib.hid (k2_9.out.chg ca.out (by omega) (by omega)); have d20_a := Lib.hid (d20_9.out.chg ca.out (by omega) (by omega)); have d22_a := Lib.hid (d22_9.out.chg ca.out (by omega) (by omega)); have d23_a := Lib.hid (d23_9.out.chg ca.out (by omega) (by omega)); have Sa := Lib.hid (S9.out.keep1 ca.out hd7 (by omega) hd10 (by omega)); have raa := Lib.hid (ra9.out.off ca.out (OA2.out (b3) (.inr (.inr rfl))).1); have taa := Lib.hid (ta9.out.off ca.out (OA2.out (b3) (.inr (.inr rfl))).2); have rba := Lib.hid (rb9.out.off ca.out (OB2.out (b3) (.inr (.inr (.inr rfl)))).1); have tba := Lib.hid (tb9.out.off ca.out (OB2.out (b3) (.inr (.inr (.inr rfl)))).2.1); have rxa := Lib.hid (rx9.out.chg ca.out ((OB2.out (b3) (.inr (.inr (.inr rfl)))).2.2.1) ((OB2.out (b3) (.inr (.inr (.inr rfl)))).2.2.1)); have rya := Lib.hid (BlAt.chg ry9.out ca.out ((OB2.out (b3) (.inr (.inr (.inr rfl)))).2.2.2) ((OB2.out (b3) (.inr (.inr (.inr rfl)))).2.2.2)); clear k1_9 k2_9 k3_9 d20_9 d22_9 d23_9 S9 ra9 ta9 rb9 tb9 rx9 ry9; clear ca)
          | (refine ld_any rfl 50 (.tmp 23) rfl (w4.heap.size + 1) (by rfl) [.slice (some ⟨xb', 0, none⟩) 2200 cB', .slice (some ⟨yb, 0, none⟩) 2200 2200] d23_a.out rfl Tryz.underlying50 (IM2 _ _) ?_)
          | (refine st_any rfl 50 (.tmp 15) (.tmp 137) rfl rfl (b2) [.slice (some ⟨xb, 0, none⟩) 2200 cB, .slice (some ⟨yb, 0, none⟩) 2200 2200] [.slice (some ⟨xb', 0, none⟩) 2200 cB', .slice (some ⟨yb, 0, none⟩) 2200 2200] (by rfl) (by rfl) k2_a.out rfl (IM2 _ _) (by simp [Value.oneCell']) ?_; intro Wb nb cb; have k2_b := Lib.hid nb; replace cb := Lib.hid cb; clear nb; have k1_b := Lib.hid (k1_a.out.chg cb.out (by omega) (by omega)); have k3_b := Lib.hid (k3_a.out.chg cb.out (by omega) (by omega)); have d20_b := Lib.hid (d20_a.out.chg cb.out (by omega) (by omega)); have d22_b := Lib.hid (d22_a.out.chg cb.out (by omega) (by omega)); have d23_b := Lib.hid (d23_a.out.chg cb.out (by omega) (by omega)); have Sb := Lib.hid (Sa.out.keep1 cb.out hd6 (by omega) hd9 (by omega)); have rab := Lib.hid (raa.out.off cb.out (OA2.out (b2) (.inr (.inl rfl))).1); have tab := Lib.hid (taa.out.off cb.out (OA2.out (b2) (.inr (.inl rfl))).2); have rbb := Lib.hid (rba.out.off cb.out (OB2.out (b2) (.inr (.inr (.inl rfl)))).1); have tbb := Lib.hid (tba.out.off cb.out (OB2.out (b2) (.inr (.inr (.inl rfl)))).2.1); have rxb := Lib.hid (rxa.out.chg cb.out ((OB2.out (b2) (.inr (.inr (.inl rfl)))).2.2.1) ((OB2.out (b2) (.inr (.inr (.inl rfl)))).2.2.1)); have ryb := Lib.hid (BlAt.chg rya.out cb.out ((OB2.out (b2) (.inr (.inr (.inl rfl)))).2.2.2) ((OB2.out (b2) (.inr (.inr (.inl rfl)))).2.2.2)); clear k1_a k2_a k3_a d20_a d22_a d23_a Sa raa taa rba tba rxa rya; clear cb; have SAME := Lib.hid (same13_any NXI.out.ok (by have := NXI.out.tr; omega) Wb QA' R0 TA' TB' qc' cr tc' tb' rab.out rbb.out tab.out tbb.out))
          | (refine wpl_unguard (by rfl) ?_; refine ld_any rfl 40 (.tmp 12) rfl (b1) (by rfl) ys k1_b.out rfl Tryz.underlying40 EYL.out ?_)
          | (refine wpl_unguard (by rfl) ?_; refine ld_any rfl 58 (.tmp 16) rfl (b3) (by rfl) gs k3_b.out rfl Tryz.underlying58 EGL.out ?_))
        have SAME2 : Calls Tryz.prog 19 #[.agg ys.toArray, .agg gs.toArray] Wb fun e w' => e = .returned (.int .i64 1) ∧ Below Wb.heap.size Wb w' := by
          have h := SAME.out
          unfold Bx.val at h
          rw [hys, hgs] at h
          exact h
        refine SAME2.mono ?_; rintro e we ⟨rfl, bele⟩
        have NEXT : Hid (PlR w p g h b1 b2 b3 T yb 2200 R0 cr (n0 + nn.toNat) y B2 Bf2 QA' qc' TA' tc' TB' tb' xb' cB' we) := Lib.hid ⟨NXI.out, HEQ.out, rxb.out.2.2.1, by obtain ⟨_, _, _, _, hl⟩ := NXF.out; exact hl, Sb.out.below bele,
          by rw [hys]; exact k1_b.out.below bele, k2_b.out.below bele, by rw [hgs]; exact k3_b.out.below bele, rab.out.below bele, tab.out.below bele, rbb.out.below bele, tbb.out.below bele, rxb.out.below bele, ryb.out.below bele, OA2.out, OB2.out,
          ⟨hd1, hd2, hd3, hd4, hd5, hd6, hd7, hd8, hd9, hd10⟩⟩
        have hkl : kk ≤ lf := by omega
        clear SAME SAME2 k1_b k2_b k3_b d20_b d22_b d23_b Sb rab tab rbb tbb rxb ryb bele KP K hys hgs hxs hfs
        go_wp2_with fail
        go_roundw
        case rel => exact ⟨k + 1, lf - kk, n0 + nn.toNat, y, B2, Bf2, QA', qc', TA', tc', TB', tb', xb', cB', by congr 1; omega, by go_num, by omega, by omega, by omega, NEXT⟩
        case measure => simp [intOf]; omega
      · obtain rfl : k = sl := by omega
        have KP := K.out
        have hwt : wholeB T (1024 : Int) (1024 : Int) = true := by
          have hq := hT.wh 1024 1024 (by decide)
          rw [show ((1024 : Nat) : Int) = 1024 from rfl] at hq
          rw [hq]
          exact decide_eq_true (by omega)
        have RI := Lib.hid (read_i KP.s.at_ 1024 1024 hwt)
        have ECUT := KP.eq.cut (a := 1024) (n := 1024) (by omega) (by omega)
        have HY : Bytes ((Bf.drop 1024).take 1024) := fun z hz => KP.by_ z (List.mem_of_mem_drop (List.mem_of_mem_take hz))
        have HL : ((Bf.drop 1024).take 1024).length = 1024 := by rw [List.length_take, List.length_drop, KP.len]; rfl
        go_wp2_with fail
        refine RI.out.mono ?_; rintro e w6 ⟨rfl, n6, b6⟩
        have n6 : HasB w6 wr.heap.size 5 (((Bf.drop 1024).take 1024).map (Value.int .u8)) := by rw [← ECUT]; exact n6
        have r6 := rowB n6 HY (by rw [HL]; unfold maxLen; omega)
        rw [HL] at r6
        obtain ⟨AS, cA, hsl, hcut⟩ := cut_r KP.rx KP.len
        have m6 := (KP.k2.below b6).cell 0
        simp only [List.getElem?_cons_succ, List.getElem?_cons_zero] at m6
        have B6 := Lib.hid (KP.s.below b6).bel
        have v1 : ∀ q, (convert 22 9 (.slice (some ⟨wr.heap.size, 0, none⟩) 1024 1024)).run Tryz.prog (w6.drewN q) = .ok (.string (strOfNums ((Bf.drop 1024).take 1024))) (w6.drewN q) := fun q => conv_row (r6.below (below_drewN (Below.refl _ _) q)) 1024 HL
        have v2 : ∀ q, (convert 22 9 (.slice AS 1024 cA)).run Tryz.prog (w6.drewN q) = .ok (.string (strOfNums ((Bf.drop 1024).take 1024))) (w6.drewN q) := fun q => conv_row (hcut _ (below_drewN b6 q)) 1024 HL
        clear n6 r6 hcut KP K RI ECUT HY HL b6
        generalize strOfNums ((Bf.drop 1024).take 1024) = txt at *
        go_wp2_with fail
        go_quiet (fail)
        go_wp2_with fail
        go_ret
        exact ⟨ret_bool (by simp), below_drewN B6.out _⟩
set_option maxRecDepth 100000 in
theorem vplays_long (AW : Hid AwB) (A0 : Option Addr) (ca cl : Nat) (D0 : Option Addr) (cd dl : Nat) (R0 : Option Addr) (cr rl : Nat) (S0 : Option Addr) (cs sl : Nat)
  (m1 : cl ≤ maxLen) (m2 : dl ≤ maxLen) (m3 : rl ≤ maxLen) (m4 : sl ≤ maxLen) (hl : 500 < cl ∨ (cl ≤ 500 ∧ 500 < dl) ∨ (cl ≤ 500 ∧ dl ≤ 500 ∧ 50 < rl) ∨ (cl ≤ 500 ∧ dl ≤ 500 ∧ rl ≤ 50 ∧ 10 < sl)) (w : World) :
  Calls Tryz.prog 3 #[.slice A0 cl ca, .slice D0 dl cd, .slice R0 rl cr, .slice S0 sl cs] w fun e w' => e = .returned (.bool true) ∧ Below w.heap.size w w' := by
 unfold maxLen at m1 m2 m3 m4
 rcases hl with h | ⟨h1, h⟩ | ⟨h1, h2, h⟩ | ⟨h1, h2, h3, h⟩
 all_goals
  go_enter Tryz.func3, Tryz.ntmps3
  go_wp2_with fail
  refine (AW.out _).mono ?_; rintro e w1 ⟨rfl, hb1⟩
  have B1 := Lib.hid hb1; clear hb1
  go_wp2_with fail
  refine (AW.out _).mono ?_; rintro e w2 ⟨rfl, hb2⟩
  have B2 := Lib.hid (bel_then B1.out hb2); clear hb2
  go_wp2_with fail
  go_ret
  exact ⟨rfl, B2.out⟩
theorem vplays13 (AW : Hid AwB) (NC : Hid NewC) (SC : Hid SliceC2) (RC : Hid RCodeC) (A0 : Option Addr) (ca : Nat) (C : List Int) (D0 : Option Addr) (cd : Nat) (D : List Int) (R0 : Option Addr) (rl cr : Nat) (S0 : Option Addr) (sl cs : Nat) (w : World)
  (rA : RowAt w A0 ca C) (rD : RowAt w D0 cd D) (rR : ∃ R : List Int, rl = R.length ∧ KRow .u32 w R0 cr R) (rS : ∃ SL : List Int, sl = SL.length ∧ KRow .i64 w S0 cs SL) :
  Calls Tryz.prog 3 #[.slice A0 C.length ca, .slice D0 D.length cd, .slice R0 rl cr, .slice S0 sl cs] w fun e w' => e = .returned (.bool true) ∧ Below w.heap.size w w' := by
 obtain ⟨R, rfl, rR⟩ := rR
 obtain ⟨SL, rfl, rS⟩ := rS
 by_cases h : C.length ≤ 500 ∧ D.length ≤ 500 ∧ R.length ≤ 50 ∧ SL.length ≤ 10
 · exact vplays_few AW NC SC RC A0 ca _ C D0 cd _ D R0 cr _ R S0 cs _ SL rfl rfl rfl rfl h.1 h.2.1 h.2.2.1 h.2.2.2 w rA rD rR rS
 · exact vplays_long AW A0 ca _ D0 cd _ R0 cr _ S0 cs _ (Nat.le_trans rA.1 rA.2.1) (Nat.le_trans rD.1 rD.2.1) (Nat.le_trans rR.1 rR.2.1) (Nat.le_trans rS.1 rS.2.1) (by omega) w
end Go.Proofs.YtbgnkljeodandaaGreat.Mm
