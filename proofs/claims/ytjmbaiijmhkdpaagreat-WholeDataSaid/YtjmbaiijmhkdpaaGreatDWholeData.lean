/- The statement WholeData, walked. -/
import Derived.Test.YtjmbaiijmhkdpaaGreatDHoE
namespace Go.Proofs.YtjmbaiijmhkdpaaGreat.Mm
open Go.ChangeShapes Go.WideShapes Go.ChangeAt Go.RowKit
set_option linter.unusedVariables false
set_option linter.unusedSimpArgs false
set_option maxRecDepth 10000
set_option maxHeartbeats 4000000
set_option maxHeartbeats 32000000 in
theorem data_main (A B A2 A3 P Q R : Option Addr) (ca cb c2 c3 cp cq cr c d la lb np nq nr : Nat) (C D La Lb lp lq lr : List Int) (hc : C.length = c) (hd : D.length = d) (hla : La.length = la) (hlb : Lb.length = lb) (hlp : lp.length = np) (hlq : lq.length = nq) (hlr : lr.length = nr)
    (h1 : c ≤ 400) (h2 : d ≤ 400) (h3 : la ≤ 100) (h4 : lb ≤ 100) (h5 : np ≤ 20) (h6 : nq ≤ 20) (h7 : nr ≤ 30) (w : World) (rA : RowAt w A ca C) (rB : RowAt w B cb D) (ra : RowAt w A2 c2 La) (rb : RowAt w A3 c3 Lb) (rp : KRow .u32 w P cp lp) (rq : KRow .u32 w Q cq lq) (rr : RowAt w R cr lr) :
    Calls Tryz.prog 9 #[.slice A c ca, .slice B d cb, .slice A2 la c2, .slice A3 lb c3, .slice P np cp, .slice Q nq cq, .slice R nr cr] w fun e w' => e = .returned (.bool true) ∧ Below w.heap.size w w' := by
  have t0 : decide ((400 : Int) < (c : Int)) = false := decide_eq_false (by omega)
  have t1 : decide ((400 : Int) < (d : Int)) = false := decide_eq_false (by omega)
  have t2 : decide ((100 : Int) < (la : Int)) = false := decide_eq_false (by omega)
  have t3 : decide ((100 : Int) < (lb : Int)) = false := decide_eq_false (by omega)
  have t4 : decide ((20 : Int) < (np : Int)) = false := decide_eq_false (by omega)
  have t5 : decide ((20 : Int) < (nq : Int)) = false := decide_eq_false (by omega)
  have t6 : decide ((30 : Int) < (nr : Int)) = false := decide_eq_false (by omega)
  have NC := Lib.hid (fun w' => hNew 128 (by omega) (by omega) w')
  rw [show (((64 * 128 : Nat)) : Int) = 8192 from rfl] at NC
  have IN := Lib.hid (fun w' (b : Below w.heap.size w w') => And.intro (rA.below b) (And.intro (rB.below b) (And.intro (ra.below b) (And.intro (rb.below b) (And.intro (rp.below b) (And.intro (rq.below b) (rr.below b)))))))
  have LN := Lib.hid (And.intro hc (And.intro hd (And.intro hla (And.intro hlb (And.intro hlp (And.intro hlq hlr))))))
  have BD := Lib.hid (And.intro h1 (And.intro h2 (And.intro h3 (And.intro h4 (And.intro h5 (And.intro h6 h7))))))
  have hbL : Bytes (layL C [1]) := layL_byte rA.2.2.1 (by intro z hz; simp at hz; omega) (by omega) (by decide)
  have hlen : (layL C [1]).length = c + 13 := by rw [layL_len, hc]; show 12 + c + 1 = _; omega
  have LB := Lib.hid (And.intro hbL hlen)
  clear hbL hlen hc hd hla hlb hlp hlq hlr h1 h2 h3 h4 h5 h6 h7 rA rB ra rb rp rq rr
  go_enter Tryz.func9, Tryz.ntmps9
  go_wp2_with fail
  refine (goes14 _).mono ?_; rintro e w1 ⟨rfl, b1⟩
  have B1 := Lib.hid b1; clear b1
  dsimp only
  go_wp2_with fail
  clear t0 t1 t2 t3 t4 t5 t6
  refine (NC.out _).mono ?_; rintro e w3 ⟨hb, F3, rfl, at3, hF3, b3⟩
  have AT3 := Lib.hid at3
  have B3 := Lib.hid (bel_then B1.out b3)
  have FL := Lib.hid (fun i (hi : F3 i) => Nat.le_trans B1.out.size (hF3 i hi))
  clear at3 hF3 b3
  dsimp only
  go_wp2_with fail
  refine (NC.out _).mono ?_; rintro e w4 ⟨ob, G4, rfl, at4, hG4, b4⟩
  have DJ : Hid (∀ i, F3 i → ¬ G4 i) := Lib.hid (fun i hf hg => by have := AT3.out.lim i hf; have := hG4 i hg; omega)
  have HA4 := Lib.hid (AT3.out.below b4)
  have OA4 := Lib.hid at4
  have B4 := Lib.hid (bel_then B3.out b4)
  have GL := Lib.hid (fun i (hi : G4 i) => Nat.le_trans B3.out.size (hG4 i hi))
  clear at4 hG4 b4 NC AT3 B3 B1
  -- the bytes of mine
  obtain ⟨W5, e5, R5, b5⟩ : ∃ W5, w4.alloc (.cells #[.int .u8 1] 5) = W5 ∧ RowAt W5 (some ⟨w4.heap.size, 0, none⟩) 1 [1] ∧ Below w4.heap.size w4 W5 :=
    ⟨_, rfl, row_blk (l := [1]) (by intro z hz; simp at hz; omega) (by unfold maxLen; decide) (HasB.new w4 5 ([1].map (Value.int .u8))), bel_al (Below.refl _ _) _⟩
  have LC := Lib.hid (rLay_any A (some ⟨w4.heap.size, 0, none⟩) ca 1 C [1] c 1 LN.out.1 rfl (by have := BD.out.1; omega) (by omega) W5 (IN.out W5 (bel_then B4.out b5)).1 R5)
  have BW5 := Lib.hid b5
  clear R5 b5
  dsimp only
  go_wp2_with fail
  refine LC.out.mono ?_; rintro e w6 ⟨rfl, b6⟩
  have CV := conv_bytes w6 (strOfNums (layL C [1]))
  rw [strOfNums_size, LB.out.2] at CV
  have R := bytes_row w6 (layL C [1]) LB.out.1 (by rw [LB.out.2]; have := BD.out.1; omega)
  rw [LB.out.2] at R
  have BX := Lib.hid (bel_then (bel_then BW5.out b6) (conv_below w6 (strOfNums (layL C [1]))))
  have N6 := Lib.hid (Nat.le_trans BW5.out.size b6.size)
  have RX := Lib.hid R
  clear R b6 LC BW5 e5
  obtain ⟨l, hl⟩ : ∃ l, layL C [1] = l := ⟨_, rfl⟩
  rw [hl] at LB CV RX BX ⊢
  clear hl
  generalize Lib.bytesWorld w6 5 (strOfNums l) = w7 at *
  generalize strOfNums l = sx at *
  dsimp only
  go_upto_region 6 with fail
  obtain ⟨W8, e8, K8, b8⟩ : ∃ W8, w7.alloc (.cells #[.int .u32 5, .int .u32 6] 55) = W8 ∧ KRow .u32 W8 (some ⟨w7.heap.size, 0, none⟩) 2 [5, 6] ∧ Below w7.heap.size w7 W8 :=
    ⟨_, rfl, krow56 (HasB.newAt _ _ _ #[.int .u32 5, .int .u32 6] rfl), bel_al (Below.refl _ _) _⟩
  have B8 := Lib.hid (bel_then B4.out (bel_then BX.out b8))
  have H8 := Lib.hid (HA4.out.below (bel_then BX.out b8))
  have O8 := Lib.hid (OA4.out.below (bel_then BX.out b8))
  have R8 := Lib.hid (RX.out.below b8)
  have NX : Hid (∀ i, F3 i ∨ G4 i → i < w6.heap.size) := Lib.hid (fun i hi => by
    have := N6.out
    rcases hi with hi | hi
    · have := HA4.out.lim i hi; omega
    · have := OA4.out.lim i hi; omega)
  have KK := Lib.hid K8
  have X6 := Lib.hid (show w6.heap.size < w7.heap.size from row_lt' RX.out (by rw [LB.out.2]; omega) rfl)
  have X7 := Lib.hid b8.size
  clear K8 b8 HA4 OA4 RX BX CV B4
  obtain ⟨h0, hh0⟩ : ∃ h0, newO 128 = h0 := ⟨_, rfl⟩
  have HI0 : Hid (HoI 128 0 h0) := Lib.hid (hh0 ▸ newO_i 128 0)
  rw [hh0] at H8 O8
  clear hh0
  have LD := Lib.hid (hLoad W8 hb 128 h0 F3 (some ⟨w6.heap.size, 0, none⟩) (grownCap w6 (c + 13) 0 5) (c + 13) l 1024 (some ⟨w7.heap.size, 0, none⟩) 2 2 [5, 6] H8.out HI0.out.Z (by omega) (by omega) R8.out LB.out.2 (by have := BD.out.1; omega) (by decide) KK.out rfl (by omega))
  generalize grownCap w6 (c + 13) 0 5 = gc at *
  generalize w6.heap.size = X6a at *
  go_wp2_with fail
  (try rw [e8])
  refine LD.out.mono ?_; rintro e w9 hq9
  clear LD
  rcases hq9 with ⟨hne, rfl, at9, b9⟩ | ⟨hE, k, b, hf, hk, hs, hb2, rfl, F9, at9, ch9, sb9⟩
  · as_aux_lemma =>
    have R9 := Lib.hid (R8.out.below b9)
    have O9 := Lib.hid (O8.out.below b9)
    have B9 := Lib.hid (bel_then B8.out b9)
    obtain ⟨E, hEE⟩ : ∃ E, loadE 128 h0 (imgE l) (codeI l) (dataL l) 1024 = E := ⟨_, rfl⟩
    obtain ⟨W10, e10, K10, b10⟩ : ∃ W10, w9.alloc (.cells #[.int .u32 5, .int .u32 6] 55) = W10 ∧ KRow .u32 W10 (some ⟨w9.heap.size, 0, none⟩) 2 [5, 6] ∧ Below w9.heap.size w9 W10 :=
      ⟨_, rfl, krow56 (HasB.newAt _ _ _ #[.int .u32 5, .int .u32 6] rfl), bel_al (Below.refl _ _) _⟩
    have LD := Lib.hid (hLoad W10 ob 128 h0 G4 (some ⟨X6a, 0, none⟩) gc (c + 13) l 1024 (some ⟨w9.heap.size, 0, none⟩) 2 2 [5, 6] (O9.out.below b10) HI0.out.Z (by omega) (by omega) (R9.out.below b10) LB.out.2 (by have := BD.out.1; omega) (by decide) K10 rfl (by omega))
    have B10 := Lib.hid (bel_then B9.out b10)
    unfold HLoadP at LD
    rw [hEE] at hne LD ⊢
    have q2 : (E != 0) = true := by simpa using hne
    have q3 : (E != E) = false := by simp
    have HNE := Lib.hid hne
    clear hEE hne b9 at9 K10 b10 R9 O9 R8 O8 H8 KK
    dsimp only
    go_wp2_with fail
    (try rw [e10])
    refine LD.out.mono ?_; rintro e w11 (⟨_, rfl, _, b11⟩ | ⟨hE, _⟩)
    rotate_left
    · exact absurd hE HNE.out
    have B11 := Lib.hid (bel_then B10.out b11)
    have L1 := Lib.hid (lay_w B A2 cb c2 D La d la LN.out.2.1 LN.out.2.2.1 BD.out.2.1 BD.out.2.2.1 w11 (IN.out _ B11.out).2.1 (IN.out _ B11.out).2.2.1)
    clear b11 LD e10 B10
    dsimp only
    go_wp2_with fail
    refine L1.out.mono ?_; rintro e w12 ⟨U, cu, un, E1, L1', rfl, b12, _⟩
    have B12 := Lib.hid (bel_then B11.out b12)
    have L2 := Lib.hid (lay_w B A3 cb c3 D Lb d lb LN.out.2.1 LN.out.2.2.2.1 BD.out.2.1 BD.out.2.2.2.1 w12 (IN.out _ B12.out).2.1 (IN.out _ B12.out).2.2.2.1)
    clear b12 L1
    dsimp only
    go_wp2_with fail
    refine L2.out.mono ?_; rintro e w13 ⟨V, cv, vn, E2, L2', rfl, b13, _⟩
    have B13 := Lib.hid (bel_then B12.out b13)
    clear b13 L2
    dsimp only
    go_wp2_with fail
    go_ret
    exact ⟨rfl, B13.out⟩
  · as_aux_lemma =>
    have OK := Lib.hid (ld_ok HI0.out.Z hE hk hs hb2)
    have HK := Lib.hid (And.intro hE (And.intro hk (And.intro hs hb2)))
    have K16 : Hid (k < 16) := Lib.hid OK.out.k16
    have HI1 := Lib.hid (OK.out.i HI0.out (by omega) LB.out.1 (rep := [5, 6]) (kr_u32 KK.out) (by simp))
    have HAS1 := Lib.hid (OK.out.has HI0.out.Z [5, 6])
    have R9 := Lib.hid (R8.out.chF ch9 (.inr (fun a ha hi => by cases ha; exact absurd (NX.out _ (.inl hi)) (Nat.lt_irrefl _))))
    have O9 := Lib.hid (O8.out.apart ch9 (fun i hg hf => DJ.out i hf hg))
    have AT9 := Lib.hid at9
    have B9 := Lib.hid (Below.trans B8.out (ch9.below FL.out B8.out.size))
    have DJ9 : Hid (∀ i, F9 i → ¬ G4 i) := Lib.hid (fun i hf hg => (sb9 i hf).elim (fun hf => DJ.out i hf hg) (fun h => by have := O8.out.lim i hg; omega))
    have FL9 := Lib.hid (fun i (hi : F9 i) => (sb9 i hi).elim (FL.out i) (fun h => Nat.le_trans B8.out.size h))
    obtain ⟨W10, e10, K10, b10⟩ : ∃ W10, w9.alloc (.cells #[.int .u32 5, .int .u32 6] 55) = W10 ∧ KRow .u32 W10 (some ⟨w9.heap.size, 0, none⟩) 2 [5, 6] ∧ Below w9.heap.size w9 W10 :=
      ⟨_, rfl, krow56 (HasB.newAt _ _ _ #[.int .u32 5, .int .u32 6] rfl), bel_al (Below.refl _ _) _⟩
    have LD := Lib.hid (hLoad W10 ob 128 h0 G4 (some ⟨X6a, 0, none⟩) gc (c + 13) l 1024 (some ⟨w9.heap.size, 0, none⟩) 2 2 [5, 6] (O9.out.below b10) HI0.out.Z (by omega) (by omega) (R9.out.below b10) LB.out.2 (by have := BD.out.1; omega) (by decide) K10 rfl (by omega))
    have O10 := Lib.hid (O9.out.below b10)
    have AT10 := Lib.hid (AT9.out.below b10)
    have B10 := Lib.hid (bel_then B9.out b10)
    clear hE hk hs hb2 at9 ch9 sb9 DJ FL H8 O8 R8 K10 b10 AT9 O9 R9
    dsimp only
    go_wp2_with fail
    (try rw [e10])
    refine LD.out.mono ?_; rintro e w11 hq11
    clear LD
    rcases hq11 with ⟨hne, _⟩ | ⟨hE, k', b', hf', hk, hs, hb2, rfl, G6, at6, ch6, sb6⟩
    · exact absurd HK.out.1 hne
    obtain rfl : k = k' := by have := HK.out.2.1; rw [hk] at this; injection this with this; exact this.symm
    obtain rfl : hf = hf' := by have := HK.out.2.2.1; rw [hs] at this; omega
    obtain rfl : b = b' := by have := HK.out.2.2.2; rw [hb2] at this; exact (Int.ofNat.inj this).symm
    obtain ⟨h1, hh1⟩ : ∃ h1, loadO h0 k b hf (codeI l) (dataL l) [5, 6] = h1 := ⟨_, rfl⟩
    rw [hh1] at HI1 HAS1 AT10 at6
    obtain ⟨s1, hs1⟩ : ∃ s1 : Sb, s1 = ⟨b, hf, codeI l, newX ((b : Int), ((2 * hf : Nat) : Int)) [5, 6]⟩ := ⟨_, rfl⟩
    rw [← hs1] at HAS1
    have AL0 : Hid (AlZ 128 w hb ob k k 0 h1 h1 F9 G6 s1 w11) := Lib.hid ⟨AT10.out.apart ch6 DJ9.out, at6, AlR.start HI1.out HAS1.out, fun i hf hg => (sb6 i hg).elim (DJ9.out i hf) (fun h => by have := AT10.out.lim i hf; omega), FL9.out, fun i hg => (sb6 i hg).elim (GL.out i) (fun h => Nat.le_trans B10.out.size h), Below.trans B10.out (ch6.below GL.out B10.out.size)⟩
    clear hE hk hs hb2 at6 ch6 sb6 AT10 O10 DJ9 FL9 GL B10 B9 B8 HI1 HAS1 hh1 hs1 HK OK LB HI0 KK NX N6 X6 X7 e10 e8
    have L1 := Lib.hid (lay_w B A2 cb c2 D La d la LN.out.2.1 LN.out.2.2.1 BD.out.2.1 BD.out.2.2.1 w11 (IN.out _ AL0.out.bel).2.1 (IN.out _ AL0.out.bel).2.2.1)
    dsimp only
    go_wp2_with fail
    refine L1.out.mono ?_; rintro e w12 ⟨U, cu, un, E1, LU, rfl, b12, hU⟩
    have AL1 := Lib.hid (AL0.out.below b12)
    have HU := Lib.hid hU
    have L2 := Lib.hid (lay_w B A3 cb c3 D Lb d lb LN.out.2.1 LN.out.2.2.2.1 BD.out.2.1 BD.out.2.2.2.1 w12 (IN.out _ AL1.out.bel).2.1 (IN.out _ AL1.out.bel).2.2.2.1)
    clear b12 L1 hU AL0
    dsimp only
    go_wp2_with fail
    refine L2.out.mono ?_; rintro e w13 ⟨V, cv, vn, E2, LV, rfl, b13, hV⟩
    have AL2 := Lib.hid (AL1.out.below b13)
    have HU2 := Lib.hid (fun (h : E1 = 0) => And.intro ((HU.out h).1.below b13) (HU.out h).2)
    have HV := Lib.hid hV
    have F9L : Hid (∀ i, F9 i ∨ G6 i → i < w12.heap.size) := Lib.hid (fun i hi => hi.elim (AL1.out.ah.lim i) (AL1.out.ao.lim i))
    clear b13 L2 hV AL1 HU
    by_cases hE1 : E1 = 0
    rotate_left
    · as_aux_lemma =>
      have q2 : (E1 != 0) = true := by simpa using hE1
      clear HU2 hE1
      dsimp only
      go_wp2_with fail
      go_ret
      exact ⟨rfl, AL2.out.bel⟩
    subst hE1
    by_cases hE2 : E2 = 0
    rotate_left
    · as_aux_lemma =>
      have q2 : (E2 != 0) = true := by simpa using hE2
      clear HV hE2
      dsimp only
      go_wp2_with fail
      go_ret
      exact ⟨rfl, AL2.out.bel⟩
    subst hE2
    have HU := Lib.hid (HU2.out rfl)
    have HW := Lib.hid (HV.out rfl)
    clear HU2 HV
    have L1 := Lib.hid (AL2.out.load (by omega) HU.out.1 HU.out.2.1 HU.out.2.2.1 (by decide : powS 1024 = true) (IN.out _ AL2.out.bel).2.2.2.2.1 LN.out.2.2.2.2.1 (by have := BD.out; omega))
    dsimp only
    go_wp2_with fail
    refine L1.out.mono ?_; rintro e w14 ⟨v14, h2, F2, rfl, al, ch, sb⟩
    have AL3 := Lib.hid al.swap
    have HW2 := Lib.hid (HW.out.1.chF ch (.inr (fun a ha hi => by have := F9L.out _ (.inl hi); have := HW.out.2.2.2 a ha; omega)))
    have L2 := Lib.hid (AL3.out.load (by omega) HW2.out HW.out.2.1 HW.out.2.2.1 (by decide : powS 1024 = true) (IN.out _ AL3.out.bel).2.2.2.2.2.1 LN.out.2.2.2.2.2.1 (by have := BD.out; omega))
    clear al ch sb L1 AL2
    dsimp only
    go_wp2_with fail
    refine L2.out.mono ?_; rintro e w15 ⟨v15, o2, G2, rfl, al, _, _⟩
    have AL4 := Lib.hid al.swap
    clear al L2 AL3 HW HW2 HU F9L
    dsimp only
    go_wp2_with fail
    go_loopw [28] (fun v wr => ∃ (j n0 : Nat) (h o : Ho) (F G : Nat → Prop) (s : Sb), v = .int .i64 (j : Int) ∧ j ≤ nr ∧ n0 ≤ 128 * j ∧ Hid (AlZ 128 w hb ob k k n0 h o F G s wr)) (fun v _ => nr - (intOf v).toNat)
    case atStart => exact ⟨0, 0, h2, o2, F2, G2, s1, rfl, by omega, by omega, AL4⟩
    case round =>
      obtain ⟨j, n0, h, o, F, G, s, rfl, hj, hn0, AL⟩ := hrel
      clear AL4
      by_cases hjr : j < nr
      · obtain ⟨xr, hxr, xlt, xc⟩ := (IN.out w (Below.refl _ _)).2.2.2.2.2.2.2.2.2 (by intro e; have := LN.out.2.2.2.2.2.2; rw [e] at this; simp at this; omega)
        subst hxr
        have xb := (IN.out w (Below.refl _ _)).2.2.2.2.2.2.2.2.1 (lr.getD j 0) (by rw [List.getD_eq_getElem?_getD, List.getElem?_eq_getElem (by rw [LN.out.2.2.2.2.2.2]; exact hjr)]; exact List.getElem_mem _)
        have KS : Hid (∀ w', Below w.heap.size w w' → w'.cell? (xr.add j) = some (.int .u8 (lr.getD j 0))) := Lib.hid (fun w' b => (b.cell (by rw [block_add]; exact xlt)).trans (xc j (by rw [LN.out.2.2.2.2.2.2]; exact hjr)))
        generalize lr.getD j 0 = rv at *
        obtain ⟨pid, hpid, hp2⟩ : ∃ pid : Nat, rv.tmod 2 = (pid : Int) ∧ pid ≤ 1 := ⟨(rv.tmod 2).toNat, by rw [Int.tmod_eq_emod_of_nonneg (by omega)]; omega, by rw [Int.tmod_eq_emod_of_nonneg (by omega)]; omega⟩
        obtain ⟨N, hN, hN64⟩ : ∃ N : Nat, rv.tdiv 4 = (N : Int) ∧ N ≤ 64 := ⟨(rv.tdiv 4).toNat, by rw [Int.tdiv_eq_ediv_of_nonneg (by omega)]; omega, by rw [Int.tdiv_eq_ediv_of_nonneg (by omega)]; omega⟩
        have wrv : IntKind.i64.wrap rv = rv := IntWalk.i64_in _ (by omega)
        have wN : IntKind.i64.wrap (N : Int) = (N : Int) := IntWalk.i64_in _ (by omega)
        have wj : IntKind.i64.wrap ((j : Int) + 1) = ((j + 1 : Nat) : Int) := by rw [show ((j + 1 : Nat) : Int) = (j : Int) + 1 by omega]; exact IntWalk.i64_in _ (by have := BD.out; omega)
        have jn : decide (j < nr) = true := decide_eq_true hjr
        have jn' : decide ((j : Int) < (nr : Int)) = true := decide_eq_true (by omega)
        have ALD := Lib.hid (AL.out.below (Below.refl _ _).drew)
        have RC := Lib.hid (ALD.out.both (x := pid) (n := N) (by have := BD.out; omega) (by omega) (by omega) (by have := K16.out; omega))
        have NJ := Lib.hid (And.intro hj (And.intro hjr (And.intro hn0 hN64)))
        clear xb xlt xc hp2 hN64
        go_upto_region 19 with fail
        clear jn jn'
        refine wp_region_noPanic ?_
        refine wp_region_held_drew (S := (fun w' => w'.cell? (xr.add j) = some (.int .u8 rv))) (by kernel_rfl) ?_ (fun hHeld => ?_)
        · (try dsimp only)
          exact KS.out _ ALD.out.bel
        refine wT 0 ?_
        refine wT 1 ?_
        refine wT 2 ?_
        refine wT 3 ?_
        refine wT 4 ?_
        refine wT 5 ?_
        refine wT 6 ?_
        refine wT 7 ?_
        refine wT 8 ?_
        refine wT 9 ?_
        refine wT 10 ?_
        refine wT 11 ?_
        refine wT 12 ?_
        refine wpAnyH_ready (rs := [13]) (by kernel_rfl) (by simp) ?_
        refine rC (fun K hK => ?_) ?_
        · go_simp
          (with_reducible refine Calls.mono RC.out ?_)
          rintro e wb ⟨vb, rfl, bw, R7⟩
          have BW1 := Lib.hid bw
          have R7 := Lib.hid R7
          clear bw RC
          go_wp2_with fail
          refine hK.out _ _ ?_ (fun hHeld => ?_)
          · (try dsimp only)
            exact KS.out _ BW1.out
          clear hK K
          (try simp only [Act.put, lsA, lsZ, lsS])
          refine wpAnyH_done (by kernel_rfl) ?_ _
          refine NoPanic.normal ?_
          have BW1D := Lib.hid (below_drewN BW1.out 1)
          go_upto_region 20 with fail
          refine wp_region_noPanic ?_
          refine wp_region_held_drew (S := (fun w' => w'.cell? (xr.add j) = some (.int .u8 rv))) (by kernel_rfl) ?_ (fun hHeld => ?_)
          · (try dsimp only)
            exact KS.out _ BW1D.out
          refine wT 0 ?_
          refine wT 1 ?_
          refine wT 2 ?_
          refine wT 3 ?_
          refine wT 4 ?_
          refine wT 5 ?_
          refine wT 6 ?_
          refine wT 7 ?_
          refine wT 8 ?_
          refine wT 9 ?_
          refine wT 10 ?_
          refine wT 11 ?_
          refine wT 12 ?_
          refine wpAnyH_ready (rs := [13]) (by kernel_rfl) (by simp) ?_
          refine rC (fun K hK => ?_) ?_
          · go_simp
            (with_reducible refine Calls.mono (R7.out _ (Below.refl _ _).drew) ?_)
            rintro e wc ⟨vc, h, o, F, G, s, rfl, al⟩
            have AL5 := Lib.hid al
            clear al R7
            go_wp2_with fail
            refine hK.out _ _ ?_ (fun hHeld => ?_)
            · (try dsimp only)
              exact KS.out _ AL5.out.bel
            clear hK K
            (try simp only [Act.put, lsA, lsZ, lsS])
            refine wpAnyH_done (by kernel_rfl) ?_ _
            refine NoPanic.normal ?_
            go_upto_region 21 with fail
            as_aux_lemma =>
              have TRB : Hid (s.x.Ok ∧ s.x.W.tr.length ≤ 50000 ∧ (∀ k t, h.has k t → t.x.W.tr.length ≤ 50000) ∧ (∀ k t, o.has k t → t.x.W.tr.length ≤ 50000)) := Lib.hid (by
                have b1 : ∀ k t, h.has k t → t.x.W.tr.length ≤ 50000 := fun k t ht => by have := (AL5.out.al.hi.bi k t ht).tr; have := NJ.out; have := BD.out; omega
                have b2 : ∀ k t, o.has k t → t.x.W.tr.length ≤ 50000 := fun k t ht => by have := (AL5.out.al.oi.bi k t ht).tr; have := NJ.out; have := BD.out; omega
                obtain ⟨_, _, _, _, _, _, _, _, I⟩ := AL5.out.ah
                exact ⟨(I.sx k s AL5.out.al.hs).1, b1 k s AL5.out.al.hs, b1, b2⟩)
              have KI : Hid (I64i (k : Int)) := Lib.hid (by unfold I64i; have := K16.out; omega)
              obtain ⟨v0, v1, v2, v3, v4, v5, v6, v7, v8, v9, v10, _, hcs⟩ := bx_cs TRB.out.1.c
              have HCS : Hid (∀ RA rc TA tc, s.x.val RA rc TA tc = .agg #[.int .u32 v0, .int .u32 v1, .int .u32 v2, .int .u32 v3, .int .u32 v4, .int .u32 v5, .int .u32 v6, .int .u32 v7, .int .u32 v8, .int .u32 v9, .int .u32 v10, .slice RA s.x.W.rep.length rc, .int .i64 s.x.W.tk, .slice TA s.x.W.tr.length tc, .bool s.x.W.ov, .int .u32 s.x.W.cd, .int .i64 s.x.is, .int .i64 s.x.wh]) := Lib.hid (fun RA rc TA tc => by unfold Bx.val; rw [hcs])
              have E8 := fun w => eq8B v1 v2 v3 v4 v5 v6 v7 v8 w
              clear hcs
              have BX := Lib.hid (hBox wc hb h F (k : Int) AL5.out.ah TRB.out.2.2.1 KI.out)
              go_wp2_with fail
              refine BX.out.mono ?_; rintro e w7 ⟨b7, ⟨k', t, hk', ht, RA, rc, TA, tc, rfl, kr, er, _, _⟩ | ⟨hno, _⟩⟩
              rotate_left
              · exact absurd AL5.out.al.hs (hno k _ rfl)
              obtain rfl : k = k' := by omega
              obtain rfl := Ho.one AL5.out.al.hs ht
              have AL7 := Lib.hid (AL5.out.below b7)
              have KR7 := Lib.hid kr
              have ER7 := Lib.hid er
              rw [HCS.out]
              clear b7 kr er ht hk' BX AL5
              dsimp only
              go_upto_region 22 with fail
              obtain ⟨W8, hW8⟩ : ∃ W8, w7.alloc (.cells #[.int .u32 v0, .int .u32 v1, .int .u32 v2, .int .u32 v3, .int .u32 v4, .int .u32 v5, .int .u32 v6, .int .u32 v7, .int .u32 v8, .int .u32 v9, .int .u32 v10, .slice RA s.x.W.rep.length rc, .int .i64 s.x.W.tk, .slice TA s.x.W.tr.length tc, .bool s.x.W.ov, .int .u32 s.x.W.cd, .int .i64 s.x.is, .int .i64 s.x.wh] 63) = W8 := ⟨_, rfl⟩
              have b8 : Below w7.heap.size w7 W8 := by rw [← hW8]; exact bel_al (Below.refl _ _) _
              have H8 : Hid (HasB W8 w7.heap.size 63 [.int .u32 v0, .int .u32 v1, .int .u32 v2, .int .u32 v3, .int .u32 v4, .int .u32 v5, .int .u32 v6, .int .u32 v7, .int .u32 v8, .int .u32 v9, .int .u32 v10, .slice RA s.x.W.rep.length rc, .int .i64 s.x.W.tk, .slice TA s.x.W.tr.length tc, .bool s.x.W.ov, .int .u32 s.x.W.cd, .int .i64 s.x.is, .int .i64 s.x.wh]) := Lib.hid (by rw [← hW8]; exact HasB.newAt _ _ _ #[.int .u32 v0, .int .u32 v1, .int .u32 v2, .int .u32 v3, .int .u32 v4, .int .u32 v5, .int .u32 v6, .int .u32 v7, .int .u32 v8, .int .u32 v9, .int .u32 v10, .slice RA s.x.W.rep.length rc, .int .i64 s.x.W.tk, .slice TA s.x.W.tr.length tc, .bool s.x.W.ov, .int .u32 s.x.W.cd, .int .i64 s.x.is, .int .i64 s.x.wh] rfl)
              rw [hW8]
              have AL8 := Lib.hid (AL7.out.below b8)
              have KR8 := Lib.hid (KR7.out.below b8)
              have ER8 := Lib.hid (ER7.out.below b8)
              clear b8 hW8 AL7 KR7 ER7
              generalize w7.heap.size = X7 at *
              as_aux_lemma =>
              have BX := Lib.hid (hBox W8 ob o G (k : Int) AL8.out.ao TRB.out.2.2.2 KI.out)
              go_wp2_with fail
              refine BX.out.mono ?_; rintro e w9 ⟨b9, ⟨k', t, hk', ht, RB, rd, TB, td, rfl, kr, er, _, _⟩ | ⟨hno, _⟩⟩
              rotate_left
              · exact absurd AL8.out.al.os (hno k _ rfl)
              obtain rfl : k = k' := by omega
              obtain rfl := Ho.one AL8.out.al.os ht
              have AL9 := Lib.hid (AL8.out.below b9)
              have KR9 := Lib.hid (KR8.out.below b9)
              have ER9 := Lib.hid (ER8.out.below b9)
              have H9 := Lib.hid (H8.out.below b9)
              have KS9 := Lib.hid kr
              have ES9 := Lib.hid er
              rw [HCS.out]
              clear b9 kr er ht hk' BX AL8 KR8 ER8 H8
              dsimp only
              go_upto_region 23 with fail
              obtain ⟨W10, hW10⟩ : ∃ W10, w9.alloc (.cells #[.int .u32 v0, .int .u32 v1, .int .u32 v2, .int .u32 v3, .int .u32 v4, .int .u32 v5, .int .u32 v6, .int .u32 v7, .int .u32 v8, .int .u32 v9, .int .u32 v10, .slice RB s.x.W.rep.length rd, .int .i64 s.x.W.tk, .slice TB s.x.W.tr.length td, .bool s.x.W.ov, .int .u32 s.x.W.cd, .int .i64 s.x.is, .int .i64 s.x.wh] 63) = W10 := ⟨_, rfl⟩
              have b10 : Below w9.heap.size w9 W10 := by rw [← hW10]; exact bel_al (Below.refl _ _) _
              have G10 : Hid (HasB W10 w9.heap.size 63 [.int .u32 v0, .int .u32 v1, .int .u32 v2, .int .u32 v3, .int .u32 v4, .int .u32 v5, .int .u32 v6, .int .u32 v7, .int .u32 v8, .int .u32 v9, .int .u32 v10, .slice RB s.x.W.rep.length rd, .int .i64 s.x.W.tk, .slice TB s.x.W.tr.length td, .bool s.x.W.ov, .int .u32 s.x.W.cd, .int .i64 s.x.is, .int .i64 s.x.wh]) := Lib.hid (by rw [← hW10]; exact HasB.newAt _ _ _ #[.int .u32 v0, .int .u32 v1, .int .u32 v2, .int .u32 v3, .int .u32 v4, .int .u32 v5, .int .u32 v6, .int .u32 v7, .int .u32 v8, .int .u32 v9, .int .u32 v10, .slice RB s.x.W.rep.length rd, .int .i64 s.x.W.tk, .slice TB s.x.W.tr.length td, .bool s.x.W.ov, .int .u32 s.x.W.cd, .int .i64 s.x.is, .int .i64 s.x.wh] rfl)
              rw [hW10]
              have AL10 := Lib.hid (AL9.out.below b10)
              have KR10 := Lib.hid (KR9.out.below b10)
              have ER10 := Lib.hid (ER9.out.below b10)
              have KS10 := Lib.hid (KS9.out.below b10)
              have ES10 := Lib.hid (ES9.out.below b10)
              have H10 := Lib.hid (H9.out.below b10)
              clear b10 hW10 AL9 KR9 ER9 KS9 ES9 H9
              generalize w9.heap.size = X9 at *
              as_aux_lemma =>
              have BC := Lib.hid (hBytes W10 hb 128 h F (k : Int) AL10.out.ah AL10.out.al.hi.Z KI.out)
              go_wp2_with fail
              refine BC.out.mono ?_; rintro e w11 ⟨b11, ⟨k', t, hk', ht, A11, c11, rfl, r11, _⟩ | ⟨hno, _⟩⟩
              rotate_left
              · exact absurd AL10.out.al.hs (hno k _ rfl)
              obtain rfl : k = k' := by omega
              obtain rfl := Ho.one AL10.out.al.hs ht
              have BC := Lib.hid (hBytes w11 ob 128 o G (k : Int) (AL10.out.below b11).ao AL10.out.al.oi.Z KI.out)
              have R11 := Lib.hid r11
              have B11 := Lib.hid b11
              clear r11 b11 ht hk'
              dsimp only
              go_wp2_with fail
              refine BC.out.mono ?_; rintro e w12 ⟨b12, ⟨k', t, hk', ht, A12, c12, rfl, r12, _⟩ | ⟨hno, _⟩⟩
              rotate_left
              · exact absurd AL10.out.al.os (hno k _ rfl)
              obtain rfl : k = k' := by omega
              obtain rfl := Ho.one AL10.out.al.os ht
              have BB : Hid (Below W10.heap.size W10 w12) := Lib.hid (bel_then B11.out b12)
              have LN1 := bytesO_len AL10.out.al.hi.Z AL10.out.al.hs
              have LN2 := bytesO_len AL10.out.al.oi.Z AL10.out.al.os
              have cv1 := fun w' (b : Below w12.heap.size w12 w') => conv_row ((R11.out.below b12).below b) (2 * s.hf) LN1
              have cv2 := fun w' (b : Below w12.heap.size w12 w') => conv_row (r12.below b) (2 * s.hf) LN2
              rw [← AL10.out.al.bytesO] at cv2
              have cv1' := cv1 w12 (Below.refl _ _)
              have cv2' := cv2 w12 (Below.refl _ _)
              generalize strOfNums (bytesO h s) = str at *
              have ALF := Lib.hid (AL10.out.below BB.out)
              have BW := Lib.hid AL10.out.bel
              as_aux_lemma =>
              obtain ⟨a0, a1, a2, a3, a4, a5, a6, a7, a8, a9, a10, a11, a12, a13, a14, a15, a16, a17⟩ := has18 (H10.out.below BB.out)
              obtain ⟨d0, d1, d2, d3, d4, d5, d6, d7, d8, d9, d10, d11, d12, d13, d14, d15, d16, d17⟩ := has18 (G10.out.below BB.out)
              clear b12 r12 ht hk' BC R11 B11 LN1 LN2 cv1 cv2 AL10 KR10 KS10 ER10 ES10 H10 G10 HCS
              dsimp only
              go_wp2_with fail
              go_roundw
              case rel => exact ⟨j + 1, n0 + N + N, h, o, F, G, s, by go_num, by have := NJ.out; omega, by have := NJ.out; omega, ALF⟩
              case measure => simp [intOf]; have := NJ.out; omega
          exact AllReadyH.nil
        exact AllReadyH.nil
      · obtain rfl : j = nr := by omega
        go_wp2_with fail
        go_ret
        exact ⟨rfl, AL.out.bel⟩
theorem wholeData_walk (A : Option Addr) (ca : Nat) (C : List Int) (B : Option Addr) (cb : Nat) (D : List Int) (A2 : Option Addr) (c2 : Nat) (La : List Int) (A3 : Option Addr) (c3 : Nat) (Lb : List Int) (P : Option Addr) (np cp : Nat) (Q : Option Addr) (nq cq : Nat) (R : Option Addr) (cr : Nat) (lr : List Int) (w : World)
    (rA : RowAt w A ca C) (rB : RowAt w B cb D) (ra : RowAt w A2 c2 La) (rb : RowAt w A3 c3 Lb) (rp : ∃ l : List Int, np = l.length ∧ KRow .u32 w P cp l) (rq : ∃ l : List Int, nq = l.length ∧ KRow .u32 w Q cq l) (rr : RowAt w R cr lr) :
    Calls Tryz.prog 9 #[.slice A C.length ca, .slice B D.length cb, .slice A2 La.length c2, .slice A3 Lb.length c3, .slice P np cp, .slice Q nq cq, .slice R lr.length cr] w fun e w' => e = .returned (.bool true) ∧ Below w.heap.size w w' := by
  by_cases h : C.length ≤ 400 ∧ D.length ≤ 400 ∧ La.length ≤ 100 ∧ Lb.length ≤ 100 ∧ np ≤ 20 ∧ nq ≤ 20 ∧ lr.length ≤ 30
  · obtain ⟨lp, hlp, kp⟩ := rp
    obtain ⟨lq, hlq, kq⟩ := rq
    obtain ⟨h1, h2, h3, h4, h5, h6, h7⟩ := h
    exact data_main A B A2 A3 P Q R ca cb c2 c3 cp cq cr _ _ _ _ np nq _ C D La Lb lp lq lr rfl rfl rfl rfl hlp.symm hlq.symm rfl h1 h2 h3 h4 h5 h6 h7 w rA rB ra rb kp kq rr
  · exact data_skip A B A2 A3 P Q R ca cb c2 c3 cp cq cr _ _ _ _ np nq _ w h
end Go.Proofs.YtjmbaiijmhkdpaaGreat.Mm
