/- The statement ImageBack, walked. -/
import Derived.Test.YtokibkemolmgcaaImgCuts
namespace Go.Proofs.Ytokibkemolmgcaa.Mm
open Go.ChangeShapes Go.WideShapes Go.ChangeAt Go.RowKit
set_option linter.unusedVariables false

theorem KSt.later {w w' w'' : World} {n g c5 h B6 c c6 d c7 : Nat} {A6 A7 : Option Addr} {C D L : List Int} (s : KSt w w' n g c5 h B6 c c6 d c7 A6 A7 C D L) (b : Below w'.heap.size w' w'') :
    KSt w w'' n g c5 h B6 c c6 d c7 A6 A7 C D L :=
  ⟨s.len, s.own.below b, s.code.below b, s.data.below b, s.box.below b, bel_then s.below b, s.g0, s.g1, s.hg⟩
theorem back_long (A B : Option Addr) (ca cb a b : Nat) (x y : Int) (w : World) (ha : a ≤ maxLen) (hb : b ≤ maxLen) (hlong : 9000 < a ∨ (a ≤ 9000 ∧ 9000 < b)) :
    Calls Try.prog 3 #[.slice A a ca, .slice B b cb, .int .u16 x, .int .u8 y] w fun e w' => e = .returned (.bool true) ∧ Below w.heap.size w w' := by
  unfold maxLen at ha hb
  rcases hlong with h | ⟨h, h'⟩
  all_goals
    go_enter Try.func3, Try.ntmps3
    go_wp2_with fail
    refine (awake_any _).mono ?_; rintro e w1 ⟨rfl, hb1⟩
    go_wp2_with fail
    refine (awake_any _).mono ?_; rintro e w2 ⟨rfl, hb2⟩
    go_wp2_with fail
    go_ret
    exact ⟨rfl, bel_then hb1 hb2⟩
theorem back_no (A B : Option Addr) (ca cb c d : Nat) (x y : Int) (w : World) (h1 : c ≤ 9000) (h2 : d ≤ 9000) (hq : rightB c d = false) :
    Calls Try.prog 3 #[.slice A c ca, .slice B d cb, .int .u16 x, .int .u8 y] w fun e w' => e = .returned (.bool true) ∧ Below w.heap.size w w' := by
  have L1 := Lib.hid (fun w' => lay_no A B c d ca cb h1 h2 w' hq)
  have L2 := Lib.hid (fun w' => Right_any A B c d ca cb (by unfold maxLen; omega) (by unfold maxLen; omega) w')
  rw [hq] at L2
  clear hq
  go_enter Try.func3, Try.ntmps3
  go_wp2_with fail
  refine (awake_any _).mono ?_; rintro e w1 ⟨rfl, hb1⟩
  have HB1 := Lib.hid (bel_al hb1 (.cells #[.slice A c ca, .slice B d cb] 26))
  have NB := Lib.hid (HasB.new w1 26 [.slice A c ca, .slice B d cb])
  clear hb1
  go_wp2_with fail
  refine (L1.out _).mono ?_; rintro e w2 ⟨rfl, hb2⟩
  have HB2 := Lib.hid (bel_then HB1.out hb2)
  have k0 := (NB.out.below hb2).cell 0
  have k1 := (NB.out.below hb2).cell 1
  simp only [List.getElem?_cons_succ, List.getElem?_cons_zero] at k0 k1
  clear hb2
  go_wp2_with fail
  refine (L2.out _).mono ?_; rintro e w3 ⟨rfl, hb3⟩
  have HB3 := Lib.hid (bel_then HB2.out hb3)
  clear hb3
  go_wp2_with fail
  go_ret
  exact ⟨rfl, HB3.out⟩

theorem back_yes (A B : Option Addr) (ca cb c d n k : Nat) (C D : List Int) (x : Nat) (y : Int) (hx : x < 65536) (y0 : 0 ≤ y) (y1 : y ≤ 255) (hk : k = x % n) (hc : C.length = c) (hd : D.length = d) (hn : n = 12 + c + d)
    (w : World) (rA : RowAt w A ca C) (rB : RowAt w B cb D) (h1 : c ≤ 9000) (h2 : d ≤ 9000) (hq : rightB c d = true) :
    Calls Try.prog 3 #[.slice A c ca, .slice B d cb, .int .u16 x, .int .u8 y] w fun e w' => e = .returned (.bool true) ∧ Below w.heap.size w w' := by
  have L1 := Lib.hid (fun w' (b' : Below w.heap.size w w') => lay_yes A B ca cb C D c d hc hd h1 h2 w' (rA.below b') (rB.below b') hq)
  rw [← hn] at L1
  have L2 := Lib.hid (fun w' => Right_any A B c d ca cb (by unfold maxLen; omega) (by unfold maxLen; omega) w')
  rw [hq] at L2
  have L3 := Lib.hid (fun A5 c5 => read_lay A5 c5 C D c d n hc hd hn h1 h2 hq)
  have hL : (layL C D).length = n := by rw [layL_len, hc, hd, hn]
  have hkn : k < n := by rw [hk]; exact Nat.mod_lt _ (by omega)
  have hby : Bytes (layL C D) := layL_byte rA.2.2.1 rB.2.2.1 (by omega) (by omega)
  have hz := row_byte hby k
  obtain ⟨z, hzz⟩ : ∃ z, (layL C D).getD k 0 = z := ⟨_, rfl⟩
  rw [hzz] at hz
  have X8 := xor8 z y hz.1 hz.2 y0 y1
  have TE : Hid (y ≠ 0 → errL ((layL C D).set k (bits .xor .u8 z y)) ≠ 0) := Lib.hid (fun hne => turned_err C D rA.2.2.1 rB.2.2.1 (by rw [hc, hd]; exact hq) k (by omega) _ X8.1 X8.2.1 (by rw [hzz]; exact fun h => hne (X8.2.2.1 h)))
  have TS : Hid (y = 0 → 0 = errL ((layL C D).set k (bits .xor .u8 z y))) := Lib.hid (fun hy => by
    have e : (layL C D).set k (bits .xor .u8 z y) = layL C D := by
      rw [X8.2.2.2 hy, ← hzz]
      have hk' : k < (layL C D).length := by omega
      simp [List.getD, List.getElem?_eq_getElem hk']
    rw [e, lay_err C D (by rw [hc, hd]; exact hq)])
  have ZZ := Lib.hid hzz
  have RA := Lib.hid rA
  have RB := Lib.hid rB
  have HC := Lib.hid hc
  have HD := Lib.hid hd
  have HL := Lib.hid hL
  have HB := Lib.hid hby
  have HX := Lib.hid X8
  have hkm : (x : Int) % (n : Int) = (k : Int) := by rw [hk]; rfl
  have q0 : ((n : Int) == 0) = false := beq_eq_false_iff_ne.2 (by omega)
  have hn1 : n ≤ 18012 := by omega
  have hn0 : 0 < n := by omega
  clear rA rB hc hd hq hn hL hk hby hz X8 hzz
  go_enter Try.func3, Try.ntmps3
  go_wp2_with fail
  refine (awake_any _).mono ?_; rintro e w1 ⟨rfl, hb1⟩
  have HB1 := Lib.hid (bel_al hb1 (.cells #[.slice A c ca, .slice B d cb] 26))
  have NB := Lib.hid (HasB.new w1 26 [.slice A c ca, .slice B d cb])
  clear hb1
  go_wp2_with fail
  refine (L1.out _ HB1.out).mono ?_; rintro e w2 ⟨A5, c5, rfl, o5, hb2⟩
  obtain ⟨g, rfl, hg1, hg2⟩ := o5.open (by rw [HL.out]; exact hn0)
  have O5 := Lib.hid (o5.mono HB1.out.size)
  have HB2 := Lib.hid (bel_then HB1.out hb2)
  have k0 := (NB.out.below hb2).cell 0
  have k1 := (NB.out.below hb2).cell 1
  simp only [List.getElem?_cons_succ, List.getElem?_cons_zero] at k0 k1
  have G1 := Lib.hid (Nat.le_trans HB1.out.size hg1)
  clear o5 hb2 hg1
  go_wp2_with fail
  refine (L2.out _).mono ?_; rintro e w3 ⟨rfl, hb3⟩
  have O3 := Lib.hid (O5.out.below hb3)
  have HB3 := Lib.hid (bel_then HB2.out hb3)
  have G2 := Lib.hid (Nat.lt_of_lt_of_le hg2 hb3.size)
  have R3 := Lib.hid O3.out.row
  clear hb3 hg2 k0 k1
  go_wp2_with fail
  refine (L3.out _ _ _ R3.out).mono ?_; rintro e w4 ⟨A6, c6, A7, c7, rfl, o6, o7, hb4⟩
  have st : KSt w (w4.alloc (.cells #[.slice A6 c c6, .slice A7 d c7] 26)) n g c5 w4.heap.size w3.heap.size c c6 d c7 A6 A7 C D (layL C D) :=
    ⟨HL.out, (O3.out.below hb4).al _, o6.al _, o7.al _, HasB.new _ _ _, bel_al (bel_then HB3.out hb4) _, G1.out, G2.out, Nat.ne_of_gt (Nat.lt_of_lt_of_le G2.out hb4.size)⟩
  have ST := Lib.hid st
  obtain ⟨x0, x1⟩ := st.own.cell k (by rw [HL.out]; exact hkn)
  rw [ZZ.out] at x0
  clear o6 o7 hb4 st
  obtain ⟨W, hW⟩ : ∃ W, w4.alloc (.cells #[.slice A6 c c6, .slice A7 d c7] 26) = W := ⟨_, rfl⟩
  rw [hW] at x0 x1 ST
  have S2 := Lib.hid (ST.out.step k (bits .xor .u8 z y) HX.out.1 HX.out.2.1)
  by_cases hy : y = 0
  · have R2 := Lib.hid (fun w' r => read_r (some ⟨g, 0, none⟩) c5 ((layL C D).set k (bits .xor .u8 z y)) n 0 (TS.out hy) (by rw [List.length_set]; exact HL.out) (by omega) w' r)
    have HY := Lib.hid hy
    clear hy
    go_wp2_with fail
    refine (R2.out _ S2.out.own.row).mono ?_; rintro e w6 ⟨A9, n9, c9, A10, n10, c10, rfl, hb6⟩
    have hy1 : (y == 0) = true := by simp [HY.out]
    have hy := HY.out
    have S3 := Lib.hid ((S2.out.later hb6).later (bel_al (Below.refl _ _) (.cells #[.slice A9 n9 c9, .slice A10 n10 c10] 26)))
    have k0 := S3.out.box.cell 0
    have k1 := S3.out.box.cell 1
    simp only [List.getElem?_cons_succ, List.getElem?_cons_zero] at k0 k1
    have y1 := conv_row S3.out.code.row _ HC.out
    have y2 := conv_row S3.out.data.row _ HD.out
    have y3 := conv_row (RA.out.below S3.out.below) _ HC.out
    have y4 := conv_row (RB.out.below S3.out.below) _ HD.out
    clear hb6 hW x0 x1
    go_wp2_with fail
    go_ret
    exact ⟨rfl, S3.out.below⟩
  · have hne := TE.out hy
    obtain ⟨e2, he2⟩ : ∃ e, errL ((layL C D).set k (bits .xor .u8 z y)) = e := ⟨_, rfl⟩
    have R2 := Lib.hid (fun w' r => Read_no (some ⟨g, 0, none⟩) c5 ((layL C D).set k (bits .xor .u8 z y)) n (by rw [List.length_set]; exact HL.out) (by omega) w' r hne)
    rw [he2] at R2 hne
    clear he2
    have hy1 : (y == 0) = false := by simp [hy]
    have hy2 : (y != 0) = true := by simp [hy]
    have hn2 : (e2 != 0) = true := by simp [hne]
    have hn3 : (e2 == 0) = false := by simp [hne]
    go_wp2_with fail
    refine (R2.out _ S2.out.own.row).mono ?_; rintro e w6 ⟨rfl, hb6⟩
    have S3 := Lib.hid ((S2.out.later hb6).later (bel_al (Below.refl _ _) (.cells #[.slice none 0 0, .slice none 0 0] 26)))
    have NZ := HasB.new w6 26 [.slice none 0 0, .slice none 0 0]
    have k0 := S3.out.box.cell 0
    have k1 := S3.out.box.cell 1
    have k2 := NZ.cell 0
    have k3 := NZ.cell 1
    simp only [List.getElem?_cons_succ, List.getElem?_cons_zero] at k0 k1 k2 k3
    have y1 := conv_row S3.out.code.row _ HC.out
    have y2 := conv_row S3.out.data.row _ HD.out
    have y3 := conv_row (RA.out.below S3.out.below) _ HC.out
    have y4 := conv_row (RB.out.below S3.out.below) _ HD.out
    clear hb6 hW x0 x1 NZ
    go_wp2_with fail
    go_ret
    exact ⟨rfl, S3.out.below⟩

theorem imageBack_walk (A : Option Addr) (ca : Nat) (C : List Int) (B : Option Addr) (cb : Nat) (D : List Int) (x y : Int) (w : World) (rA : RowAt w A ca C) (rB : RowAt w B cb D) (wx : (Lit.int .u16 x).wf = true) (wy : (Lit.int .u8 y).wf = true) :
    Calls Try.prog 3 #[.slice A C.length ca, .slice B D.length cb, .int .u16 x, .int .u8 y] w fun e w' => e = .returned (.bool true) ∧ Below w.heap.size w w' := by
  have hx : 0 ≤ x ∧ x < 65536 := by have := bounds_u16 wx; omega
  have hy := bounds_u8 wy
  obtain ⟨v, rfl⟩ : ∃ n : Nat, x = n := ⟨x.toNat, by omega⟩
  by_cases hl : 9000 < C.length ∨ (C.length ≤ 9000 ∧ 9000 < D.length)
  · exact back_long A B ca cb _ _ _ _ w (Nat.le_trans rA.1 rA.2.1) (Nat.le_trans rB.1 rB.2.1) hl
  · cases hq : rightB C.length D.length
    · exact back_no A B ca cb _ _ _ _ w (by omega) (by omega) hq
    · exact back_yes A B ca cb _ _ _ _ C D v y (by omega) (by omega) (by omega) rfl rfl rfl rfl w rA rB (by omega) (by omega) hq
end Go.Proofs.Ytokibkemolmgcaa.Mm
