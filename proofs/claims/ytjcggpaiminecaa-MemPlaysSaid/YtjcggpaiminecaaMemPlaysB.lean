/- The statement MemPlays: the loop over the acts. -/
import Derived.Test.YtjcggpaiminecaaMemPlaysK0
import Derived.Test.YtjcggpaiminecaaMemPlaysK1
import Derived.Test.YtjcggpaiminecaaMemPlaysK2
import Derived.Test.YtjcggpaiminecaaMemPlaysK3
import Derived.Test.YtjcggpaiminecaaMemPlaysK4
import Derived.Deep.DeepCutAuto
import Derived.Deep.CutBlock
namespace Go.Proofs.Ytjcggpaiminecaa.Mm
open Go.ChangeShapes Go.WideShapes Go.ChangeAt Go.RowKit
set_option linter.unusedVariables false

theorem wp_code_eq {P : Program} {c c' : Code} {Q : Exit → Act → World → Prop} {a : Act} {w : World} (e : c = c') (h : c'.wp P Q a w) : c.wp P Q a w := e ▸ h
set_option maxRecDepth 100000 in
set_option maxHeartbeats 4000000 in
theorem plays_main (N z : Nat) (hz : N = 64 * z) (hz0 : 1 ≤ z) (A : Option Addr) (n cap : Nat) (w : World) (ha : Acts w A n cap) (h2 : N ≤ 512) (hn : n ≤ 40) (hfew : ∀ x, A = some x → ∀ i, i < n → ∀ t, ActAt w (x.add (i * 6)) t → t.b.length ≤ 500)
    (c : ∀ w1, Below w.heap.size w w1 → Calls Try.prog 6 #[.slice A n cap] w1 fun e w' => e = .returned (.bool true) ∧ w1 = w') :
    Calls Try.prog 3 #[.int .i64 N, .slice A n cap] w fun e w' => e = .returned (.bool true) ∧ Below w.heap.size w w' := by
  have C := Lib.hid c; clear c
  have q0 : 64 ≤ N := by omega
  have q1 : (N : Int) % 64 = 0 := by omega
  have d1 : decide ((N : Int) < 64) = false := by rw [decide_eq_false_iff_not]; omega
  have d2 : decide (65536 < (N : Int)) = false := by rw [decide_eq_false_iff_not]; omega
  have d3 : decide (512 < (N : Int)) = false := by rw [decide_eq_false_iff_not]; omega
  have d4 : ((N : Int) % 64 != 0) = false := by rw [q1]; rfl
  have HZ := Lib.hid hz; clear hz
  have HA := Lib.hid ha; clear ha
  have HF := Lib.hid hfew; clear hfew
  go_enter Try.func3, Try.ntmps3
  go_wp2_with fail
  refine (awake_any _).mono ?_; rintro e w1 ⟨rfl, hb1⟩
  have HB1 := Lib.hid hb1; clear hb1
  go_wp2_with fail
  refine (C.out _ HB1.out).mono ?_; rintro e w' ⟨rfl, rfl⟩
  go_wp2_with fail
  refine (new_m w N z (by have := HZ.out; omega) hz0 (by have := HZ.out; omega) HB1.out).mono ?_; rintro e w2 ⟨p, g, h, rfl, s, _⟩
  have S := Lib.hid s; clear s HB1 C
  go_wp2_with fail
  refine (rNew_any N (by omega) _).mono ?_
  rintro e w3 ⟨xb, yb, rfl, hx, hy, lx, ly, hb⟩
  have P0 : PSt w p g h w3.heap.size N (List.replicate N 0) (List.replicate z false) (List.replicate N false) xb N yb N (w3.alloc (.cells #[.slice (some ⟨xb, 0, none⟩) N N, .slice (some ⟨yb, 0, none⟩) N N] 33)) := by
    have S3 := S.out.below hb
    have sz := S3.bel.size
    have b4 := bel_al (Below.refl w3.heap.size w3) (.cells #[.slice (some ⟨xb, 0, none⟩) N N, .slice (some ⟨yb, 0, none⟩) N N] 33)
    have S4 := S3.below b4
    have g1 := S.out.at_.own.lt
    have g2 := S.out.at_.bytes.lt
    have g3 := S.out.at_.zones.lt
    have x3 := hx.lt
    have y3 := hy.lt
    have s23 := hb.size
    rw [← HZ.out] at S4
    refine ⟨S4, ⟨HasB.newAt _ _ _ #[.slice (some ⟨xb, 0, none⟩) N N, .slice (some ⟨yb, 0, none⟩) N N] rfl, ?_, ?_, by simp; omega, ⟨⟨by omega, by omega, by omega⟩, ⟨by omega, by omega, by omega⟩, by omega, by omega⟩⟩, List.length_replicate .., List.length_replicate .., by rw [List.length_replicate]; exact HZ.out.symm, fun j hj => ?_, sz, by omega⟩
    · have := row_blk (rep_byte N) (by rw [List.length_replicate]; unfold maxLen; omega) (hx.al (.cells #[.slice (some ⟨xb, 0, none⟩) N N, .slice (some ⟨yb, 0, none⟩) N N] 33))
      rwa [List.length_replicate] at this
    · have hy4 := hy.al (.cells #[.slice (some ⟨xb, 0, none⟩) N N, .slice (some ⟨yb, 0, none⟩) N N] 33)
      refine ⟨by rw [List.length_replicate]; exact Nat.le_refl _, by unfold maxLen; omega, _, rfl, hy4.lt, fun i hi => ?_⟩
      rw [List.length_replicate] at hi
      rw [addr_add, Nat.zero_add, hy4.cell, rep_getD _ _ _ _ hi]
      simp [hi]
    · rw [rep_getD _ _ _ _ hj, rep_getD _ _ _ _ (by have := HZ.out; omega)]
  have P0 := Lib.hid P0
  clear hx hy lx ly hb S
  go_wp2_with fail
  generalize w3.alloc (.cells #[.slice (some ⟨xb, 0, none⟩) N N, .slice (some ⟨yb, 0, none⟩) N N] 33) = w4 at *
  generalize w3.heap.size = X at *
  go_loopw [8] (fun i w' => PRel w p g h X N n i w') (fun i _ => n - (intOf i).toNat)
  case atStart => exact ⟨0, Nat.zero_le _, rfl, _, _, _, _, _, _, _, P0.out⟩
  case round =>
    obtain ⟨k, hk, rfl, B, T, U, xb, cB, yb, cU, P⟩ := hrel
    have HP := Lib.hid P
    clear P P0
    by_cases hlt : k < n
    · as_aux_lemma =>
      obtain ⟨_, _, hex⟩ := HA.out
      obtain ⟨x, rfl, hxb, hx⟩ := hex (by omega)
      obtain ⟨t, ht⟩ := hx k hlt
      have hbl := HF.out x rfl k hlt t ht
      have r9 := ht.row
      have ht := ht.below HP.out.m.bel (by rw [block_add]; exact hxb)
      clear hex hx
      obtain ⟨c0, c1, c2, c3, c4, c5, r0, r1, r2, r3, r4⟩ := ht
      obtain ⟨d, a, m, is, v, A', cap', b⟩ := t
      simp only at c0 c1 c2 c3 c4 c5 r0 r1 r2 r3 r4 r9 hbl
      have R4 := Lib.hid r4
      have R9 := Lib.hid r9
      clear r4 r9
      obtain ⟨l, hl⟩ : ∃ l, b.length = l := ⟨_, rfl⟩
      rw [hl] at c5 hbl
      have HL := Lib.hid hl
      clear hl
      obtain ⟨d0, d1⟩ := r0
      obtain ⟨a0, a1⟩ := r1
      obtain ⟨m0, m1⟩ := r2
      obtain ⟨v0, v1⟩ := r3
      have kI : (k : Int) < (n : Int) := by omega
      go_upto_region 13 with fail
      obtain ⟨wy, hwy⟩ : ∃ wy, wr.alloc (.cells #[.int .u8 d, .int .i64 a, .int .i64 m, .bool is, .int .u32 v, .slice A' l cap'] 37) = wy := ⟨_, rfl⟩
      have by_ : Below wr.heap.size wr wy := by rw [← hwy]; exact bel_al (Below.refl _ _) _
      have hY : HasB wy wr.heap.size 37 [.int .u8 d, .int .i64 a, .int .i64 m, .bool is, .int .u32 v, .slice A' l cap'] := by rw [← hwy]; exact HasB.newAt _ _ _ #[.int .u8 d, .int .i64 a, .int .i64 m, .bool is, .int .u32 v, .slice A' l cap'] rfl
      have HP := Lib.hid (HP.out.below by_)
      have HR := Lib.hid (R4.out.below by_)
      have HY := Lib.hid hY
      rw [hwy]
      clear hwy by_ hY c0 c1 c2 c3 c4 c5 R4
      generalize wr.heap.size = Y at *
      have y1 := HY.out.cell 1
      simp only [List.getElem?_cons_succ, List.getElem?_cons_zero] at y1
      go_cut [10] (fun s10 wx => s10 = .bool (inB a N) ∧ wx = wy)
      case first =>
        by_cases q1 : 0 ≤ a
        · by_cases q2 : a ≤ N
          · as_aux_lemma =>
            have z1 : decide (0 ≤ a) = true := decide_eq_true q1
            have z2 : decide (a ≤ (N : Int)) = true := decide_eq_true q2
            go_wp2_with fail
            go_meet
            exact ⟨v_bool ((decide_eq_true ⟨q1, q2⟩ : inB a N = true)).symm, rfl⟩
          · as_aux_lemma =>
            have z1 : decide (0 ≤ a) = true := decide_eq_true q1
            have z2 : decide (a ≤ (N : Int)) = false := decide_eq_false q2
            go_wp2_with fail
            go_meet
            exact ⟨v_bool ((decide_eq_false (fun h => by have := h.2; omega) : inB a N = false)).symm, rfl⟩
        · as_aux_lemma =>
          have z1 : decide (0 ≤ a) = false := decide_eq_false q1
          go_wp2_with fail
          go_meet
          exact ⟨v_bool ((decide_eq_false (fun h => by have := h.1; omega) : inB a N = false)).symm, rfl⟩
      case rest =>
        as_aux_lemma =>
        obtain ⟨rfl, rfl⟩ := hcut
        have y0 := HY.out.cell 0
        simp only [List.getElem?_cons_zero] at y0
        obtain ⟨bi, hbi⟩ : ∃ b, inB a N = b := ⟨_, rfl⟩
        rw [hbi]
        have BI := Lib.hid hbi
        clear hbi
        go_upto_block 2 with fail
        go_cut [] (fun wx => PAny w p g h X N wx)
        case first =>
          have h5 : d % 5 = 0 ∨ d % 5 = 1 ∨ d % 5 = 2 ∨ d % 5 = 3 ∨ d % 5 = 4 := by omega
          rename_i JJ KK
          refine wp_code_eq (c' := blk2) (by kernel_rfl) ?_
          rcases h5 with hd | hd | hd | hd | hd
          · apply kind_0 (z := z) (B := B) (T := T) (U := U) (a := a) (d := d) (m := m) (v := v) (is := is) (b := b) (A' := A') (HKK := KK) (HZ := HZ) (hk := hk) (hlt := hlt) (HL := HL) (hd := hd) (HP := HP) (HY := HY) (y1 := y1) (BI := BI) (R9 := R9) (HR := HR)
            case HJ => exact fun a' w' h => JJ a' w' h
            all_goals assumption
          · refine noPan_of ?_
            apply kind_1n (z := z) (B := B) (T := T) (U := U) (a := a) (d := d) (m := m) (v := v) (is := is) (b := b) (A' := A') (HKK := KK) (HZ := HZ) (hk := hk) (hlt := hlt) (HL := HL) (hd := hd) (HP := HP) (HY := HY) (y1 := y1) (BI := BI) (R9 := R9) (HR := HR)
            case HJ => exact fun a' w' h => JJ a' w' h
            all_goals assumption
          · apply kind_2 (z := z) (B := B) (T := T) (U := U) (a := a) (d := d) (m := m) (v := v) (is := is) (b := b) (A' := A') (HKK := KK) (HZ := HZ) (hk := hk) (hlt := hlt) (HL := HL) (hd := hd) (HP := HP) (HY := HY) (y1 := y1) (BI := BI) (R9 := R9) (HR := HR)
            case HJ => exact fun a' w' h => JJ a' w' h
            all_goals assumption
          · apply kind_3 (z := z) (B := B) (T := T) (U := U) (a := a) (d := d) (m := m) (v := v) (is := is) (b := b) (A' := A') (HKK := KK) (HZ := HZ) (hk := hk) (hlt := hlt) (HL := HL) (hd := hd) (HP := HP) (HY := HY) (y1 := y1) (BI := BI) (R9 := R9) (HR := HR)
            case HJ => exact fun a' w' h => JJ a' w' h
            all_goals assumption
          · apply kind_4 (z := z) (B := B) (T := T) (U := U) (a := a) (d := d) (m := m) (v := v) (is := is) (b := b) (A' := A') (HKK := KK) (HZ := HZ) (hk := hk) (hlt := hlt) (HL := HL) (hd := hd) (HP := HP) (HY := HY) (y1 := y1) (BI := BI) (R9 := R9) (HR := HR)
            case HJ => exact fun a' w' h => JJ a' w' h
            all_goals assumption
        case rest =>
          as_aux_lemma =>
          obtain ⟨B, T, U, xb, cB, yb, cU, P⟩ := hcut
          have HQ := Lib.hid P
          clear P HP HY HR y0 y1 BI
          go_wp2_with fail
          go_loopw [22] (fun i w' => InRel N wc i w') (fun i _ => N - (intOf i).toNat)
          case atStart => exact ⟨0, Nat.zero_le _, rfl, Sm.refl _⟩
          case round =>
            obtain ⟨j, hj, rfl, hs⟩ := hrel
            have HS := Lib.hid hs
            clear hs
            by_cases hjl : j < N
            · as_aux_lemma =>
              have hP := HQ.out.below HS.out.bel
              have e1 := hP.r.own.cell 1
              simp only [List.getElem?_cons_succ, List.getElem?_cons_zero] at e1
              have e2 := hP.r.rU.at_.2 j (by rw [hP.lU]; exact hjl)
              have TH := hP.there j hjl
              have CT : ∀ q, Calls Try.prog 20 #[.pointer (some ⟨p, 0, none⟩), .int .i64 j] (wr.drewN q) fun e w' => e = .returned (.bool (U.getD j false)) ∧ wr.drewN q = w' := fun q => by
                have := there_any (hP.m.at_.below ((Sm.refl wr).drewN q).bel) (j : Int) (by omega)
                rwa [TH] at this
              clear hP TH
              have CT := Lib.hid CT
              generalize U.getD j false = bj at e2 CT
              have jN : (j : Int) < (N : Int) := by omega
              go_wp2_with fail
              go_quiet ((go_at_call 20; exact quiet_eq (CT.out _)))
              go_wp2_with fail
              go_roundw
              case rel => exact ⟨j + 1, hjl, by go_num, HS.out.drewN _⟩
              case measure => simp [intOf]; omega
            · as_aux_lemma =>
              have hjN : j = N := by omega
              subst hjN
              go_wp2_with fail
              go_roundw
              case rel => exact ⟨k + 1, hlt, by go_num, _, _, _, _, _, _, _, HQ.out.below HS.out.bel⟩
              case measure => simp [intOf]; omega
    · as_aux_lemma =>
      have hkn : k = n := by omega
      subst hkn
      have NL := HP.out.lB
      have C1 := size_any HP.out.m.at_
      rw [NL] at C1
      have C1 := Lib.hid C1
      have w1 : wholeB T (-1) 1 = false := by unfold wholeB; rw [(liesB_not _ _ _).2 (by omega)]; rfl
      have w2 : wholeB T (N : Int) 1 = false := by unfold wholeB; rw [(liesB_not _ _ _).2 (by have := HP.out.lT; omega)]; rfl
      have C2 := there_any HP.out.m.at_ (-1) (by omega)
      have C3 := there_any HP.out.m.at_ (N : Int) (by omega)
      rw [w1] at C2
      rw [w2] at C3
      have C2 := Lib.hid C2
      have C3 := Lib.hid C3
      clear w1 w2 NL
      go_wp2_with fail
      refine (get_nil 0 (by decide) (by decide) _).mono ?_; rintro e w' ⟨rfl, rfl⟩
      go_wp2_with fail
      refine (read_nil 0 0 _).mono ?_; rintro e w' ⟨rfl, rfl⟩
      go_wp2_with fail
      refine C1.out.mono ?_; rintro e w' ⟨rfl, rfl⟩
      go_wp2_with fail
      refine C2.out.mono ?_; rintro e w' ⟨rfl, rfl⟩
      go_wp2_with fail
      refine C3.out.mono ?_; rintro e w' ⟨rfl, rfl⟩
      go_wp2_with fail
      refine (size_nil _).mono ?_; rintro e w' ⟨rfl, rfl⟩
      go_wp2_with fail
      refine (set_nil 0 0 true _).mono ?_; rintro e w' ⟨rfl, rfl⟩
      go_wp2_with fail
      refine (put_nil 0 1 (by decide) (by decide) (by decide) (by decide) _).mono ?_; rintro e w9 ⟨rfl, hb9⟩
      go_wp2_with fail
      refine (write_nil 0 none 0 0 _).mono ?_; rintro e w' ⟨rfl, rfl⟩
      go_wp2_with fail
      refine (there_nil 0 _).mono ?_; rintro e w' ⟨rfl, rfl⟩
      go_wp2_with fail
      go_ret
      exact ⟨rfl, bel_then HP.out.m.bel hb9⟩
end Go.Proofs.Ytjcggpaiminecaa.Mm
