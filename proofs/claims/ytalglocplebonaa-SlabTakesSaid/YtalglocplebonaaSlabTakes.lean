/- The statement SlabTakes, walked, over the contracts of package slab. -/
import Derived.Test.YtalglocplebonaaSlabOrder
namespace Go.Proofs.Ytalglocplebonaa.Mm
open Go.ChangeShapes Go.WideShapes Go.ChangeAt Go.RowKit
set_option linter.unusedVariables false

theorem again_E {p q : List Rg} {x : Rg} {n : Int} (h : RightP (p ++ x :: q) n) :
    ∃ b, takeE (p ++ q) n x.2 = 0 ∧ takeR (p ++ q) n x.2 = (b, x.2) ∧ b ≤ x.1 ∧ rgWf (b, x.2) := by
  obtain ⟨hx, _, _, _⟩ := right_own h
  have hs := (reg_iff.1 hx).1
  obtain ⟨o, ho⟩ := take_ex (p ++ q) n x.2 hs
  obtain ⟨b, rfl, hb⟩ := take_below h ho
  have hv := takeV_some ho
  have s0 := powS_pos hs
  have lo := ho.1.lo
  have hi := ho.1.hi
  have h1 := h.hi
  have e : takeE (p ++ q) n x.2 = 0 := by
    unfold takeE; rw [rgt_iff.2 (right_drop h), hs, hv]; simp; omega
  exact ⟨b, e, by unfold takeR; rw [if_pos e, hv], hb, by unfold rgWf; simp only; omega⟩
theorem row_getD {w : World} {A : Option Addr} {cap n : Nat} {l : List Int} (r : RowAt w A cap l) (hl : l.length = n) {j : Nat} (hj : j < n) : ∃ x, A = some x ∧ w.cell? (x.add j) = some (.int .u8 (l.getD j 0)) ∧ 0 ≤ l.getD j 0 ∧ l.getD j 0 ≤ 255 := by
  obtain ⟨x, hx, _, hc⟩ := r.2.2.2 (by intro e; rw [e] at hl; simp at hl; omega)
  exact ⟨x, hx, hc j (by omega), r.2.2.1 _ (by rw [List.getD_eq_getElem?_getD, List.getElem?_eq_getElem (by omega)]; exact List.getElem_mem _)⟩
set_option maxRecDepth 10000 in
set_option maxHeartbeats 8000000 in
theorem vtakes_few (AW : Hid AwS) (TC : Hid TakeC) (RC : Hid RightC) (AC : Hid AddC) (DC : Hid DropC) (A0 : Option Addr) (ca n : Nat) (l : List Int) (hl : l.length = n) (hn : n ≤ 100) (D : Option Addr) (cd dn : Nat) (d : List Int) (hd : d.length = dn) (hdn : dn ≤ 100) (N : Int) (hN : 0 ≤ N ∧ N ≤ 65535) (w : World) (rA : RowAt w A0 ca l) (rD : RowAt w D cd d) :
    Calls Try.prog 4 #[.slice A0 n ca, .slice D dn cd, .int .u16 N] w fun e w' => e = .returned (.bool true) ∧ Below w.heap.size w w' := by
  have RA := Lib.hid rA
  have RD := Lib.hid rD
  have HL := Lib.hid hl
  have HD := Lib.hid hd
  obtain ⟨N0, N1⟩ := hN
  clear rA rD hl hd
  go_enter Try.func4, Try.ntmps4
  go_wp2_with fail
  refine (AW.out _).mono ?_; rintro e w1 ⟨rfl, hb1⟩
  have B1 := Lib.hid hb1; clear hb1
  go_wp2_with fail
  go_loopw [7, 8] (fun v i wr => ∃ (j m : Nat) (A : Option Addr) (c : Nat) (L : List Rg), v = .slice A m c ∧ i = .int .i64 j ∧ j ≤ n ∧ m ≤ j ∧ Hid (L.length = m) ∧ Hid (RgRow wr A c L) ∧ Hid (RightP L N) ∧ Hid (Below w.heap.size w wr)) (fun _ i _ => n - (intOf i).toNat)
  case atStart => exact ⟨0, 0, none, 0, [], rfl, rfl, by omega, by omega, Lib.hid rfl, Lib.hid (rgRow_nil _), Lib.hid (right_nil (by omega) (by omega)), B1⟩
  case round =>
    obtain ⟨j, m, A, c, L, rfl, rfl, hj, hmj, FL, R1, RP, HB⟩ := hrel
    by_cases hlt : j < n
    · have T1 := Lib.hid (fun s (hs : powS s = true) => TC.out A c m L N s FL.out (by omega) (by unfold I64r; omega) (by have := powS_pos hs; unfold I64r; omega))
      obtain ⟨xA, hxA, ev, v0, v1⟩ := row_getD (RA.out.below HB.out) HL.out hlt
      subst hxA
      generalize l.getD j 0 = v at *
      have PS := Lib.hid (shl_pow v0 v1)
      go_wp2_with fail
      generalize wrap64 (128 * 2 ^ (v % 8).toNat) = s at *
      have T2 := Lib.hid (fun w' (b : Below wr.heap.size wr w') => T1.out s PS.out w' (R1.out.below b))
      clear T1
      rcases take_two RP.out PS.out with ⟨e1, e2, hX⟩ | ⟨e1, e2⟩
      · rw [e1, e2] at T2
        have A1 := Lib.hid (fun w' (b : Below wr.heap.size wr w') => AC.out A c m L _ FL.out (by omega) hX w' (R1.out.below b))
        have TA := Lib.hid (fun M P Q ha => @take_add L M P Q N s e1 ha)
        clear e1 e2 hX
        generalize takeV L N s = x at *
        simp only at A1 T2
        refine (T2.out _ (Below.refl _ _)).mono ?_; rintro e w2 ⟨rfl, hb2⟩
        have B2 := Lib.hid (bel_al hb2 (.cells #[.int .i64 x, .int .i64 s] 26))
        clear hb2
        go_wp2_with fail
        refine (A1.out _ B2.out).mono ?_; rintro e w5 ⟨A5, c5, L5, P, Q, rfl, ha, r3, hb3⟩
        have B5 := Lib.hid (HB.out.trans ((bel_then B2.out hb3).mono HB.out.size))
        have P5 := Lib.hid (TA.out L5 P Q ha)
        have F5 : Hid (L5.length = m + 1) := Lib.hid (by rw [add_len ha, FL.out])
        have R5 := Lib.hid r3
        have hm5 : m + 1 ≤ j + 1 := by omega
        have hm5' : (m : Int) + 1 = ((m + 1 : Nat) : Int) := by omega
        clear ha r3 hb3 B2 A1 T2 TA R1 RP HB FL hmj
        generalize hq : m + 1 = m5 at *
        go_wp2_with fail
        have Q1 := Lib.hid (RC.out A5 c5 m5 L5 N F5.out (by omega) (by unfold I64r; omega) w5 R5.out)
        rw [rgt_iff.2 P5.out] at Q1
        refine Q1.out.mono ?_; rintro e w6 ⟨rfl, hb6⟩
        have B6 := Lib.hid (B5.out.trans (hb6.mono B5.out.size))
        have R6 := Lib.hid (R5.out.below hb6)
        clear hb6 Q1 R5 B5
        by_cases hjd : j < dn
        · by_cases h0 : 0 < m5
          · obtain ⟨xD, hxD, ed, d0, d1⟩ := row_getD (RD.out.below B6.out) HD.out hjd
            subst hxD
            generalize d.getD j 0 = z at *
            by_cases hz : z % 3 = 0
            · have hz' : (z % 3 == 0) = true := by simp [hz]
              have h0i : (0 : Int) < (m5 : Int) := by omega
              have hk0 : 0 ≤ z % (m5 : Int) := Int.emod_nonneg _ (by omega)
              have hk1 : z % (m5 : Int) < (m5 : Int) := Int.emod_lt_of_pos _ h0i
              obtain ⟨k, hk⟩ : ∃ k : Nat, z % (m5 : Int) = (k : Int) := ⟨(z % (m5 : Int)).toNat, by omega⟩
              have hkm : k < m5 := by omega
              have htm : z.tmod (m5 : Int) = (k : Int) := by rw [Int.tmod_eq_emod_of_nonneg d0, hk]
              obtain ⟨x5, rfl, hxb, hc⟩ := R6.out.2.2.2 (by intro e; have := F5.out; rw [e] at this; have h1 : (0 : Nat) = m5 := this; omega)
              have c0 := (hc k (by rw [F5.out]; exact hkm)).c0
              have c1 := (hc k (by rw [F5.out]; exact hkm)).c1
              have hy : L5.getD k (0, 0) ∈ L5 := by
                rw [List.getD_eq_getElem?_getD, List.getElem?_eq_getElem (by rw [F5.out]; exact hkm)]; exact List.getElem_mem _
              have hyw := R6.out.2.2.1 _ hy
              clear hc
              generalize L5.getD k (0, 0) = y at *
              have HY := Lib.hid hy
              have HYW := Lib.hid hyw
              obtain ⟨ya, yb⟩ := y
              simp only at c0 c1
              clear hy hyw
              have D1 := Lib.hid (fun w' (b : Below w6.heap.size w6 w') => DC.out (some x5) c5 m5 L5 ya F5.out (by omega) (by have := HYW.out; unfold rgWf at this; unfold I64r; simp only at this; omega) w' (R6.out.below b))
              go_wp2_with fail
              have H6 := Lib.hid (HasB.new w6 26 [.int .i64 ya, .int .i64 yb])
              refine (D1.out _ (bel_al (Below.refl _ _) _)).mono ?_; rintro e w7 (⟨hno, rfl, hb7⟩ | ⟨A7, c7, M, P, Q, y', rfl, hd, r7, hb7⟩)
              · exact absurd rfl (hno (ya, yb) HY.out)
              · obtain rfl : y' = (ya, yb) := drop_same P5.out HY.out hd
                have H7 := Lib.hid (H6.out.below hb7)
                have B7 := Lib.hid (bel_then (bel_al B6.out (.cells #[.int .i64 ya, .int .i64 yb] 26)) hb7)
                have F7 : Hid (M.length = m5 - 1) := Lib.hid (by have := drop_len hd; have := F5.out; omega)
                have P7 := Lib.hid (drop_right P5.out hd)
                have R7 := Lib.hid r7
                have BK := Lib.hid (fun (m' p' q' : List Rg) ha => @back_right P Q m' p' q' (ya, yb) N (by rw [← hd.was]; exact P5.out) ha)
                obtain ⟨b, e1, e2, hbb, hbw⟩ := again_E (by rw [← hd.was]; exact P5.out)
                rw [← hd.now] at e1 e2 BK
                clear hd r7 hb7 H6 D1
                simp only at e1 e2 hbb hbw
                have T3 := Lib.hid (TC.out A7 c7 (m5 - 1) M N yb F7.out (by omega) (by unfold I64r; omega) (by have := HYW.out; unfold rgWf at this; unfold I64r; simp only at this; omega) w7 R7.out)
                rw [e1, e2] at T3
                simp only at T3
                clear e1 e2
                have y0 := H7.out.cell 0
                have y1 := H7.out.cell 1
                simp at y0 y1
                generalize hg6 : w6.heap.size = g6 at *
                go_wp2_with fail
                refine T3.out.mono ?_; rintro e w8 ⟨rfl, hb8⟩
                have H9 := Lib.hid ((H7.out.below hb8).below (bel_al (Below.refl _ w8) (.cells #[.int .i64 b, .int .i64 yb] 26)))
                have H9' := Lib.hid (HasB.new w8 26 [.int .i64 b, .int .i64 yb])
                have B9 := Lib.hid (bel_al (bel_then B7.out hb8) (.cells #[.int .i64 b, .int .i64 yb] 26))
                have R9 := Lib.hid ((R7.out.below hb8).below (bel_al (Below.refl _ w8) (.cells #[.int .i64 b, .int .i64 yb] 26)))
                clear hb8 T3 y0 y1
                have hm1 : ((m5 - 1 : Nat) : Int) = (m5 : Int) - 1 := by omega
                have hw1 : IntKind.i64.wrap ((m5 : Int) - 1) = (m5 : Int) - 1 := by unfold IntKind.wrap; simp [IntKind.signed, IntKind.bits]; omega
                go_wp2_with fail
                generalize hg8 : w8.heap.size = g8 at *
                generalize hW9 : w8.alloc (.cells #[.int .i64 b, .int .i64 yb] 26) = w9 at *
                have Q9 := Lib.hid (RC.out A7 c7 (m5 - 1) M N F7.out (by omega) (by unfold I64r; omega) w9 R9.out)
                rw [rgt_iff.2 P7.out] at Q9
                refine Q9.out.mono ?_; rintro e w10 ⟨rfl, hb10⟩
                have H10 := Lib.hid (H9.out.below hb10)
                have H10' := Lib.hid (H9'.out.below hb10)
                have B10 := Lib.hid (bel_then B9.out hb10)
                have R10 := Lib.hid (R9.out.below hb10)
                clear hb10 Q9 H9 H9' B9 R9
                have y0 := H10.out.cell 0
                have y1 := H10.out.cell 1
                have z0 := H10'.out.cell 0
                have z1 := H10'.out.cell 1
                simp at y0 y1 z0 z1
                have hbb' : ¬ (ya < b) := by omega
                have A10 := Lib.hid (AC.out A7 c7 (m5 - 1) M (ya, yb) F7.out (by omega) HYW.out w10 R10.out)
                simp only at A10
                go_wp2_with fail
                refine A10.out.mono ?_; rintro e w11 ⟨A11, c11, M11, P11, Q11, rfl, ha, r11, hb11⟩
                have B11 := Lib.hid (bel_then B10.out hb11)
                have R11 := Lib.hid (R10.out.below hb11)
                have F11 : Hid (M11.length = m5 - 1 + 1) := Lib.hid (by rw [add_len ha, F7.out])
                have P11 := Lib.hid (BK.out M11 P11 Q11 ha)
                have Q12 := Lib.hid (RC.out A11 c11 (m5 - 1 + 1) M11 N F11.out (by omega) (by unfold I64r; omega) w11 r11)
                rw [rgt_iff.2 P11.out] at Q12
                clear ha r11 hb11 A10
                go_wp2_with fail
                refine Q12.out.mono ?_; rintro e w12 ⟨rfl, hb12⟩
                have B12 := Lib.hid (bel_then B11.out hb12)
                have R12 := Lib.hid (R11.out.below hb12)
                clear hb12 Q12
                go_wp2_with fail
                go_roundw
                case rel => exact ⟨j + 1, m5 - 1, A7, c7, M, rfl, by go_num, by omega, by omega, F7, R12, P7, B12⟩
                case measure => simp [intOf]; omega
            · have hz' : (z % 3 == 0) = false := by simp [hz]
              go_wp2_with fail
              go_roundw
              case rel => exact ⟨j + 1, m5, A5, c5, L5, rfl, by go_num, by omega, by omega, F5, R6, P5, B6⟩
              case measure => simp [intOf]; omega
          · have h0' : ¬ ((0 : Int) < (m5 : Int)) := by omega
            go_wp2_with fail
            go_roundw
            case rel => exact ⟨j + 1, m5, A5, c5, L5, rfl, by go_num, by omega, by omega, F5, R6, P5, B6⟩
            case measure => simp [intOf]; omega
        · have hjd' : ¬ ((j : Int) < (dn : Int)) := by omega
          go_wp2_with fail
          go_roundw
          case rel => exact ⟨j + 1, m5, A5, c5, L5, rfl, by go_num, by omega, by omega, F5, R6, P5, B6⟩
          case measure => simp [intOf]; omega
      · rw [e1, e2] at T2
        clear e1 e2
        simp only at T2
        refine (T2.out _ (Below.refl _ _)).mono ?_; rintro e w2 ⟨rfl, hb2⟩
        have B2 := Lib.hid (bel_al hb2 (.cells #[.int .i64 0, .int .i64 0] 26))
        have B5 := Lib.hid (HB.out.trans (B2.out.mono HB.out.size))
        have R5 := Lib.hid (R1.out.below B2.out)
        have P5 := RP
        have F5 := FL
        have hm5 : m ≤ j + 1 := by omega
        clear hb2 B2 T2 R1 RP HB FL hmj
        go_wp2_with fail
        generalize hW5 : w2.alloc (.cells #[.int .i64 0, .int .i64 0] 26) = w5 at *
        generalize hA5 : A = A5 at *
        generalize hc5 : c = c5 at *
        generalize hL5 : L = L5 at *
        generalize hq : m = m5 at *
        have Q1 := Lib.hid (RC.out A5 c5 m5 L5 N F5.out (by omega) (by unfold I64r; omega) w5 R5.out)
        rw [rgt_iff.2 P5.out] at Q1
        refine Q1.out.mono ?_; rintro e w6 ⟨rfl, hb6⟩
        have B6 := Lib.hid (B5.out.trans (hb6.mono B5.out.size))
        have R6 := Lib.hid (R5.out.below hb6)
        clear hb6 Q1 R5 B5
        by_cases hjd : j < dn
        · by_cases h0 : 0 < m5
          · obtain ⟨xD, hxD, ed, d0, d1⟩ := row_getD (RD.out.below B6.out) HD.out hjd
            subst hxD
            generalize d.getD j 0 = z at *
            by_cases hz : z % 3 = 0
            · have hz' : (z % 3 == 0) = true := by simp [hz]
              have h0i : (0 : Int) < (m5 : Int) := by omega
              have hk0 : 0 ≤ z % (m5 : Int) := Int.emod_nonneg _ (by omega)
              have hk1 : z % (m5 : Int) < (m5 : Int) := Int.emod_lt_of_pos _ h0i
              obtain ⟨k, hk⟩ : ∃ k : Nat, z % (m5 : Int) = (k : Int) := ⟨(z % (m5 : Int)).toNat, by omega⟩
              have hkm : k < m5 := by omega
              have htm : z.tmod (m5 : Int) = (k : Int) := by rw [Int.tmod_eq_emod_of_nonneg d0, hk]
              obtain ⟨x5, rfl, hxb, hc⟩ := R6.out.2.2.2 (by intro e; have := F5.out; rw [e] at this; have h1 : (0 : Nat) = m5 := this; omega)
              have c0 := (hc k (by rw [F5.out]; exact hkm)).c0
              have c1 := (hc k (by rw [F5.out]; exact hkm)).c1
              have hy : L5.getD k (0, 0) ∈ L5 := by
                rw [List.getD_eq_getElem?_getD, List.getElem?_eq_getElem (by rw [F5.out]; exact hkm)]; exact List.getElem_mem _
              have hyw := R6.out.2.2.1 _ hy
              clear hc
              generalize L5.getD k (0, 0) = y at *
              have HY := Lib.hid hy
              have HYW := Lib.hid hyw
              obtain ⟨ya, yb⟩ := y
              simp only at c0 c1
              clear hy hyw
              have D1 := Lib.hid (fun w' (b : Below w6.heap.size w6 w') => DC.out (some x5) c5 m5 L5 ya F5.out (by omega) (by have := HYW.out; unfold rgWf at this; unfold I64r; simp only at this; omega) w' (R6.out.below b))
              go_wp2_with fail
              have H6 := Lib.hid (HasB.new w6 26 [.int .i64 ya, .int .i64 yb])
              refine (D1.out _ (bel_al (Below.refl _ _) _)).mono ?_; rintro e w7 (⟨hno, rfl, hb7⟩ | ⟨A7, c7, M, P, Q, y', rfl, hd, r7, hb7⟩)
              · exact absurd rfl (hno (ya, yb) HY.out)
              · obtain rfl : y' = (ya, yb) := drop_same P5.out HY.out hd
                have H7 := Lib.hid (H6.out.below hb7)
                have B7 := Lib.hid (bel_then (bel_al B6.out (.cells #[.int .i64 ya, .int .i64 yb] 26)) hb7)
                have F7 : Hid (M.length = m5 - 1) := Lib.hid (by have := drop_len hd; have := F5.out; omega)
                have P7 := Lib.hid (drop_right P5.out hd)
                have R7 := Lib.hid r7
                have BK := Lib.hid (fun (m' p' q' : List Rg) ha => @back_right P Q m' p' q' (ya, yb) N (by rw [← hd.was]; exact P5.out) ha)
                obtain ⟨b, e1, e2, hbb, hbw⟩ := again_E (by rw [← hd.was]; exact P5.out)
                rw [← hd.now] at e1 e2 BK
                clear hd r7 hb7 H6 D1
                simp only at e1 e2 hbb hbw
                have T3 := Lib.hid (TC.out A7 c7 (m5 - 1) M N yb F7.out (by omega) (by unfold I64r; omega) (by have := HYW.out; unfold rgWf at this; unfold I64r; simp only at this; omega) w7 R7.out)
                rw [e1, e2] at T3
                simp only at T3
                clear e1 e2
                have y0 := H7.out.cell 0
                have y1 := H7.out.cell 1
                simp at y0 y1
                generalize hg6 : w6.heap.size = g6 at *
                go_wp2_with fail
                refine T3.out.mono ?_; rintro e w8 ⟨rfl, hb8⟩
                have H9 := Lib.hid ((H7.out.below hb8).below (bel_al (Below.refl _ w8) (.cells #[.int .i64 b, .int .i64 yb] 26)))
                have H9' := Lib.hid (HasB.new w8 26 [.int .i64 b, .int .i64 yb])
                have B9 := Lib.hid (bel_al (bel_then B7.out hb8) (.cells #[.int .i64 b, .int .i64 yb] 26))
                have R9 := Lib.hid ((R7.out.below hb8).below (bel_al (Below.refl _ w8) (.cells #[.int .i64 b, .int .i64 yb] 26)))
                clear hb8 T3 y0 y1
                have hm1 : ((m5 - 1 : Nat) : Int) = (m5 : Int) - 1 := by omega
                have hw1 : IntKind.i64.wrap ((m5 : Int) - 1) = (m5 : Int) - 1 := by unfold IntKind.wrap; simp [IntKind.signed, IntKind.bits]; omega
                go_wp2_with fail
                generalize hg8 : w8.heap.size = g8 at *
                generalize hW9 : w8.alloc (.cells #[.int .i64 b, .int .i64 yb] 26) = w9 at *
                have Q9 := Lib.hid (RC.out A7 c7 (m5 - 1) M N F7.out (by omega) (by unfold I64r; omega) w9 R9.out)
                rw [rgt_iff.2 P7.out] at Q9
                refine Q9.out.mono ?_; rintro e w10 ⟨rfl, hb10⟩
                have H10 := Lib.hid (H9.out.below hb10)
                have H10' := Lib.hid (H9'.out.below hb10)
                have B10 := Lib.hid (bel_then B9.out hb10)
                have R10 := Lib.hid (R9.out.below hb10)
                clear hb10 Q9 H9 H9' B9 R9
                have y0 := H10.out.cell 0
                have y1 := H10.out.cell 1
                have z0 := H10'.out.cell 0
                have z1 := H10'.out.cell 1
                simp at y0 y1 z0 z1
                have hbb' : ¬ (ya < b) := by omega
                have A10 := Lib.hid (AC.out A7 c7 (m5 - 1) M (ya, yb) F7.out (by omega) HYW.out w10 R10.out)
                simp only at A10
                go_wp2_with fail
                refine A10.out.mono ?_; rintro e w11 ⟨A11, c11, M11, P11, Q11, rfl, ha, r11, hb11⟩
                have B11 := Lib.hid (bel_then B10.out hb11)
                have R11 := Lib.hid (R10.out.below hb11)
                have F11 : Hid (M11.length = m5 - 1 + 1) := Lib.hid (by rw [add_len ha, F7.out])
                have P11 := Lib.hid (BK.out M11 P11 Q11 ha)
                have Q12 := Lib.hid (RC.out A11 c11 (m5 - 1 + 1) M11 N F11.out (by omega) (by unfold I64r; omega) w11 r11)
                rw [rgt_iff.2 P11.out] at Q12
                clear ha r11 hb11 A10
                go_wp2_with fail
                refine Q12.out.mono ?_; rintro e w12 ⟨rfl, hb12⟩
                have B12 := Lib.hid (bel_then B11.out hb12)
                have R12 := Lib.hid (R11.out.below hb12)
                clear hb12 Q12
                go_wp2_with fail
                go_roundw
                case rel => exact ⟨j + 1, m5 - 1, A7, c7, M, rfl, by go_num, by omega, by omega, F7, R12, P7, B12⟩
                case measure => simp [intOf]; omega
            · have hz' : (z % 3 == 0) = false := by simp [hz]
              go_wp2_with fail
              go_roundw
              case rel => exact ⟨j + 1, m5, A5, c5, L5, rfl, by go_num, by omega, by omega, F5, R6, P5, B6⟩
              case measure => simp [intOf]; omega
          · have h0' : ¬ ((0 : Int) < (m5 : Int)) := by omega
            go_wp2_with fail
            go_roundw
            case rel => exact ⟨j + 1, m5, A5, c5, L5, rfl, by go_num, by omega, by omega, F5, R6, P5, B6⟩
            case measure => simp [intOf]; omega
        · have hjd' : ¬ ((j : Int) < (dn : Int)) := by omega
          go_wp2_with fail
          go_roundw
          case rel => exact ⟨j + 1, m5, A5, c5, L5, rfl, by go_num, by omega, by omega, F5, R6, P5, B6⟩
          case measure => simp [intOf]; omega
    · have hlt' : ¬ ((j : Int) < (n : Int)) := by omega
      go_wp2_with fail
      go_ret
      exact ⟨rfl, HB.out⟩
theorem vtakes_long (AW : Hid AwS) (A0 : Option Addr) (ca n : Nat) (D : Option Addr) (cd dn : Nat) (h1 : n ≤ maxLen) (h2 : dn ≤ maxLen) (h : ¬ (n ≤ 100 ∧ dn ≤ 100)) (N : Int) (w : World) :
    Calls Try.prog 4 #[.slice A0 n ca, .slice D dn cd, .int .u16 N] w fun e w' => e = .returned (.bool true) ∧ Below w.heap.size w w' := by
  unfold maxLen at h1 h2
  go_enter Try.func4, Try.ntmps4
  go_wp2_with fail
  refine (AW.out _).mono ?_; rintro e w1 ⟨rfl, hb1⟩
  have B1 := Lib.hid hb1; clear hb1
  have hc : 100 < n ∨ (n ≤ 100 ∧ 100 < dn) := by omega
  clear h
  rcases hc with h | ⟨h, h'⟩
  all_goals (go_wp2_with fail; refine (AW.out _).mono ?_; rintro e w2 ⟨rfl, hb2⟩; have B2 := Lib.hid (bel_then B1.out hb2); clear hb2; go_wp2_with fail; go_ret; exact ⟨rfl, B2.out⟩)
theorem vtakes (AW : Hid AwS) (TC : Hid TakeC) (RC : Hid RightC) (AC : Hid AddC) (DC : Hid DropC) (A0 : Option Addr) (ca : Nat) (l : List Int) (D : Option Addr) (cd : Nat) (d : List Int) (N : Int) (w : World) (rA : RowAt w A0 ca l) (rD : RowAt w D cd d) (wn : (Lit.int .u16 N).wf = true) :
    Calls Try.prog 4 #[.slice A0 l.length ca, .slice D d.length cd, .int .u16 N] w fun e w' => e = .returned (.bool true) ∧ Below w.heap.size w w' := by
  have hN : 0 ≤ N ∧ N ≤ 65535 := by
    have := wn
    simp [Lit.wf] at this
    have h1 : IntKind.u16.min = 0 := by decide
    have h2 : IntKind.u16.max = 65535 := by decide
    omega
  by_cases h : l.length ≤ 100 ∧ d.length ≤ 100
  · exact vtakes_few AW TC RC AC DC A0 ca l.length l rfl h.1 D cd d.length d rfl h.2 N hN w rA rD
  · exact vtakes_long AW A0 ca l.length D cd d.length (Nat.le_trans rA.1 rA.2.1) (Nat.le_trans rD.1 rD.2.1) h N w
end Go.Proofs.Ytalglocplebonaa.Mm
