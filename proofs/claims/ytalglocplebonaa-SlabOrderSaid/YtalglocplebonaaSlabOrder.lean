/- The statement SlabOrder, walked, over the contracts of package slab. -/
import Derived.Test.YtalglocplebonaaSlabFull
namespace Go.Proofs.Ytalglocplebonaa.Mm
open Go.ChangeShapes Go.WideShapes Go.ChangeAt Go.RowKit
set_option linter.unusedVariables false

theorem shl_pow4 {g : Int} (g0 : 0 ≤ g) (g1 : g ≤ 255) : powS (wrap64 (128 * 2 ^ (g % 4).toNat)) = true := by
  have : (g % 4).toNat = 0 ∨ (g % 4).toNat = 1 ∨ (g % 4).toNat = 2 ∨ (g % 4).toNat = 3 := by omega
  rcases this with h | h | h | h <;> rw [h]
  · rw [show wrap64 (128 * 2 ^ 0) = 128 by unfold wrap64; decide]; decide
  · rw [show wrap64 (128 * 2 ^ 1) = 256 by unfold wrap64; decide]; decide
  · rw [show wrap64 (128 * 2 ^ 2) = 512 by unfold wrap64; decide]; decide
  · rw [show wrap64 (128 * 2 ^ 3) = 1024 by unfold wrap64; decide]; decide
/-- of right ones and a size that may be: a region that may be added, or none -/
theorem take_two {L : List Rg} {n s : Int} (hr : RightP L n) (hs : powS s = true) :
    (takeE L n s = 0 ∧ takeR L n s = (takeV L n s, s) ∧ rgWf (takeV L n s, s)) ∨ (takeE L n s = 7 ∧ takeR L n s = (0, 0)) := by
  have hg := rgt_iff.2 hr
  have s0 := powS_pos hs
  rcases takeV_cases (l := L) (n := n) hs with ⟨h, h0⟩ | ⟨h, _⟩
  · have e : takeE L n s = 0 := by
      unfold takeE; rw [hg, hs]; simp; omega
    refine .inl ⟨e, by unfold takeR; rw [if_pos e], ?_⟩
    have := h.hi
    have := hr.hi
    unfold rgWf; simp only; omega
  · have e : takeE L n s = 7 := by unfold takeE; rw [hg, hs, h]; simp
    exact .inr ⟨e, by unfold takeR; rw [if_neg (by rw [e]; decide)]⟩
def slLen : Value → Nat
  | .slice _ n _ => n
  | _ => 0
set_option maxHeartbeats 4000000 in
theorem vorder_few (AW : Hid AwS) (TC : Hid TakeC) (RC : Hid RightC) (AC : Hid AddC) (DC : Hid DropC) (B : Option Addr) (cb n : Nat) (l : List Int) (hl : l.length = n) (hn : n ≤ 30) (w : World) (rB : RowAt w B cb l) :
    Calls Try.prog 8 #[.slice B n cb] w fun e w' => e = .returned (.bool true) ∧ Below w.heap.size w w' := by
  have RB := Lib.hid rB
  have HL := Lib.hid hl
  clear rB hl
  go_enter Try.func8, Try.ntmps8
  go_wp2_with fail
  refine (AW.out _).mono ?_; rintro e w1 ⟨rfl, hb1⟩
  have B1 := Lib.hid hb1; clear hb1
  go_wp2_with fail
  go_loopw [3, 4] (fun v i wr => ∃ (j m : Nat) (A : Option Addr) (c : Nat) (L : List Rg), v = .slice A m c ∧ i = .int .i64 j ∧ j ≤ n ∧ m ≤ j ∧ Hid (L.length = m) ∧ Hid (RgRow wr A c L) ∧ Hid (RightP L 65536) ∧ Hid (Below w.heap.size w wr)) (fun _ i _ => n - (intOf i).toNat)
  case atStart => exact ⟨0, 0, none, 0, [], rfl, rfl, by omega, by omega, Lib.hid rfl, Lib.hid (rgRow_nil _), Lib.hid (right_nil (by omega) (by omega)), B1⟩
  case round =>
    obtain ⟨j, m, A, c, L, rfl, rfl, hj, hmj, FL, R1, RP, HB⟩ := hrel
    by_cases hlt : j < n
    · have T1 := Lib.hid (fun s (hs : powS s = true) => TC.out A c m L 65536 s FL.out (by omega) (by unfold I64r; omega) (by have := powS_pos hs; unfold I64r; omega))
      obtain ⟨xB, hxB, _, hcB⟩ := (RB.out.below HB.out).2.2.2 (by intro e; have := HL.out; rw [e] at this; simp at this; omega)
      have ev := hcB j (by rw [HL.out]; exact hlt)
      have hv : 0 ≤ l.getD j 0 ∧ l.getD j 0 ≤ 255 := RB.out.2.2.1 _ (by rw [List.getD_eq_getElem?_getD, List.getElem?_eq_getElem (by rw [HL.out]; exact hlt)]; exact List.getElem_mem _)
      clear hcB
      subst hxB
      generalize l.getD j 0 = v at *
      have PS := Lib.hid (shl_pow4 hv.1 hv.2)
      obtain ⟨v0, v1⟩ := hv
      go_wp2_with fail
      generalize wrap64 (128 * 2 ^ (v % 4).toNat) = s at *
      have T2 := Lib.hid (fun w' (b : Below wr.heap.size wr w') => T1.out s PS.out w' (R1.out.below b))
      clear T1
      rcases take_two RP.out PS.out with ⟨e1, e2, hX⟩ | ⟨e1, e2⟩
      · rw [e1, e2] at T2
        have A1 := Lib.hid (fun w' (b : Below wr.heap.size wr w') => AC.out A c m L _ FL.out (by omega) hX w' (R1.out.below b))
        have TA := Lib.hid (fun M P Q ha => @take_add L M P Q 65536 s e1 ha)
        clear e1 e2 hX
        generalize takeV L 65536 s = x at *
        simp only at A1 T2
        refine (T2.out _ (Below.refl _ _)).mono ?_; rintro e w2 ⟨rfl, hb2⟩
        have B2 := Lib.hid (bel_al hb2 (.cells #[.int .i64 x, .int .i64 s] 26))
        clear hb2
        go_wp2_with fail
        refine (A1.out _ B2.out).mono ?_; rintro e w3 ⟨A3, c3, M, P, Q, rfl, ha, r3, hb3⟩
        have B3 := Lib.hid (HB.out.trans ((bel_then B2.out hb3).mono HB.out.size))
        have HM := Lib.hid (TA.out M P Q ha)
        have LM := Lib.hid (add_len ha)
        have R3 := Lib.hid r3
        clear ha r3 hb3
        go_wp2_with fail
        go_roundw
        case rel => exact ⟨j + 1, m + 1, A3, c3, M, by go_num, by go_num, by omega, by omega, Lib.hid (by rw [LM.out, FL.out]), R3, HM, B3⟩
        case measure => simp [intOf]; omega
      · rw [e1, e2] at T2
        clear e1 e2
        simp only at T2
        refine (T2.out _ (Below.refl _ _)).mono ?_; rintro e w2 ⟨rfl, hb2⟩
        have B2 := Lib.hid (bel_al hb2 (.cells #[.int .i64 0, .int .i64 0] 26))
        have B2' := Lib.hid hb2
        clear hb2
        go_wp2_with fail
        exact ⟨⟨j + 1, m, A, c, L, rfl, by go_num, by omega, by omega, FL, Lib.hid (R1.out.below B2.out), RP, Lib.hid (HB.out.trans (B2.out.mono HB.out.size))⟩, by simp [intOf]; omega⟩
    · have hlt' : ¬ ((j : Int) < (n : Int)) := by omega
      go_wp2_with fail
      have Hm : m ≤ n := by omega
      clear hmj hj hlt hlt' B1
      generalize hq : wr = wq at *
      clear hq
      go_loopw [3] (fun v wr' => ∃ (m : Nat) (A : Option Addr) (c : Nat) (L : List Rg), v = .slice A m c ∧ m ≤ n ∧ Hid (L.length = m) ∧ Hid (RgRow wr' A c L) ∧ Hid (RightP L 65536) ∧ Hid (Below w.heap.size w wr')) (fun v _ => slLen v)
      case atStart => exact ⟨m, A, c, L, rfl, Hm, FL, R1, RP, HB⟩
      case round =>
        clear Hm FL R1 RP HB
        obtain ⟨m', A', c', L', rfl, hm, FL, R1, RP, HB⟩ := hrel
        by_cases h0 : 0 < m'
        · obtain ⟨x, rfl, hxb, hc⟩ := R1.out.2.2.2 (by intro e; have := FL.out; rw [e] at this; have h1 : (0 : Nat) = m' := this; omega)
          have hh : m' / 2 < m' := by omega
          have c1 := (hc (m' / 2) (by rw [FL.out]; exact hh)).c0
          have hy : L'.getD (m' / 2) (0, 0) ∈ L' := by
            rw [List.getD_eq_getElem?_getD, List.getElem?_eq_getElem (by rw [FL.out]; exact hh)]; exact List.getElem_mem _
          have hyw := R1.out.2.2.1 _ hy
          clear hc
          generalize L'.getD (m' / 2) (0, 0) = y at *
          have HY := Lib.hid hy
          have D1 := Lib.hid (DC.out (some x) c' m' L' y.1 FL.out (by omega) (by unfold rgWf at hyw; unfold I64r; omega) wr R1.out)
          clear hy hyw
          go_wp2_with fail
          refine D1.out.mono ?_; rintro e w2 (⟨hno, rfl, hb2⟩ | ⟨A2, c2, M, P, Q, y', rfl, hd, r2, hb2⟩)
          · exact absurd rfl (hno y HY.out)
          · have LM : Hid (M.length = m' - 1) := Lib.hid (by have := drop_len hd; have := FL.out; omega)
            have RM := Lib.hid (drop_right RP.out hd)
            have R2 := Lib.hid r2
            have B2 := Lib.hid (HB.out.trans (hb2.mono HB.out.size))
            clear hd r2 hb2 D1
            have Q1 := Lib.hid (RC.out A2 c2 (m' - 1) M 65536 LM.out (by omega) (by unfold I64r; omega) w2 R2.out)
            rw [rgt_iff.2 RM.out] at Q1
            have hm1 : ((m' - 1 : Nat) : Int) = (m' : Int) - 1 := by omega
            have hw1 : IntKind.i64.wrap ((m' : Int) - 1) = (m' : Int) - 1 := by unfold IntKind.wrap; simp [IntKind.signed, IntKind.bits]; omega
            go_wp2_with fail
            refine Q1.out.mono ?_; rintro e w3 ⟨rfl, hb3⟩
            have B3 := Lib.hid (B2.out.trans (hb3.mono B2.out.size))
            have R3 := Lib.hid (R2.out.below hb3)
            clear hb3
            go_wp2_with fail
            go_roundw
            case rel => exact ⟨m' - 1, A2, c2, M, rfl, by omega, LM, R3, RM, B3⟩
            case measure => simp [slLen]; omega
        · go_wp2_with fail
          go_ret
          exact ⟨rfl, HB.out⟩
theorem vorder_long (AW : Hid AwS) (B : Option Addr) (cb n : Nat) (hm : n ≤ maxLen) (hn : 30 < n) (w : World) :
    Calls Try.prog 8 #[.slice B n cb] w fun e w' => e = .returned (.bool true) ∧ Below w.heap.size w w' := by
  unfold maxLen at hm
  go_enter Try.func8, Try.ntmps8
  go_wp2_with fail
  refine (AW.out _).mono ?_; rintro e w1 ⟨rfl, hb1⟩
  have B1 := Lib.hid hb1; clear hb1
  go_wp2_with fail
  refine (AW.out _).mono ?_; rintro e w2 ⟨rfl, hb2⟩
  have B2 := Lib.hid (bel_then B1.out hb2); clear hb2
  go_wp2_with fail
  go_ret
  exact ⟨rfl, B2.out⟩
theorem vorder (AW : Hid AwS) (TC : Hid TakeC) (RC : Hid RightC) (AC : Hid AddC) (DC : Hid DropC) (B : Option Addr) (cb : Nat) (l : List Int) (w : World) (rB : RowAt w B cb l) :
    Calls Try.prog 8 #[.slice B l.length cb] w fun e w' => e = .returned (.bool true) ∧ Below w.heap.size w w' := by
  by_cases h : l.length ≤ 30
  · exact vorder_few AW TC RC AC DC B cb l.length l rfl h w rB
  · exact vorder_long AW B cb l.length (Nat.le_trans rB.1 rB.2.1) (by omega) w
end Go.Proofs.Ytalglocplebonaa.Mm
