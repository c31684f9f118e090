/- The statement SlabFull, walked, over the contracts of package slab. -/
import Derived.Test.YtalglocplebonaaSlabC
namespace Go.Proofs.Ytalglocplebonaa.Mm
open Go.ChangeShapes Go.WideShapes Go.ChangeAt Go.RowKit
set_option linter.unusedVariables false

theorem full_E {s n : Int} (hs : powS s = true) (k : Nat) (hr : RightP (fullL s k) n) :
    ((2 * (k : Int) + 1) * s + s + 64 ≤ n ∧ takeE (fullL s k) n s = 0 ∧ takeR (fullL s k) n s = ((2 * (k : Int) + 1) * s, s)) ∨ (takeE (fullL s k) n s = 7 ∧ takeR (fullL s k) n s = (0, 0)) := by
  obtain ⟨o, h⟩ := take_ex (fullL s k) n s hs
  have hg := rgt_iff.2 hr
  have s0 := powS_pos hs
  rcases full_take hs k h with ⟨rfl, h1⟩ | ⟨rfl, h1⟩
  · have hv := takeV_some h
    have h0 : ¬ (2 * (k : Int) + 1) * s < 0 := by
      have : 0 * s ≤ (2 * (k : Int) + 1) * s := Int.mul_le_mul_of_nonneg_right (by omega) (by omega)
      omega
    have e : takeE (fullL s k) n s = 0 := by unfold takeE; rw [hg, hs, hv]; simp [h0]
    exact .inl ⟨h1, e, by unfold takeR; rw [if_pos e, hv]⟩
  · have hv := takeV_none h
    have e : takeE (fullL s k) n s = 7 := by unfold takeE; rw [hg, hs, hv]; simp
    exact .inr ⟨e, by unfold takeR; rw [if_neg (by rw [e]; decide)]⟩
theorem full_at {s : Int} {k i : Nat} (h : i < k) : (fullL s k).getD i (0, 0) = ((2 * (i : Int) + 1) * s, s) := by
  unfold fullL
  rw [List.getD_eq_getElem?_getD]
  simp [h]
theorem shl_pow {g : Int} (g0 : 0 ≤ g) (g1 : g ≤ 255) : powS (wrap64 (128 * 2 ^ (g % 8).toNat)) = true := by
  have : (g % 8).toNat = 0 ∨ (g % 8).toNat = 1 ∨ (g % 8).toNat = 2 ∨ (g % 8).toNat = 3 ∨ (g % 8).toNat = 4 ∨ (g % 8).toNat = 5 ∨ (g % 8).toNat = 6 ∨ (g % 8).toNat = 7 := by omega
  rcases this with h | h | h | h | h | h | h | h <;> rw [h]
  · rw [show wrap64 (128 * 2 ^ 0) = 128 by unfold wrap64; decide]; decide
  · rw [show wrap64 (128 * 2 ^ 1) = 256 by unfold wrap64; decide]; decide
  · rw [show wrap64 (128 * 2 ^ 2) = 512 by unfold wrap64; decide]; decide
  · rw [show wrap64 (128 * 2 ^ 3) = 1024 by unfold wrap64; decide]; decide
  · rw [show wrap64 (128 * 2 ^ 4) = 2048 by unfold wrap64; decide]; decide
  · rw [show wrap64 (128 * 2 ^ 5) = 4096 by unfold wrap64; decide]; decide
  · rw [show wrap64 (128 * 2 ^ 6) = 8192 by unfold wrap64; decide]; decide
  · rw [show wrap64 (128 * 2 ^ 7) = 16384 by unfold wrap64; decide]; decide
set_option maxHeartbeats 4000000 in
theorem vfull (AW : Hid AwS) (TC : Hid TakeC) (RC : Hid RightC) (AC : Hid AddC) (g n : Int) (hg : 0 ≤ g ∧ g ≤ 255) (hn : 0 ≤ n ∧ n ≤ 65535) (w : World) :
    Calls Try.prog 7 #[.int .u8 g, .int .u16 n] w fun e w' => e = .returned (.bool true) ∧ Below w.heap.size w w' := by
  obtain ⟨g0, g1⟩ := hg
  obtain ⟨n0, n1⟩ := hn
  have PS := Lib.hid (shl_pow g0 g1)
  go_enter Try.func7, Try.ntmps7
  go_wp2_with fail
  refine (AW.out _).mono ?_; rintro e w1 ⟨rfl, hb1⟩
  have B1 := Lib.hid hb1; clear hb1
  go_wp2_with fail
  generalize wrap64 (128 * 2 ^ (g % 8).toNat) = s at *
  have S0 := powS_pos PS.out
  go_loopw [6, 7] (fun v i wr => ∃ (k : Nat) (A : Option Addr) (c : Nat), v = .slice A k c ∧ i = .int .i64 k ∧ k ≤ 256 ∧ Hid (RgRow wr A c (fullL s k)) ∧ Hid (RightP (fullL s k) n) ∧ Hid (Below w.heap.size w wr)) (fun _ i _ => 400 - (intOf i).toNat)
  case atStart => exact ⟨0, none, 0, rfl, rfl, by omega, Lib.hid (rgRow_nil _), Lib.hid (right_nil n0 (by omega)), B1⟩
  case round =>
    obtain ⟨k, A, c, rfl, rfl, hk, R1, RP, HB⟩ := hrel
    have FL := Lib.hid (full_len s k)
    have T1 := Lib.hid (TC.out A c k (fullL s k) n s FL.out (by omega) (by unfold I64r; omega) (by unfold I64r; omega))
    have T2 := Lib.hid (fun w' (b : Below wr.heap.size wr w') => T1.out w' (R1.out.below b))
    clear T1
    have h4 : ((k : Int) < 400) := by omega
    rcases full_E PS.out k RP.out with ⟨hf, e1, e2⟩ | ⟨e1, e2⟩
    · rw [e1, e2] at T2
      have hk2 := full_few PS.out (by omega) k hf
      have hX : Hid (rgWf ((2 * (k : Int) + 1) * s, s)) := Lib.hid (by
        have : 0 * s ≤ (2 * (k : Int) + 1) * s := Int.mul_le_mul_of_nonneg_right (by omega) (by omega)
        unfold rgWf; simp only; omega)
      have FA := Lib.hid (fun M P Q ha => @full_add s n PS.out k M P Q ha RP.out)
      have FR := Lib.hid (full_right PS.out n0 (by omega) (k + 1) (.inr (by rw [show ((k + 1 : Nat) : Int) - 1 = k by omega]; exact hf)))
      have A1 := Lib.hid (fun w' (b : Below wr.heap.size wr w') => AC.out A c k (fullL s k) _ FL.out (by omega) hX.out w' (R1.out.below b))
      clear hf e1 e2
      generalize (2 * (k : Int) + 1) * s = x at *
      simp only at A1 T2
      go_wp2_with fail
      refine (T2.out _ (Below.refl _ _)).mono ?_; rintro e w2 ⟨rfl, hb2⟩
      have B2 := Lib.hid (bel_al hb2 (.cells #[.int .i64 x, .int .i64 s] 26))
      clear hb2
      go_wp2_with fail
      refine (A1.out _ B2.out).mono ?_; rintro e w3 ⟨A3, c3, M, P, Q, rfl, ha, r3, hb3⟩
      have B3 := Lib.hid (HB.out.trans ((bel_then B2.out hb3).mono HB.out.size))
      have HM := Lib.hid (FA.out M P Q ha)
      have R3 := Lib.hid r3
      clear ha r3 hb3
      go_wp2_with fail
      go_roundw
      case rel => exact ⟨k + 1, A3, c3, by go_num, by go_num, by omega, Lib.hid (by rw [← HM.out]; exact R3.out), FR, B3⟩
      case measure => simp [intOf]; omega
    · rw [e1, e2] at T2
      clear e1 e2
      have R2 := Lib.hid (fun w' (b : Below wr.heap.size wr w') => RC.out A c k (fullL s k) n FL.out (by omega) (by unfold I64r; omega) w' (R1.out.below b))
      rw [rgt_iff.2 RP.out] at R2
      have FAT := Lib.hid (fun i (h : i < k) => @full_at s k i h)
      generalize fullL s k = L at *
      simp only at T2
      go_wp2_with fail
      refine (T2.out _ (Below.refl _ _)).mono ?_; rintro e w2 ⟨rfl, hb2⟩
      have B2 := Lib.hid (bel_al hb2 (.cells #[.int .i64 0, .int .i64 0] 26))
      clear hb2
      go_wp2_with fail
      refine (T2.out _ B2.out).mono ?_; rintro e w3 ⟨rfl, hb3⟩
      have B3 := Lib.hid (bel_al (bel_then B2.out hb3) (.cells #[.int .i64 0, .int .i64 0] 26))
      clear hb3
      go_wp2_with fail
      refine (R2.out _ B3.out).mono ?_; rintro e w4 ⟨rfl, hb4⟩
      have B4 := Lib.hid (HB.out.trans ((bel_then B3.out hb4).mono HB.out.size))
      have R4 := Lib.hid (R1.out.below (bel_then B3.out hb4))
      clear hb4 B3 B2 R2 T2
      go_wp2_with fail
      generalize hq : w4 = wq at *
      clear hq
      go_loopw [12] (fun i wr' => ∃ (j : Nat), i = .int .i64 j ∧ 1 ≤ j ∧ (j ≤ k ∨ j = 1) ∧ Hid (Below wq.heap.size wq wr')) (fun i _ => k - (intOf i).toNat)
      case atStart => exact ⟨1, rfl, by omega, .inr rfl, Lib.hid (Below.refl _ _)⟩
      case round =>
        obtain ⟨j, rfl, hj, hjk, HC⟩ := hrel
        by_cases hlt : j < k
        · obtain ⟨x, rfl, hxb, hc⟩ := (R4.out.below HC.out).2.2.2 (by intro e; have := FL.out; rw [e] at this; have h0 : (0 : Nat) = k := this; omega)
          have c1 := (hc j (by rw [FL.out]; exact hlt)).c0
          have c0 := (hc 0 (by rw [FL.out]; omega)).c0
          rw [FAT.out j hlt] at c1
          rw [FAT.out 0 (by omega)] at c0
          simp only at c0 c1
          have e1 : (2 * (j : Int) + 1) * s = s + 2 * (j : Int) * s := by rw [Int.add_mul, Int.one_mul]; omega
          have e0 : (2 * ((0 : Nat) : Int) + 1) * s = s := by simp
          have hp : 0 * 0 ≤ 2 * (j : Int) * s := Int.mul_le_mul (by omega) (by omega) (by omega) (by omega)
          have hp2 : 2 * (j : Int) * s ≤ 512 * 16384 := Int.mul_le_mul (by omega) (by omega) (by omega) (by omega)
          rw [e1] at c1
          rw [e0] at c0
          have hk0 : (0 : Int) < (k : Int) := by omega
          have hk0' : 0 < k := by omega
          have w1 : IntKind.i64.wrap (2 * (j : Int)) = 2 * (j : Int) := by unfold IntKind.wrap; simp [IntKind.signed, IntKind.bits]; omega
          have w2 : IntKind.i64.wrap (2 * (j : Int) * s) = 2 * (j : Int) * s := by
            generalize 2 * (j : Int) * s = z at *; unfold IntKind.wrap; simp [IntKind.signed, IntKind.bits]; omega
          have w3 : IntKind.i64.wrap (s + 2 * (j : Int) * s) = s + 2 * (j : Int) * s := by
            generalize 2 * (j : Int) * s = z at *; unfold IntKind.wrap; simp [IntKind.signed, IntKind.bits]; omega
          have c0x : wr.cell? x = some (.int .i64 s) := by simpa [Addr.add] using c0
          have c00 : wr.cell? (x.add 0) = some (.int .i64 s) := by simpa [Addr.add] using c0
          clear hc
          go_wp2_with fail
          go_quiet (fail)
          go_wp2
          go_roundw
          case rel => exact ⟨j + 1, by go_num, by omega, .inl (by omega), Lib.hid (below_drewN HC.out _)⟩
          case measure => simp [intOf]; omega
        · have hlt' : ¬ ((j : Int) < (k : Int)) := by omega
          by_cases h0 : k = 0
          · subst h0
            go_wp2_with fail
            go_ret
            exact ⟨rfl, bel_then B4.out HC.out⟩
          · obtain ⟨x, rfl, hxb, hc⟩ := (R4.out.below HC.out).2.2.2 (by intro e; have := FL.out; rw [e] at this; have h0 : (0 : Nat) = k := this; omega)
            have c0 := (hc 0 (by rw [FL.out]; omega)).c0
            rw [FAT.out 0 (by omega)] at c0
            simp only at c0
            have e0 : (2 * ((0 : Nat) : Int) + 1) * s = s := by simp
            rw [e0] at c0
            have hk0 : (0 : Int) < (k : Int) := by omega
            have hk0' : 0 < k := by omega
            have c0x : wr.cell? x = some (.int .i64 s) := by simpa [Addr.add] using c0
            have c00 : wr.cell? (x.add 0) = some (.int .i64 s) := by simpa [Addr.add] using c0
            have hkz : ((k : Int) == 0) = false := by simp; omega
            clear hc
            go_wp2_with fail
            go_ret
            exact ⟨rfl, bel_then B4.out HC.out⟩
theorem vfullW (AW : Hid AwS) (TC : Hid TakeC) (RC : Hid RightC) (AC : Hid AddC) (g n : Int) (wg : (Lit.int .u8 g).wf = true) (wn : (Lit.int .u16 n).wf = true) (w : World) :
    Calls Try.prog 7 #[.int .u8 g, .int .u16 n] w fun e w' => e = .returned (.bool true) ∧ Below w.heap.size w w' :=
  vfull AW TC RC AC g n (bounds_u8 wg) (bounds_u16 wn) w
end Go.Proofs.Ytalglocplebonaa.Mm
