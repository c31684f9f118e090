/- The statement StepMasks, walked. -/
import Derived.Test.YthmcddecgdegdaaStepBase
namespace Go.Proofs.Ythmcddecgdegdaa.Mm
open Go.ChangeShapes Go.WideShapes Go.ChangeAt Go.RowKit
set_option linter.unusedVariables false

set_option maxHeartbeats 4000000 in
theorem masks_n (k log v S B d e H : Int) (hk : 0 ≤ k) (hk' : k ≤ 255) (hl : 0 ≤ log) (hl' : log ≤ 255) (hv : 0 ≤ v) (hv' : v < 4294967296) (w : World)
   (hS : 64 * 2 ^ (log % 10).toNat % 4294967296 = S) (hB : S * (k % 4) % 4294967296 = B)
   (b0 : 0 ≤ B) (b1 : B < 1000000) (s0 : 64 ≤ S) (s1 : S < 1000000) (hH : S / 2 = H)
   (d0 : B + H ≤ d) (d1 : d < B + S) (e0 : B ≤ e) (e1 : e < B + H) (e2 : e % 32 = 0) (d2 : (d - B) % H = v % H)
   (aw : ∀ w, Calls Try.prog 25 #[] w fun e w' => e = .returned (.bool true) ∧ Below w.heap.size w w')
   (cd : dataV B S v = d) (ce : codeV B S v = e) (cdd : dataV B S d = d) (cee : codeV B S e = e) (cdb : dataV B S (d - B) = d) :
    Calls Try.prog 6 #[.int .u8 k, .int .u8 log, .int .u32 v] w fun e w' => e = .returned (.bool true) ∧ Below w.heap.size w w' := by
  have AW := Lib.hid aw; clear aw
  have C1 := fun w => Data_any (.int .u32 0) (.int .u32 0) (.int .u32 0) (.int .u32 0) (.int .u32 0) (.int .u32 0) (.int .u32 0) (.int .u32 0) (.int .u32 0) v B S b0 (by omega) (by omega) (by omega) hv hv' w
  have C2 := fun w => Code_any (.int .u32 0) (.int .u32 0) (.int .u32 0) (.int .u32 0) (.int .u32 0) (.int .u32 0) (.int .u32 0) (.int .u32 0) (.int .u32 0) v B S b0 (by omega) (by omega) (by omega) hv hv' w
  have C3 := fun w => Data_any (.int .u32 0) (.int .u32 0) (.int .u32 0) (.int .u32 0) (.int .u32 0) (.int .u32 0) (.int .u32 0) (.int .u32 0) (.int .u32 0) d B S b0 (by omega) (by omega) (by omega) (by omega) (by omega) w
  have C4 := fun w => Code_any (.int .u32 0) (.int .u32 0) (.int .u32 0) (.int .u32 0) (.int .u32 0) (.int .u32 0) (.int .u32 0) (.int .u32 0) (.int .u32 0) e B S b0 (by omega) (by omega) (by omega) (by omega) (by omega) w
  have C5 := fun w => Data_any (.int .u32 0) (.int .u32 0) (.int .u32 0) (.int .u32 0) (.int .u32 0) (.int .u32 0) (.int .u32 0) (.int .u32 0) (.int .u32 0) (d - B) B S b0 (by omega) (by omega) (by omega) (by omega) (by omega) w
  rw [cd] at C1; rw [ce] at C2; rw [cdd] at C3; rw [cee] at C4; rw [cdb] at C5
  replace C1 := Lib.hid C1
  replace C2 := Lib.hid C2
  replace C3 := Lib.hid C3
  replace C4 := Lib.hid C4
  replace C5 := Lib.hid C5
  have HS := Lib.hid hS
  have HBB := Lib.hid hB
  have HH := Lib.hid hH
  have D2 := Lib.hid d2
  have E2 := Lib.hid e2
  clear cd ce cdd cee cdb hS hB hH d2 e2
  go_enter Try.func6, Try.ntmps6
  go_wp2_with fail
  refine (AW.out _).mono ?_; rintro e w1 ⟨rfl, hb1⟩
  have HB1 := Lib.hid hb1; clear hb1
  go_wp2_with fail
  rw [HS.out, HBB.out]
  have K : Cpu11 w w1.heap.size 57 (.int .u32 0) (.int .u32 0) (.int .u32 0) (.int .u32 0) (.int .u32 0) (.int .u32 0) (.int .u32 0) (.int .u32 0) (.int .u32 0) (.int .u32 B) (.int .u32 S) (w1.alloc (.cells #[.int .u32 0, .int .u32 0, .int .u32 0, .int .u32 0, .int .u32 0, .int .u32 0, .int .u32 0, .int .u32 0, .int .u32 0, .int .u32 B, .int .u32 S] 57)) :=
    ⟨HasB.new w1 57 [.int .u32 0, .int .u32 0, .int .u32 0, .int .u32 0, .int .u32 0, .int .u32 0, .int .u32 0, .int .u32 0, .int .u32 0, .int .u32 B, .int .u32 S], bel_then HB1.out (bel_al (Below.refl _ _) _)⟩
  have K := Lib.hid K
  generalize w1.alloc (.cells #[.int .u32 0, .int .u32 0, .int .u32 0, .int .u32 0, .int .u32 0, .int .u32 0, .int .u32 0, .int .u32 0, .int .u32 0, .int .u32 B, .int .u32 S] 57) = W at *
  generalize w1.heap.size = X at *
  go_region_held3 (fun w' => (w'.cell? ⟨X, 0, none⟩ = some (.int .u32 0) ∧ w'.cell? ⟨X, 1, none⟩ = some (.int .u32 0) ∧ w'.cell? ⟨X, 2, none⟩ = some (.int .u32 0) ∧ w'.cell? ⟨X, 3, none⟩ = some (.int .u32 0) ∧ w'.cell? ⟨X, 4, none⟩ = some (.int .u32 0) ∧ w'.cell? ⟨X, 5, none⟩ = some (.int .u32 0) ∧ w'.cell? ⟨X, 6, none⟩ = some (.int .u32 0) ∧ w'.cell? ⟨X, 7, none⟩ = some (.int .u32 0) ∧ w'.cell? ⟨X, 8, none⟩ = some (.int .u32 0) ∧ w'.cell? ⟨X, 9, none⟩ = some (.int .u32 B) ∧ w'.cell? ⟨X, 10, none⟩ = some (.int .u32 S)) ∧ Cpu11 w X 57 (.int .u32 0) (.int .u32 0) (.int .u32 0) (.int .u32 0) (.int .u32 0) (.int .u32 0) (.int .u32 0) (.int .u32 0) (.int .u32 0) (.int .u32 B) (.int .u32 S) w')
    (first | exact Cpu11.s K.out | exact Cpu11.s (Cpu11.drew K.out) | exact cpu11_keep ‹_ ∧ Cpu11 _ _ _ _ _ _ _ _ _ _ _ _ _ _ _› hb)
    (first | (go_at_call 32; (with_reducible refine (C1.out _).mono ?_); rintro e w' ⟨rfl, hb⟩) | (go_at_call 33; (with_reducible refine (C2.out _).mono ?_); rintro e w' ⟨rfl, hb⟩))
  rename_i w9 hb9 hh
  have K := Lib.hid hh.2; clear hh hb9 hb
  go_wp2_with fail
  have hr := Int.emod_nonneg v (show H ≠ 0 by have := HH.out; omega)
  have hr' := Int.emod_lt_of_pos v (show 0 < H by have := HH.out; omega)
  have D3 := D2.out
  obtain ⟨r, hv3⟩ : ∃ r, v % H = r := ⟨_, rfl⟩
  rw [hv3] at hr hr' D3
  have HV3 := Lib.hid hv3
  have D3 := Lib.hid D3
  clear hv3
  have h32 : 32 ≤ H := by have := HH.out; omega
  have hH5 : H < 1000000 := by have := HH.out; omega
  have i1 : IntKind.u32.wrap (S.tdiv 2) = H := by rw [Int.tdiv_eq_ediv_of_nonneg (by omega), HH.out]; exact IntWalk.u32_in _ (by omega)
  have i4 : IntKind.u32.wrap (B + H) = B + H := IntWalk.u32_in _ (by omega)
  have i2 : IntKind.u32.wrap (B + S) = B + S := IntWalk.u32_in _ (by omega)
  have i3 : IntKind.u32.wrap (d - B) = d - B := IntWalk.u32_in _ (by omega)
  have i5 : e.tmod 32 = 0 := by rw [Int.tmod_eq_emod_of_nonneg (by omega), E2.out]
  have i6 : (d - B).tmod H = r := by rw [Int.tmod_eq_emod_of_nonneg (by omega), D3.out]
  have i7 : v.tmod H = r := by rw [Int.tmod_eq_emod_of_nonneg (by omega), HV3.out]
  have i8 : IntKind.u32.wrap r = r := IntWalk.u32_in _ (by omega)
  have j0 : (H == 0) = false := by rw [beq_eq_false_iff_ne]; omega
  have jz : ¬ H = 0 := by omega
  have jz2 : H ≠ 0 := jz
  have j1 : decide (B + H ≤ d) = true := decide_eq_true d0
  have j2 : decide (d < B + S) = true := decide_eq_true d1
  have j3 : decide (B ≤ e) = true := decide_eq_true e0
  have j4 : decide (e < B + H) = true := decide_eq_true e1
  clear AW C1 C2 HS HBB HB1 D2 E2 HH D3 HV3
  dsimp only [List.append]
  go_region_held3 (fun w' => (w'.cell? ⟨X, 0, none⟩ = some (.int .u32 0) ∧ w'.cell? ⟨X, 1, none⟩ = some (.int .u32 0) ∧ w'.cell? ⟨X, 2, none⟩ = some (.int .u32 0) ∧ w'.cell? ⟨X, 3, none⟩ = some (.int .u32 0) ∧ w'.cell? ⟨X, 4, none⟩ = some (.int .u32 0) ∧ w'.cell? ⟨X, 5, none⟩ = some (.int .u32 0) ∧ w'.cell? ⟨X, 6, none⟩ = some (.int .u32 0) ∧ w'.cell? ⟨X, 7, none⟩ = some (.int .u32 0) ∧ w'.cell? ⟨X, 8, none⟩ = some (.int .u32 0) ∧ w'.cell? ⟨X, 9, none⟩ = some (.int .u32 B) ∧ w'.cell? ⟨X, 10, none⟩ = some (.int .u32 S)) ∧ Cpu11 w X 57 (.int .u32 0) (.int .u32 0) (.int .u32 0) (.int .u32 0) (.int .u32 0) (.int .u32 0) (.int .u32 0) (.int .u32 0) (.int .u32 0) (.int .u32 B) (.int .u32 S) w')
    (first | exact Cpu11.s K.out | exact Cpu11.s (Cpu11.drew K.out) | exact cpu11_keep ‹_ ∧ Cpu11 _ _ _ _ _ _ _ _ _ _ _ _ _ _ _› hb)
    (first | (go_at_call 32; (with_reducible refine (C3.out _).mono ?_); rintro e w' ⟨rfl, hb⟩) | (go_at_call 32; (with_reducible refine (C5.out _).mono ?_); rintro e w' ⟨rfl, hb⟩) | (go_at_call 33; (with_reducible refine (C4.out _).mono ?_); rintro e w' ⟨rfl, hb⟩))
  rename_i hh
  have HB := Lib.hid hh.2.2; clear hh
  go_wp2_with fail
  go_ret
  exact ⟨rfl, HB.out⟩

theorem shl_size (n : Nat) (h : n ≤ 9) : (64 : Int) * 2 ^ n % 4294967296 = 64 * 2 ^ n ∧ (64 : Int) * 2 ^ n ≤ 32768 ∧ ∃ z : Int, (64 : Int) * 2 ^ n = 64 * z ∧ 1 ≤ z := by
  have hn : n = 0 ∨ n = 1 ∨ n = 2 ∨ n = 3 ∨ n = 4 ∨ n = 5 ∨ n = 6 ∨ n = 7 ∨ n = 8 ∨ n = 9 := by omega
  rcases hn with rfl | rfl | rfl | rfl | rfl | rfl | rfl | rfl | rfl | rfl <;> exact ⟨by decide, by decide, _, rfl, by decide⟩
theorem masks_math (z q v : Int) (hz : 1 ≤ z) (hz' : z ≤ 512) (hq : 0 ≤ q) (hq' : q ≤ 3) (hv : 0 ≤ v) :
    let S := 64 * z; let H := 32 * z; let B := 64 * z * q; let r := v % H
    dataV B S v = r + B + H ∧ codeV B S v = r - r % 32 + B ∧ dataV B S (r + B + H) = r + B + H ∧ codeV B S (r - r % 32 + B) = r - r % 32 + B ∧ dataV B S (r + H) = r + B + H ∧ (r + H) % H = r ∧ (r - r % 32 + B) % 32 = 0 := by
  intro S H B r
  have hSH : S / 2 = H := by show 64 * z / 2 = 32 * z; omega
  have hH : 32 ≤ H := by show 32 ≤ 32 * z; omega
  have hH' : H ≤ 16384 := by show 32 * z ≤ 16384; omega
  have hB0 : 0 ≤ B := Int.mul_nonneg (by omega) hq
  have hB1 : B ≤ 98304 := by
    have : 64 * z * q ≤ 32768 * 3 := Int.mul_le_mul (by omega) hq' hq (by omega)
    exact this
  have hBH : B = H * (2 * q) := by show 64 * z * q = 32 * z * (2 * q); rw [show (64 : Int) * z = 32 * z * 2 by omega, Int.mul_assoc]
  have r0 : 0 ≤ r := Int.emod_nonneg v (by omega)
  have r1 : r < H := Int.emod_lt_of_pos v (by omega)
  have hrest : ∀ x, restV x (S / 2) = x % H := fun x => by rw [hSH]; unfold restV; rw [if_neg (by omega)]
  have hd : ∀ x, x % H = r → dataV B S x = r + B + H := fun x hx => by
    unfold dataV
    rw [hrest, hx, hSH, IntWalk.u32_in (r + B) (by omega), IntWalk.u32_in (r + B + H) (by omega)]
  have hm : ∀ x, (x + B) % H = x % H := fun x => by rw [hBH, Int.add_mul_emod_self_left]
  have e1 : (r + B + H) % H = r := by rw [Int.add_emod_right, hm, Int.emod_eq_of_lt r0 r1]
  have e2 : (r + H) % H = r := by rw [Int.add_emod_right, Int.emod_eq_of_lt r0 r1]
  have e3 : (r - r % 32 + B) % H = r - r % 32 := by rw [hm, Int.emod_eq_of_lt (by omega) (by omega)]
  have e4 : (r - r % 32) % 32 = 0 := by omega
  have hc : ∀ x y, x % H = y → 0 ≤ y → y < H → codeV B S x = y - y % 32 + B := fun x y hx h0 h1 => by
    unfold codeV
    rw [hrest, hx, IntWalk.u32_in (y - y % 32 + B) (by omega)]
  refine ⟨hd v rfl, hc v r rfl r0 r1, hd _ e1, ?_, hd _ e2, e2, ?_⟩
  · rw [hc _ _ e3 (by omega) (by omega), e4, Int.sub_zero]
  · have : B = 32 * (2 * z * q) := by show 64 * z * q = 32 * (2 * z * q); rw [show (64 : Int) * z = 32 * (2 * z) by omega, Int.mul_assoc]
    omega

theorem stepMasks_of (aw : ∀ w, Calls Try.prog 25 #[] w fun e w' => e = .returned (.bool true) ∧ Below w.heap.size w w')
   (k log v : Int) (w : World) (hk : (Lit.int .u8 k).wf = true) (hl : (Lit.int .u8 log).wf = true) (hv : (Lit.int .u32 v).wf = true) :
    Calls Try.prog 6 #[.int .u8 k, .int .u8 log, .int .u32 v] w fun e w' => e = .returned (.bool true) ∧ Below w.heap.size w w' := by
  obtain ⟨k0, k1⟩ := bounds_u8 hk
  obtain ⟨l0, l1⟩ := bounds_u8 hl
  obtain ⟨v0, v1⟩ := bounds_u32 hv
  obtain ⟨e1, e2, z, e3, e4⟩ := shl_size (log % 10).toNat (by omega)
  obtain ⟨q, hq⟩ : ∃ q, k % 4 = q := ⟨_, rfl⟩
  have m := masks_math z q v e4 (by omega) (by omega) (by omega) v0
  simp only at m
  obtain ⟨m1, m2, m3, m4, m5, m6, m7⟩ := m
  have hB0 : 0 ≤ 64 * z * q := Int.mul_nonneg (by omega) (by omega)
  have hB1 : 64 * z * q ≤ 98304 := by
    have : 64 * z * q ≤ 32768 * 3 := Int.mul_le_mul (by omega) (by omega) (by omega) (by omega)
    exact this
  have r0 : 0 ≤ v % (32 * z) := Int.emod_nonneg v (by omega)
  have r1 : v % (32 * z) < 32 * z := Int.emod_lt_of_pos v (by omega)
  refine masks_n k log v (64 * z) (64 * z * q) _ _ (32 * z) k0 (by omega) l0 (by omega) v0 (by omega) w (by rw [e1, e3]) (by rw [hq]; omega) hB0 (by omega) (by omega) (by omega) (by omega) ?_ ?_ ?_ ?_ m7 ?_ aw m1 m2 m3 m4 ?_
  · omega
  · omega
  · omega
  · omega
  · rw [show v % (32 * z) + 64 * z * q + 32 * z - 64 * z * q = v % (32 * z) + 32 * z by omega]; exact m6
  · rw [show v % (32 * z) + 64 * z * q + 32 * z - 64 * z * q = v % (32 * z) + 32 * z by omega]; exact m5
end Go.Proofs.Ythmcddecgdegdaa.Mm
