/- The statement VerifySafe, walked, over the contracts of package verify: all its ways. -/
import Derived.Test.YtinehmagkdgiiaaVerSafe
namespace Go.Proofs.Ytinehmagkdgiiaa.Mm
open Go.ChangeShapes Go.WideShapes Go.ChangeAt Go.RowKit
set_option linter.unusedVariables false

set_option maxRecDepth 10000 in
set_option maxHeartbeats 2000000 in
theorem vsafe_skip (AW : Hid AwC) (VC : Hid CodeC) (A : Option Addr) (cap n : Nat) (code : List Int) (hn : code.length = n) (h : ¬ (n ≤ 500 ∧ verE code = 0)) (r0 r1 r2 r3 r4 r5 r6 r7 : Int) (lg pl : Int) (w : World) (r : RowAt w A cap code) :
    Calls Try.prog 4 #[.slice A n cap, .agg #[.int .u32 r0, .int .u32 r1, .int .u32 r2, .int .u32 r3, .int .u32 r4, .int .u32 r5, .int .u32 r6, .int .u32 r7], .int .u8 lg, .int .u8 pl] w fun e w' => e = .returned (.bool true) ∧ Below w.heap.size w w' := by
  have hm : n ≤ maxLen := by have := r.1; have := r.2.1; omega
  unfold maxLen at hm
  have C1 := Lib.hid (fun w' (k : Below w.heap.size w w') => VC.out A cap n code hn w' (r.below k))
  have B0 := Lib.hid (bel_al (Below.refl w.heap.size w) (.cells #[.int .u32 r0, .int .u32 r1, .int .u32 r2, .int .u32 r3, .int .u32 r4, .int .u32 r5, .int .u32 r6, .int .u32 r7] 37))
  clear hn r
  generalize verE code = x1 at *
  have hc : 500 < n ∨ (n ≤ 500 ∧ (x1 != 0) = true) := by
    simp only [bne_iff_ne, ne_eq]
    omega
  clear h
  rcases hc with h | ⟨h, h1⟩
  · go_enter Try.func4, Try.ntmps4
    go_wp2_with fail
    refine (AW.out _).mono ?_; rintro e w1 ⟨rfl, hb1⟩
    have B1 := Lib.hid (bel_then B0.out hb1); clear hb1
    go_wp2_with fail
    refine (AW.out _).mono ?_; rintro e w2 ⟨rfl, hb2⟩
    have B2 := Lib.hid (bel_then B1.out hb2); clear hb2
    go_wp2_with fail
    go_ret
    exact ⟨rfl, B2.out⟩
  · go_enter Try.func4, Try.ntmps4
    go_wp2_with fail
    refine (AW.out _).mono ?_; rintro e w1 ⟨rfl, hb1⟩
    have B1 := Lib.hid (bel_then B0.out hb1); clear hb1
    go_wp2_with fail
    refine (C1.out w1 B1.out).mono ?_; rintro e w2 ⟨rfl, hb2⟩
    have B2 := Lib.hid (bel_then B1.out hb2); clear hb2
    go_wp2_with fail
    refine (AW.out _).mono ?_; rintro e w3 ⟨rfl, hb3⟩
    have B3 := Lib.hid (bel_then B2.out hb3); clear hb3
    go_wp2_with fail
    go_ret
    exact ⟨rfl, B3.out⟩
set_option maxRecDepth 10000 in
set_option maxHeartbeats 2000000 in
theorem vsafe_nofit (AW : Hid AwC) (VC : Hid CodeC) (VF : Hid FitsC) (A : Option Addr) (cap n : Nat) (code : List Int) (hn : code.length = n) (h500 : n ≤ 500) (hE : verE code = 0) (r0 r1 r2 r3 r4 r5 r6 r7 : Int) (lg pl : Int) (size : Nat) (hs : size ≤ 2048) (hfit : fitsB n size = false)
    (hsh : ∀ w, (Op.shift BinOp.shl .i64 128 .u8 (lg.tmod 5)).run Try.prog w = .ok (.int .i64 size) w) (w : World) (r : RowAt w A cap code) :
    Calls Try.prog 4 #[.slice A n cap, .agg #[.int .u32 r0, .int .u32 r1, .int .u32 r2, .int .u32 r3, .int .u32 r4, .int .u32 r5, .int .u32 r6, .int .u32 r7], .int .u8 lg, .int .u8 pl] w fun e w' => e = .returned (.bool true) ∧ Below w.heap.size w w' := by
  have C1 := Lib.hid (fun w' (k : Below w.heap.size w w') => VC.out A cap n code hn w' (r.below k))
  have B0 := Lib.hid (bel_al (Below.refl w.heap.size w) (.cells #[.int .u32 r0, .int .u32 r1, .int .u32 r2, .int .u32 r3, .int .u32 r4, .int .u32 r5, .int .u32 r6, .int .u32 r7] 37))
  have V2 := Lib.hid (VF.out n size (by omega) (by omega))
  rw [hfit] at V2
  rw [hE] at C1
  have h5 : n ≤ 500 := h500
  clear hn r hE hfit h500
  go_enter Try.func4, Try.ntmps4
  go_wp2_with fail
  refine (AW.out _).mono ?_; rintro e w1 ⟨rfl, hb1⟩
  have B1 := Lib.hid (bel_then B0.out hb1); clear hb1
  go_wp2_with fail
  refine (C1.out w1 B1.out).mono ?_; rintro e w2 ⟨rfl, hb2⟩
  have B2 := Lib.hid (bel_then B1.out hb2); clear hb2
  go_wp2_with fail
  refine (V2.out w2).mono ?_; rintro e w3 ⟨rfl, hb3⟩
  have B3 := Lib.hid (bel_then B2.out hb3); clear hb3
  go_wp2
  go_ret
  exact ⟨rfl, B3.out⟩
theorem vsafe (AW : Hid AwC) (VC : Hid CodeC) (VF : Hid FitsC) (A : Option Addr) (cap : Nat) (code : List Int) (r0 r1 r2 r3 r4 r5 r6 r7 : Int) (hr : ∀ x ∈ [r0, r1, r2, r3, r4, r5, r6, r7], U32 x) (lg pl : Int) (w : World) (r : RowAt w A cap code) (hl : (Lit.int .u8 lg).wf = true) (hp : (Lit.int .u8 pl).wf = true) :
    Calls Try.prog 4 #[.slice A code.length cap, .agg #[.int .u32 r0, .int .u32 r1, .int .u32 r2, .int .u32 r3, .int .u32 r4, .int .u32 r5, .int .u32 r6, .int .u32 r7], .int .u8 lg, .int .u8 pl] w fun e w' => e = .returned (.bool true) ∧ Below w.heap.size w w' := by
  obtain ⟨l0, l1⟩ := bounds_u8 hl
  obtain ⟨p0, p1⟩ := bounds_u8 hp
  by_cases h : code.length ≤ 500 ∧ verE code = 0
  · obtain ⟨h5, hE⟩ := h
    have ht : lg.tmod 5 = lg % 5 := Int.tmod_eq_emod_of_nonneg l0
    obtain ⟨half, hh, hsh⟩ : ∃ half : Nat, (half = 64 ∨ half = 128 ∨ half = 256 ∨ half = 512 ∨ half = 1024) ∧ ∀ w, (Op.shift BinOp.shl .i64 128 .u8 (lg.tmod 5)).run Try.prog w = .ok (.int .i64 ((2 * half : Nat) : Int)) w := by
      have hc : lg % 5 = 0 ∨ lg % 5 = 1 ∨ lg % 5 = 2 ∨ lg % 5 = 3 ∨ lg % 5 = 4 := by omega
      rw [ht]
      rcases hc with h | h | h | h | h
      · exact ⟨64, by omega, fun w => by rw [h]; rfl⟩
      · exact ⟨128, by omega, fun w => by rw [h]; rfl⟩
      · exact ⟨256, by omega, fun w => by rw [h]; rfl⟩
      · exact ⟨512, by omega, fun w => by rw [h]; rfl⟩
      · exact ⟨1024, by omega, fun w => by rw [h]; rfl⟩
    cases hf : fitsB code.length ((2 * half : Nat) : Int)
    · exact vsafe_nofit AW VC VF A cap _ code rfl h5 hE r0 r1 r2 r3 r4 r5 r6 r7 lg pl (2 * half) (by omega) hf hsh w r
    · have hnl : code.length < half := by
        unfold fitsB at hf
        have := of_decide_eq_true (Bool.and_eq_true .. ▸ hf).2
        omega
      have hq : pl.tmod 2 = pl % 2 := Int.tmod_eq_emod_of_nonneg p0
      have hq2 : pl % 2 = 0 ∨ pl % 2 = 1 := by omega
      have hz : ∃ z, 4 * (2 * half) = 64 * z := by
        rcases hh with rfl | rfl | rfl | rfl | rfl
        · exact ⟨8, by omega⟩
        · exact ⟨16, by omega⟩
        · exact ⟨32, by omega⟩
        · exact ⟨64, by omega⟩
        · exact ⟨128, by omega⟩
      obtain ⟨z, hz⟩ := hz
      rcases hq2 with hq2 | hq2
      · exact vsafe_main AW VC VF A cap _ code rfl h5 hE r0 r1 r2 r3 r4 r5 r6 r7 hr lg pl (2 * half) half (2 * half) z rfl hz (by omega) (by omega) (.inl rfl) hf hnl hsh 0 1 (IntWalk.i64_in _ (by omega)) (by rw [hq]; exact hq2) (by decide) (by rw [Int.mul_one]; exact IntWalk.i64_in _ (by omega)) w r
      · exact vsafe_main AW VC VF A cap _ code rfl h5 hE r0 r1 r2 r3 r4 r5 r6 r7 hr lg pl (2 * half) half (2 * (2 * half)) z rfl hz (by omega) (by omega) (.inr rfl) hf hnl hsh 1 2 (IntWalk.i64_in _ (by omega)) (by rw [hq]; exact hq2) (by decide) (by rw [show ((2 * half : Nat) : Int) * 2 = ((2 * (2 * half) : Nat) : Int) by push_cast; omega]; exact IntWalk.i64_in _ (by omega)) w r
  · exact vsafe_skip AW VC A cap _ code rfl h r0 r1 r2 r3 r4 r5 r6 r7 lg pl w r
end Go.Proofs.Ytinehmagkdgiiaa.Mm
