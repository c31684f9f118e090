/- What package step fetches; Load, Store and the sums. -/
import Derived.Test.YtjcggpaiminecaaStepBase
import Derived.Test.YtjcggpaiminecaaWordWalks
namespace Go.Proofs.Ytjcggpaiminecaa.Mm
open Go.ChangeShapes Go.WideShapes Go.ChangeAt Go.RowKit
set_option linter.unusedVariables false

def FetP (w : World) (l : List Int) (e : Ending) (w' : World) : Prop := ∃ A cap, e = .returned (.slice A l.length cap) ∧ RowAt w' A cap l ∧ Below w.heap.size w w'
theorem fet_succ_n {T : List Bool} {a : Int} {k : Nat} (h : wholeB T a ((k + 1 : Nat) : Int) = false) : fet T a (k + 1) = fet T a k := by
  show (if wholeB T a ((k + 1 : Nat) : Int) then k + 1 else fet T a k) = fet T a k
  rw [h]; rfl
theorem fet_succ_y {T : List Bool} {a : Int} {k : Nat} (h : wholeB T a ((k + 1 : Nat) : Int) = true) : fet T a (k + 1) = k + 1 := by
  show (if wholeB T a ((k + 1 : Nat) : Int) then k + 1 else fet T a k) = k + 1
  rw [h]; rfl
set_option maxHeartbeats 4000000 in
theorem fetch_any {w : World} {p g h : Nat} {B : List Int} {T : List Bool} (m : MemAt w p g h B T) (a : Int) (h0 : 0 ≤ a) (h1 : a < 4294967296) :
    Calls Try.prog 29 #[.pointer (some ⟨p, 0, none⟩), .int .u32 a] w (FetP w (codeL B T a)) := by
  have M := Lib.hid m; clear m
  go_enter Try.func29, Try.ntmps29
  go_wp2_with fail
  go_loop [5] (fun n => ∃ k : Nat, k ≤ 6 ∧ n = .int .i64 k ∧ Hid (fet T a 6 = fet T a k)) (fun n => (intOf n).toNat)
  case atStart => exact ⟨6, by decide, rfl, Lib.hid rfl⟩
  case round =>
    obtain ⟨k, hk, rfl, hf⟩ := hrel
    cases k with
    | zero =>
      go_wp2_with fail
      go_ret
      have e : codeL B T a = [] := by unfold codeL; rw [hf.out]; rfl
      rw [e]
      exact ⟨none, 0, rfl, ⟨Nat.le_refl _, Nat.zero_le _, fun x hx => absurd hx (by simp), fun h => absurd rfl h⟩, Below.refl _ _⟩
    | succ k =>
      have k0 : (0 : Int) < (((k + 1 : Nat) : Int)) := by omega
      have k6 : (((k + 1 : Nat) : Int)) ≤ 6 := by omega
      cases hw : wholeB T a ((k + 1 : Nat) : Int)
      · have F := Lib.hid (hf.out.trans (fet_succ_n hw))
        have CR := Lib.hid (read_no M.out a ((k + 1 : Nat) : Int) (by omega) hw)
        clear hw hf
        generalize hK : ((k + 1 : Nat) : Int) = K at *
        have HK := Lib.hid hK; clear hK
        have kd : decide (0 < K) = true := decide_eq_true k0
        go_wp2_with fail
        refine CR.out.mono ?_; rintro e w' ⟨rfl, rfl⟩
        go_wp2_with fail
        go_round
        case rel => exact ⟨k, by omega, by rw [show K - 1 = (k : Int) by have := HK.out; omega], F⟩
        case measure => simp [intOf]; have := HK.out; omega
      · have F := Lib.hid (hf.out.trans (fet_succ_y hw))
        have CR := Lib.hid (read_i M.out a ((k + 1 : Nat) : Int) hw)
        have HW := Lib.hid hw
        clear hw hf
        generalize hK : ((k + 1 : Nat) : Int) = K at *
        have HK := Lib.hid hK; clear hK
        have kd : decide (0 < K) = true := decide_eq_true k0
        go_wp2_with fail
        refine CR.out.mono ?_; rintro e w2 ⟨rfl, hr, hb⟩
        have R := Lib.hid hr
        have HB := Lib.hid hb
        clear hr hb
        go_wp2_with fail
        go_ret
        have hKn : K.toNat = k + 1 := by have := HK.out; omega
        have hl : (codeL B T a).length = k + 1 := by rw [codeL_len M.out.len, F.out]
        have R' := R.out
        rw [hKn] at R' ⊢
        have e : (B.drop a.toNat).take (k + 1) = codeL B T a := by unfold codeL; rw [F.out]
        rw [e] at R'
        refine ⟨some ⟨w.heap.size, 0, none⟩, k + 1, by rw [hl]; rfl, ?_, HB.out⟩
        have := row_blk (codeL_byte M.out.byte T a) (by rw [hl]; unfold maxLen; omega) R'
        rwa [hl] at this
end Go.Proofs.Ytjcggpaiminecaa.Mm
