/- The statement RulePlays, walked. -/
import Derived.Test.YtojpcijfipdiaaaRuleRef
import Derived.Test.YtojpcijfipdiaaaRuleAwake
namespace Go.Proofs.Ytojpcijfipdiaaa.Mm
open Go.ChangeShapes Go.WideShapes Go.ChangeAt Go.RowKit
set_option linter.unusedVariables false

theorem plays_long (A : Option Addr) (cap n : Nat) (h : 4200 < n) (hm : n ≤ maxLen) (w : World) :
    Calls Try.prog 3 #[.slice A n cap] w fun e w' => e = .returned (.bool true) ∧ Below w.heap.size w w' := by
  unfold maxLen at hm
  go_enter Try.func3, Try.ntmps3
  go_wp2_with fail
  refine (awake_any _).mono ?_; rintro e w1 ⟨rfl, hb1⟩
  have B1 := Lib.hid hb1; clear hb1
  go_wp2_with fail
  refine (awake_any _).mono ?_; rintro e w2 ⟨rfl, hb2⟩
  have B2 := Lib.hid (bel_then B1.out hb2); clear hb2
  go_wp2_with fail
  go_ret
  exact ⟨rfl, B2.out⟩

theorem len_nil (w : World) : (Builtin.len_ #[24] 3 #[.map none]).run Try.prog w = .ok (.int .i64 0) w := by kernel_rfl
theorem plays_bad (A : Option Addr) (cap n : Nat) (code : List Int) (hn : code.length = n) (h : n ≤ 4200) (hE : ruleE code ≠ 0) (w : World) (r : RowAt w A cap code) :
    Calls Try.prog 3 #[.slice A n cap] w fun e w' => e = .returned (.bool true) ∧ Below w.heap.size w w' := by
  have C1 := Lib.hid (fun w' (k : Below w.heap.size w w') => Seconds_no A cap n code hn hE w' (r.below k))
  have C2 := Lib.hid (fun w' (k : Below w.heap.size w w') => rSeconds_no A cap n code hn hE w' (r.below k))
  have C3 := Lib.hid (fun w' (k : Below w.heap.size w w') => Keeps_any A cap n code hn w' (r.below k))
  clear r hn hE
  generalize ruleE code = q at *
  go_enter Try.func3, Try.ntmps3
  go_wp2_with fail
  refine (awake_any _).mono ?_; rintro e w1 ⟨rfl, hb1⟩
  have B1 := Lib.hid hb1; clear hb1
  go_wp2_with fail
  refine (C1.out w1 B1.out).mono ?_; rintro e w2 ⟨rfl, hb2⟩
  have B2 := Lib.hid (bel_then B1.out hb2); clear hb2
  go_wp2_with fail
  refine (C2.out w2 B2.out).mono ?_; rintro e w3 ⟨rfl, hb3⟩
  have B3 := Lib.hid (bel_then B2.out hb3); clear hb3
  go_wp2_with fail
  refine (C3.out w3 B3.out).mono ?_; rintro e w4 ⟨rfl, hb4⟩
  have B4 := Lib.hid (bel_then B3.out hb4); clear hb4 C1 C2 C3
  go_wp2
  go_loopw [7, 8] (fun c i wr => i = .int .i64 0 ∧ c = .int .i64 0 ∧ Hid (Below w4.heap.size w4 wr)) (fun _ i _ => 0)
  case atStart => exact ⟨rfl, rfl, Lib.hid (Below.refl _ _)⟩
  case round =>
    obtain ⟨rfl, rfl, HB⟩ := hrel
    have BF := Lib.hid (bel_then B4.out HB.out)
    have hl := len_nil wr
    go_wp2
    go_ret
    exact ⟨ret_bool (by simp), BF.out⟩

theorem zero_bool (w : World) : (zeroValue 4).run Try.prog w = .ok (.bool false) w := by kernel_rfl
/-- the world of a round's test: a place asked in a map, and in a row -/
def LkR (w : World) (g b k : Nat) (q : Bool) (w' : World) : Prop := (Instr.lookup 24 (.map (some g)) (.int .i64 k) false).run Try.prog w' = .ok (.bool q) w' ∧ w'.cell? ⟨b, k, none⟩ = some (.bool q) ∧ Below w.heap.size w w'
def LkS (w : World) (g b k : Nat) (q : Bool) (w' : World) : Prop :=
  ((Instr.lookup 24 (.map (some g)) (.int .i64 k) false).run Try.prog w' = .ok (.bool q) w' ∧ w'.cell? ⟨b, k, none⟩ = some (.bool q)) ∧ LkR w g b k q w'
theorem LkR.s {w : World} {g b k : Nat} {q : Bool} {w' : World} (h : LkR w g b k q w') : LkS w g b k q w' := ⟨⟨h.1, h.2.1⟩, h⟩
theorem lk_of {w w' : World} {g b k n : Nat} {S : List Nat} (hb : Below w.heap.size w w') (hs : SetAt w g S) (hh : HasB w b 4 (blB n S)) (hk : k < n) : LkR w g b k (decide (k ∈ S)) w' :=
  ⟨(hs.below hb).look Try.underlying24 Try.underlying3 (zero_bool w') k, by rw [(hh.below hb).cell, bl_get _ _ _ hk], hb⟩
set_option maxHeartbeats 2000000 in
theorem plays_ok (A : Option Addr) (cap n : Nat) (code : List Int) (hn : code.length = n) (h : n ≤ 4200) (hE : ruleE code = 0) (w : World) (r : RowAt w A cap code) :
    Calls Try.prog 3 #[.slice A n cap] w fun e w' => e = .returned (.bool true) ∧ Below w.heap.size w w' := by
  have C1 := Lib.hid (fun w' (k : Below w.heap.size w w') => Seconds_yes A cap n code hn hE w' (r.below k))
  have C2 := Lib.hid (fun w' (k : Below w.heap.size w w') => rSeconds_yes A cap n code hn hE w' (r.below k))
  have C3 := Lib.hid (fun w' (k : Below w.heap.size w w') => Keeps_any A cap n code hn w' (r.below k))
  rw [hE] at C3
  have HN := Lib.hid (secL_nodup r.2.2.1)
  have HL := sec_below r.2.2.1
  rw [hn] at HL
  have HL := Lib.hid HL
  clear r hn hE
  generalize secL code = S at *
  go_enter Try.func3, Try.ntmps3
  go_wp2_with fail
  refine (awake_any _).mono ?_; rintro e w1 ⟨rfl, hb1⟩
  have B1 := Lib.hid hb1; clear hb1
  go_wp2_with fail
  refine (C1.out w1 B1.out).mono ?_; rintro e w2 ⟨g, rfl, hg2, hs2, hb2⟩
  have B2 := Lib.hid (bel_then B1.out hb2)
  clear hb2
  go_wp2_with fail
  refine (C2.out w2 B2.out).mono ?_; rintro e w3 ⟨b, rfl, hg3, hs3, hb3⟩
  have M3 := Lib.hid (hs2.below hb3)
  have B3 := Lib.hid (bel_then B2.out hb3)
  have G3 := Lib.hid hs3; clear hb3 hs2 hs3
  go_wp2_with fail
  refine (C3.out w3 B3.out).mono ?_; rintro e w4 ⟨rfl, hb4⟩
  have M4 := Lib.hid (M3.out.below hb4)
  have G4 := Lib.hid (G3.out.below hb4)
  have B4 := Lib.hid (bel_then B3.out hb4); clear hb4 C1 C2 C3 M3 G3
  go_wp2
  go_loopw [7, 8] (fun c i wr => ∃ k : Nat, i = .int .i64 k ∧ k ≤ n ∧ c = .int .i64 (cntB S k : Nat) ∧ cntB S k ≤ k ∧ Hid (Below w4.heap.size w4 wr)) (fun _ i _ => n - (intOf i).toNat)
  case atStart => exact ⟨0, rfl, Nat.zero_le _, by rw [cnt_0]; rfl, by rw [cnt_0]; omega, Lib.hid (Below.refl _ _)⟩
  case round =>
    obtain ⟨k, rfl, hk, rfl, hck, HB⟩ := hrel
    by_cases hlt : k < n
    · have hc : wr.cell? ⟨b, k, none⟩ = some (.bool (decide (k ∈ S))) := by rw [(G4.out.below HB.out).cell, bl_get _ _ _ hlt]
      have hst := cnt_step k S HN.out
      have LK := Lib.hid (fun w' hb => lk_of (w' := w') hb (M4.out.below HB.out) (G4.out.below HB.out) hlt)
      by_cases hm : k ∈ S
      · rw [if_pos hm] at hst
        have hd : decide (k ∈ S) = true := decide_eq_true hm
        rw [hd] at LK
        go_wp2_with fail
        go_region_held3 (fun w' => ((Instr.lookup 24 (.map (some g)) (.int .i64 k) false).run Try.prog w' = .ok (.bool true) w' ∧ w'.cell? ⟨b, k, none⟩ = some (.bool true)) ∧ LkR wr g b k true w')
          (first | exact LkR.s (LK.out _ (Below.refl _ _)) | exact LkR.s (LK.out _ (below_drew1 (Below.refl _ _))) | exact LkR.s (LK.out _ (bel_then (‹_ ∧ LkR _ _ _ _ _ _›).2.2.2 hb)))
          (fail)
        rename_i hh
        obtain ⟨_, _, _, KB⟩ := hh
        have BN := Lib.hid (bel_then HB.out KB)
        have hc : wr.drew.cell? ⟨b, k, none⟩ = some (.bool true) := by rw [(G4.out.below BN.out).cell, bl_get _ _ _ hlt, hd]
        clear KB
        go_wp2
        go_roundw
        case rel => exact ⟨k + 1, by go_num, by omega, by rw [hst]; go_num, by omega, BN⟩
        case measure => simp [intOf]; omega
      · rw [if_neg hm] at hst
        have hd : decide (k ∈ S) = false := decide_eq_false hm
        rw [hd] at LK
        go_wp2_with fail
        go_region_held3 (fun w' => ((Instr.lookup 24 (.map (some g)) (.int .i64 k) false).run Try.prog w' = .ok (.bool false) w' ∧ w'.cell? ⟨b, k, none⟩ = some (.bool false)) ∧ LkR wr g b k false w')
          (first | exact LkR.s (LK.out _ (Below.refl _ _)) | exact LkR.s (LK.out _ (below_drew1 (Below.refl _ _))) | exact LkR.s (LK.out _ (bel_then (‹_ ∧ LkR _ _ _ _ _ _›).2.2.2 hb)))
          (fail)
        rename_i hh
        obtain ⟨_, _, _, KB⟩ := hh
        have BN := Lib.hid (bel_then HB.out KB)
        have hc : wr.drew.cell? ⟨b, k, none⟩ = some (.bool false) := by rw [(G4.out.below BN.out).cell, bl_get _ _ _ hlt, hd]
        clear KB
        go_wp2
        go_roundw
        case rel => exact ⟨k + 1, by go_num, by omega, by rw [hst]; rfl, by omega, BN⟩
        case measure => simp [intOf]; omega
    · obtain rfl : k = n := by omega
      have hl := (M4.out.below HB.out).len Try.underlying24 3
      rw [cnt_all HL.out]
      have BF := Lib.hid (bel_then B4.out HB.out)
      go_wp2
      go_ret
      exact ⟨ret_bool (by simp), BF.out⟩
theorem rulePlays_walk (A : Option Addr) (cap : Nat) (code : List Int) (w : World) (r : RowAt w A cap code) :
    Calls Try.prog 3 #[.slice A code.length cap] w fun e w' => e = .returned (.bool true) ∧ Below w.heap.size w w' := by
  rcases Nat.lt_or_ge 4200 code.length with h | h
  · exact plays_long A cap _ h (by have := r.1; have := r.2.1; omega) w
  · by_cases hE : ruleE code = 0
    · exact plays_ok A cap _ code rfl h hE w r
    · exact plays_bad A cap _ code rfl h hE w r
end Go.Proofs.Ytojpcijfipdiaaa.Mm
