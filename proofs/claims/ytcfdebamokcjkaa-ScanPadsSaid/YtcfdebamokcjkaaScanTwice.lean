/- The statement ScanTwice, walked. -/
import Derived.Test.YtcfdebamokcjkaaScanFits
namespace Go.Proofs.Ytcfdebamokcjkaa.Mm
open Go.ChangeShapes Go.WideShapes Go.ChangeAt Go.RowKit
set_option linter.unusedVariables false

theorem row_all {w : World} {A : Option Addr} {cap : Nat} {l : List InsV} (r : InsRow w A cap l) (h : allR l = true) : ∀ x ∈ l, x.Ok := fun x hx => lay_right (r.2.2.1 x hx) ((allR_iff l).1 h x hx)
theorem ok_all {l : List InsV} (h : ∀ x ∈ l, x.Ok) : allR l = true := (allR_iff l).2 fun x hx => (h x hx).1
/-- what is padded, scanned, and padded again -/
theorem padR_scan {w : World} {A : Option Addr} {cap : Nat} {l : List InsV} (r : InsRow w A cap l) (h0 : (padR l).length ≠ 0) (h4 : (padR l).length ≤ 4096) :
    padR l = padL l ∧ scanE (padR l) = 0 ∧ insI (scanL (padR l)) = padI 0 l ∧ padR (padI 0 l) = padR l ∧ (padR l).length % 32 = 0 := by
  cases ha : allR l with
  | false => exact absurd (by unfold padR; rw [ha]; rfl) h0
  | true =>
    have hok := row_all r ha
    have e : padR l = padL l := by unfold padR; rw [if_pos ha]
    have h32 := pad_len32 l hok
    rw [e] at h0 h4 ⊢
    have hs : sizeB (padL l).length = true := (sizeB_iff _).2 ⟨by omega, h4, h32⟩
    obtain ⟨e1, e2⟩ := scanE_0 hs (pad_scan l hok)
    refine ⟨rfl, e1, ?_, ?_, h32⟩
    · rw [e2]; exact withPos_ins _ _
    · unfold padR
      rw [if_pos (ok_all (pad_ok l 0 hok)), pad_twice l hok]

set_option maxHeartbeats 2000000 in
theorem twice_few (A : Option Addr) (cap n : Nat) (l : List InsV) (hn : l.length = n) (h300 : n ≤ 300) (w : World) (r : InsRow w A cap l) :
    Calls Try.prog 7 #[.slice A n cap] w fun e w' => e = .returned (.bool true) ∧ Below w.heap.size w w' := by
  have R := Lib.hid r
  have HN := Lib.hid hn
  have HS := Lib.hid (padR_scan r)
  have HP := Lib.hid (fun w' (k : Below w.heap.size w w') => Pad_any A cap n l hn (by omega) w' (r.below k))
  have hpl : (padR l).length ≤ 100000 := by
    unfold padR
    by_cases ha : allR l = true
    · rw [if_pos ha]
      have hok := row_all r ha
      have h1 := (pad_bd l 0 hok).2
      have h2 := (flat_bd l hok).2
      unfold padL
      omega
    · rw [if_neg ha]; simp
  unfold PadP at HP
  clear r hn
  by_cases hp : (padR l).length ≠ 0 ∧ (padR l).length ≤ 4096
  · obtain ⟨q0, q1, q2, q3, q4⟩ := HS.out hp.1 hp.2
    clear HS q0
    have HL := Lib.hid (fun w' A' c' (k : RowAt w' A' c' (padR l)) => Listing_any A' c' _ (padR l) rfl w' k)
    have HT := Lib.hid (fun w' A' c' (k : RowAt w' A' c' (padR l)) => Starts_any A' c' _ (padR l) rfl w' k)
    have HC := Lib.hid (fun w' A' c' (k : RowAt w' A' c' (padR l)) => conv_row k _ rfl)
    unfold ListP at HL
    unfold StartsP at HT
    rw [q1, q2] at HL
    rw [q1] at HT
    have hz : (scanL (padR l)).length ≤ 4200 ∧ (padI 0 l).length = (scanL (padR l)).length := by
      rw [← q2, insI_len]
      refine ⟨?_, rfl⟩
      rcases scan_cases (padR l) with ⟨_, _, e⟩ | ⟨_, _, _, e⟩ | ⟨_, L, h, _, e⟩
      · rw [e]; simp
      · rw [e]; simp
      · rw [e]
        have hb : Bytes (padR l) := by
          unfold padR
          by_cases ha : allR l = true
          · rw [if_pos ha]; exact flatI_byte _
          · rw [if_neg ha]; intro x hx; cases hx
        have := scan_len hb h
        omega
    have HP2 := Lib.hid (fun w' A' c' (k : InsRow w' A' c' (padI 0 l)) => Pad_any A' c' _ (padI 0 l) hz.2 hz.1 w' k)
    unfold PadP at HP2
    rw [q3] at HP2
    obtain ⟨hz, _⟩ := hz
    obtain ⟨hp0, hp4⟩ := hp
    have h0' : (((padR l).length : Int) == 0) = false := by rw [beq_eq_false_iff_ne]; omega
    clear q1 q2 q3
    generalize (scanL (padR l)).length = z at *
    generalize padI 0 l = Q at *
    generalize posI (scanL (padR l)) = Y at *
    generalize strOfNums (padR l) = S at *
    generalize padR l = P at *
    generalize hpl' : P.length = p at *
    clear hpl'
    go_enter Try.func7, Try.ntmps7
    go_wp2_with fail
    refine (awake_any _).mono ?_; rintro e w1 ⟨rfl, hb1⟩
    have B1 := Lib.hid hb1; clear hb1
    go_wp2_with fail
    refine (HP.out w1 B1.out).mono ?_; rintro e w2 ⟨A2, c2, rfl, r2, hb2⟩
    have R2 := Lib.hid r2
    have B2 := Lib.hid (bel_then B1.out hb2); clear r2 hb2
    go_wp2_with fail
    refine (HL.out w2 A2 c2 R2.out).mono ?_; rintro e w3 ⟨A3, c3, rfl, i3, hb3⟩
    have I3 := Lib.hid i3
    have R3 := Lib.hid (R2.out.below hb3)
    have B3 := Lib.hid (bel_then B2.out hb3); clear i3 hb3
    go_wp2_with fail
    refine (HP2.out w3 A3 c3 I3.out).mono ?_; rintro e w4 ⟨A4, c4, rfl, r4, hb4⟩
    have R4 := Lib.hid r4
    have X4 := Lib.hid (R3.out.below hb4)
    have B4 := Lib.hid (bel_then B3.out hb4); clear r4 hb4
    go_wp2_with fail
    refine (HT.out w4 A2 c2 X4.out).mono ?_; rintro e w5 ⟨A5, c5, rfl, i5, hb5⟩
    have e1 := HC.out w5 A2 c2 (X4.out.below hb5)
    have e2 := HC.out w5 A4 c4 (R4.out.below hb5)
    have B5 := Lib.hid (bel_then B4.out hb5); clear i5 hb5
    clear HL HT HC HP HP2 R
    go_wp2
    go_ret
    exact ⟨ret_bool (by simp; omega), B5.out⟩
  · have hc : (padR l).length = 0 ∨ 4096 < (padR l).length := by omega
    clear hp HS
    rcases hc with hp | hp
    · have h0' : (((padR l).length : Int) == 0) = true := by rw [beq_iff_eq]; omega
      generalize padR l = P at *
      generalize P.length = p at *
      go_enter Try.func7, Try.ntmps7
      go_wp2_with fail
      refine (awake_any _).mono ?_; rintro e w1 ⟨rfl, hb1⟩
      have B1 := Lib.hid hb1; clear hb1
      go_wp2_with fail
      refine (HP.out w1 B1.out).mono ?_; rintro e w2 ⟨A2, c2, rfl, r2, hb2⟩
      have B2 := Lib.hid (bel_then B1.out hb2); clear r2 hb2
      go_wp2_with fail
      go_ret
      exact ⟨rfl, B2.out⟩
    · have h0' : (((padR l).length : Int) == 0) = false := by rw [beq_eq_false_iff_ne]; omega
      generalize padR l = P at *
      generalize P.length = p at *
      go_enter Try.func7, Try.ntmps7
      go_wp2_with fail
      refine (awake_any _).mono ?_; rintro e w1 ⟨rfl, hb1⟩
      have B1 := Lib.hid hb1; clear hb1
      go_wp2_with fail
      refine (HP.out w1 B1.out).mono ?_; rintro e w2 ⟨A2, c2, rfl, r2, hb2⟩
      have B2 := Lib.hid (bel_then B1.out hb2); clear r2 hb2
      go_wp2_with fail
      go_ret
      exact ⟨rfl, B2.out⟩
theorem twice_long (A : Option Addr) (cap n : Nat) (h : 300 < n) (hm : n ≤ maxLen) (w : World) :
    Calls Try.prog 7 #[.slice A n cap] w fun e w' => e = .returned (.bool true) ∧ Below w.heap.size w w' := by
  unfold maxLen at hm
  go_enter Try.func7, Try.ntmps7
  go_wp2_with fail
  refine (awake_any _).mono ?_; rintro e w1 ⟨rfl, hb1⟩
  have B1 := Lib.hid hb1; clear hb1
  go_wp2_with fail
  refine (awake_any _).mono ?_; rintro e w2 ⟨rfl, hb2⟩
  have B2 := Lib.hid (bel_then B1.out hb2); clear hb2
  go_wp2_with fail
  go_ret
  exact ⟨rfl, B2.out⟩
theorem scanTwice_walk (A : Option Addr) (n cap : Nat) (w : World) (h : ∃ l : List InsV, n = l.length ∧ InsRow w A cap l) :
    Calls Try.prog 7 #[.slice A n cap] w fun e w' => e = .returned (.bool true) ∧ Below w.heap.size w w' := by
  obtain ⟨l, hn, r⟩ := h
  rcases Nat.lt_or_ge 300 n with h | h
  · exact twice_long A cap n h (by have := r.1; have := r.2.1; omega) w
  · exact twice_few A cap n l hn.symm h w r
end Go.Proofs.Ytcfdebamokcjkaa.Mm
