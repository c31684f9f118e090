/- The statement GoalStarts, walked. -/
import Derived.Test.YthjllbagmbknbaaGoalMay
import Derived.Test.YthjllbagmbknbaaGoalTurns
import Derived.Test.YthjllbagmbknbaaGoalRef
namespace Go.Proofs.Ythjllbagmbknbaa.Mm
open Go.ChangeShapes Go.WideShapes Go.ChangeAt Go.RowKit
set_option linter.unusedVariables false

theorem starts_long (A : Option Addr) (cap n : Nat) (h : 1000 < n) (hm : n ≤ maxLen) (w : World) :
    Calls Try.prog 4 #[.slice A n cap] w fun e w' => e = .returned (.bool true) ∧ Below w.heap.size w w' := by
  unfold maxLen at hm
  go_enter Try.func4, Try.ntmps4
  go_wp2_with fail
  refine (awake_any _).mono ?_; rintro e w1 ⟨rfl, hb1⟩
  have B1 := Lib.hid hb1; clear hb1
  go_wp2_with fail
  refine (awake_any _).mono ?_; rintro e w2 ⟨rfl, hb2⟩
  have B2 := Lib.hid (bel_then B1.out hb2); clear hb2
  go_wp2_with fail
  go_ret
  exact ⟨rfl, B2.out⟩
theorem starts_bad (A : Option Addr) (cap n : Nat) (code : List Int) (hn : code.length = n) (h : n ≤ 1000) (hE : mayE code ≠ 0) (w : World) (r : RowAt w A cap code) :
    Calls Try.prog 4 #[.slice A n cap] w fun e w' => e = .returned (.bool true) ∧ Below w.heap.size w w' := by
  have C3 := Lib.hid (fun w' (k : Below w.heap.size w w') => May_any A cap n code hn w' (r.below k))
  have hq : (mayE code != 0) = true := by rw [bne_iff_ne]; exact hE
  clear r hn hE
  generalize mayE code = me at *
  go_enter Try.func4, Try.ntmps4
  go_wp2_with fail
  refine (awake_any _).mono ?_; rintro e w1 ⟨rfl, hb1⟩
  have B1 := Lib.hid hb1; clear hb1
  go_wp2_with fail
  refine (C3.out w1 B1.out).mono ?_; rintro e w2 ⟨rfl, hb2⟩
  have B2 := Lib.hid (bel_then B1.out hb2); clear hb2
  go_wp2_with fail
  refine (awake_any _).mono ?_; rintro e w3 ⟨rfl, hb3⟩
  have B3 := Lib.hid (bel_then B2.out hb3); clear hb3
  go_wp2_with fail
  go_ret
  exact ⟨rfl, B3.out⟩

set_option maxRecDepth 10000 in
set_option maxHeartbeats 4000000 in
theorem starts_ok (A : Option Addr) (cap n : Nat) (code : List Int) (hn : code.length = n) (h : n ≤ 1000) (hE : mayE code = 0) (w : World) (r : RowAt w A cap code) :
    Calls Try.prog 4 #[.slice A n cap] w fun e w' => e = .returned (.bool true) ∧ Below w.heap.size w w' := by
  have hb := r.2.2.1
  obtain ⟨hR, hM, hG⟩ := may_0 hE
  obtain ⟨hs, _, _⟩ := rule_scan hR
  have C1 := Lib.hid (fun w' (k : Below w.heap.size w w') => Goals_any A cap n code hn w' (r.below k))
  have C3 := Lib.hid (fun w' (k : Below w.heap.size w w') => May_any A cap n code hn w' (r.below k))
  have C4 := Lib.hid (fun w' (k : Below w.heap.size w w') => Starts_any A cap n code hn w' (r.below k))
  have C5 := Lib.hid (fun w' (k : Below w.heap.size w w') => Listing_any A cap n code hn w' (r.below k))
  unfold GoalsP at C1
  unfold StartsP at C4
  unfold ListP at C5
  rw [hG, hR] at C1
  rw [hs] at C4 C5
  rw [hE] at C3
  have hz := scanL_len hb
  have PL := Lib.hid (posI_len (scanL code))
  have IL := Lib.hid (insI_len (scanL code))
  have MP := Lib.hid (fun i hi => @may_pos (scanL code) hM i hi)
  have hyz := goal_len (scanL code)
  clear r hn hE hb hs hR hM hG
  generalize scanL code = L at *
  generalize hyy : (goalL L).length = yl at C1 MP hyz
  have HY := Lib.hid hyy
  clear hyy
  generalize hzz : L.length = z at *
  have HZ := Lib.hid hzz
  clear hzz
  go_enter Try.func4, Try.ntmps4
  go_wp2_with fail
  refine (awake_any _).mono ?_; rintro e w1 ⟨rfl, hb1⟩
  have B1 := Lib.hid hb1; clear hb1
  go_wp2_with fail
  refine (C3.out w1 B1.out).mono ?_; rintro e w2 ⟨rfl, hb2⟩
  have B2 := Lib.hid (bel_then B1.out hb2); clear hb2 C3
  go_wp2_with fail
  refine (C1.out w2 B2.out).mono ?_; rintro e w3 ⟨A2, c2, rfl, i2, hb3⟩
  have B3 := Lib.hid (bel_then B2.out hb3)
  have I2 := Lib.hid i2
  clear hb3 i2 C1
  go_wp2_with fail
  refine (C4.out w3 B3.out).mono ?_; rintro e w4 ⟨A4, c4, rfl, i4, hb4⟩
  have B4 := Lib.hid (bel_then B3.out hb4)
  have I3 := Lib.hid (I2.out.below hb4)
  have I4 := Lib.hid i4
  clear hb4 i4 I2 C4
  go_wp2_with fail
  refine (C5.out w4 B4.out).mono ?_; rintro e w5 ⟨A5, c5, rfl, i5, hb5⟩
  have B5 := Lib.hid (bel_then B4.out hb5)
  have J2 := Lib.hid (I3.out.below hb5)
  have J4 := Lib.hid (I4.out.below hb5)
  have J5 := Lib.hid i5
  clear hb5 i5 I3 I4 C5
  go_wp2
  go_loopw [9, 10] (fun v i wr => ∃ (k m : Nat), i = .int .i64 k ∧ k ≤ z ∧ v = .int .i64 m ∧ m ≤ k ∧ Hid (m = (goalL (L.take k)).length) ∧ Hid (Below w5.heap.size w5 wr)) (fun _ i _ => z - (intOf i).toNat)
  case atStart => exact ⟨0, 0, rfl, Nat.zero_le _, rfl, Nat.zero_le _, Lib.hid rfl, Lib.hid (Below.refl _ _)⟩
  case round =>
    obtain ⟨k, m, rfl, hk, rfl, hm, HM, HB⟩ := hrel
    by_cases hlt : k < z
    · have hkL : k < L.length := by rw [HZ.out]; exact hlt
      obtain ⟨y, rfl, hyb, hd⟩ := (J5.out.below HB.out).2.2.2 (by intro e; have := IL.out; rw [e] at this; simp at this; omega)
      have PX := Lib.hid (hd k (by rw [IL.out]; exact hlt))
      rw [ins_at hkL] at PX
      have GY := Lib.hid (fun h => @goal_yes L k hkL h)
      have GN := Lib.hid (fun h => @goal_no L k hkL h)
      have HW := jmp_ways (L.getD k dfl).2
      clear hd
      generalize goalV (L.getD k dfl) = G at *
      generalize (L.getD k dfl).2 = u at *
      generalize goalL (L.take k) = F at *
      obtain ⟨p0, p1, p2, p3⟩ := PX.out
      rcases HW with ⟨h1, hj⟩ | ⟨h1, h2, hj⟩ | ⟨h1, h2, hj⟩
      · have HF := Lib.hid (GY.out hj)
        clear GY GN hj
        go_wp2
        go_roundw
        case rel => exact ⟨k + 1, m + 1, by go_num, by omega, by go_num, by omega, Lib.hid (by rw [HF.out, List.length_append, ← HM.out]; rfl), HB⟩
        case measure => simp [intOf]; omega
      · have HF := Lib.hid (GY.out hj)
        clear GY GN hj
        go_wp2
        go_roundw
        case rel => exact ⟨k + 1, m + 1, by go_num, by omega, by go_num, by omega, Lib.hid (by rw [HF.out, List.length_append, ← HM.out]; rfl), HB⟩
        case measure => simp [intOf]; omega
      · have HF := Lib.hid (GN.out hj)
        clear GY GN hj
        go_wp2
        go_roundw
        case rel => exact ⟨k + 1, m, by go_num, by omega, rfl, by omega, Lib.hid (by rw [HF.out]; exact HM.out), HB⟩
        case measure => simp [intOf]; omega
    · obtain rfl : k = z := by omega
      have hmy : m = yl := by rw [HM.out, ← HZ.out, goal_all]; exact HY.out
      subst hmy
      clear HM
      go_wp2
      go_loopw [11] (fun i wq => ∃ (j : Nat), i = .int .i64 j ∧ j ≤ m ∧ Hid (Below w5.heap.size w5 wq)) (fun i _ => m - (intOf i).toNat)
      case atStart => exact ⟨0, rfl, Nat.zero_le _, HB⟩
      case round =>
        obtain ⟨j, rfl, hj, HB2⟩ := hrel
        by_cases hjl : j < m
        · obtain ⟨a, rfl, hab, hc⟩ := J2.out.2.2 (by intro e; have := HY.out; rw [e] at this; simp at this; omega)
          have e1 := Lib.hid (hc j (by rw [HY.out]; exact hjl))
          have HMP := Lib.hid (MP.out j hjl)
          clear hc
          generalize (goalL L).getD j 0 = G at *
          go_wp2
          go_loopw [12, 13] (fun f i ws => ∃ (t : Nat) (b : Bool), i = .int .i64 t ∧ t ≤ k ∧ f = .bool b ∧ Hid (b = anyE (posI L) t G) ∧ Hid (Below w5.heap.size w5 ws)) (fun _ i _ => k - (intOf i).toNat)
          case atStart => exact ⟨0, false, rfl, Nat.zero_le _, rfl, Lib.hid (anyE_0 _ _).symm, HB2⟩
          case round =>
            obtain ⟨t, b, rfl, ht, rfl, HF, HB3⟩ := hrel
            rename World => ws
            by_cases htl : t < k
            · obtain ⟨x, rfl, hxb, hc⟩ := J4.out.2.2 (by intro e; have := PL.out; rw [e] at this; simp at this; omega)
              have e2 := (HB3.out.cell (by rw [block_add]; exact hxb)).trans (hc t (by rw [PL.out]; exact htl))
              have e3 := (HB3.out.cell (by rw [block_add]; exact hab)).trans e1.out
              have HS := Lib.hid (anyE_step (A := posI L) G (by rw [PL.out]; exact htl : t < (posI L).length))
              rw [← HF.out] at HS
              clear hc
              generalize (posI L).getD t 0 = P at *
              cases b
              · cases hq : (P == G)
                · rw [hq] at HS
                  go_wp2_with fail
                  go_quiet (fail)
                  go_wp2
                  go_roundw
                  case rel => exact ⟨t + 1, _, by go_num, by omega, rfl, Lib.hid (by rw [HS.out]; rfl), Lib.hid (below_drewN HB3.out _)⟩
                  case measure => simp [intOf]; omega
                · rw [hq] at HS
                  go_wp2_with fail
                  go_quiet (fail)
                  go_wp2
                  go_roundw
                  case rel => exact ⟨t + 1, _, by go_num, by omega, rfl, Lib.hid (by rw [HS.out]; rfl), Lib.hid (below_drewN HB3.out _)⟩
                  case measure => simp [intOf]; omega
              · go_wp2_with fail
                go_quiet (fail)
                go_wp2
                go_roundw
                case rel => exact ⟨t + 1, _, by go_num, by omega, rfl, Lib.hid (by rw [HS.out]; rfl), Lib.hid (below_drewN HB3.out _)⟩
                case measure => simp [intOf]; omega
            · obtain rfl : t = k := by omega
              have hbt : b = true := by rw [HF.out]; exact HMP.out
              subst hbt
              clear HF
              go_wp2
              go_roundw
              case rel => exact ⟨j + 1, by go_num, by omega, HB3⟩
              case measure => simp [intOf]; omega
        · obtain rfl : j = m := by omega
          go_wp2
          go_ret
          exact ⟨rfl, bel_then B5.out HB2.out⟩

theorem goalStarts_walk (A : Option Addr) (cap : Nat) (code : List Int) (w : World) (r : RowAt w A cap code) :
    Calls Try.prog 4 #[.slice A code.length cap] w fun e w' => e = .returned (.bool true) ∧ Below w.heap.size w w' := by
  rcases Nat.lt_or_ge 1000 code.length with h | h
  · exact starts_long A cap _ h (by have := r.1; have := r.2.1; omega) w
  · by_cases hE : mayE code = 0
    · exact starts_ok A cap _ code rfl h hE w r
    · exact starts_bad A cap _ code rfl h hE w r
end Go.Proofs.Ythjllbagmbknbaa.Mm
