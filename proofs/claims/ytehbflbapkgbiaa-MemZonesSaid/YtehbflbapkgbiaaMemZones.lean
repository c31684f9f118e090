/- The statement MemZones, walked. -/
import Derived.Test.YtehbflbapkgbiaaMemBack
namespace Go.Proofs.Ytehbflbapkgbiaa.Mm
open Go.ChangeShapes Go.WideShapes Go.ChangeAt Go.RowKit
set_option linter.unusedVariables false

theorem zones_long (z c : Int) (is : Bool) (A : Option Addr) (cap : Nat) (l : List Int) (hl : l.length ≤ maxLen) (h : 512 < l.length) (w : World) :
    Calls Try.prog 5 #[.slice A l.length cap, .int .u8 z, .int .u8 c, .bool is] w fun e w' => e = .returned (.bool true) ∧ Below w.heap.size w w' := by
  unfold maxLen at hl
  go_enter Try.func5, Try.ntmps5
  go_wp2_with fail
  refine (awake_any _).mono ?_; rintro e w1 ⟨rfl, hb1⟩
  go_wp2_with fail
  refine (awake_any _).mono ?_; rintro e w2 ⟨rfl, hb2⟩
  go_wp2_with fail
  go_ret
  exact ⟨rfl, bel_then hb1 hb2⟩

/-- so many zones have been looked at -/
def ZonRel (w : World) (p g h r1 : Nat) (B1 B2 : List Int) (T : List Bool) (i : Value) (w' : World) : Prop := ∃ j : Nat, j ≤ 8 ∧ i = .int .i64 j ∧ MSt w p g h B2 T w' ∧ HasB w' r1 5 (B1.map (Value.int .u8))
/-- so many bytes have been looked at -/
def InRel (n : Nat) (w7 : World) (i : Value) (w' : World) : Prop := ∃ j : Nat, j ≤ n ∧ i = .int .i64 j ∧ Sm w7 w'

theorem zone_whole (T : List Bool) (i : Nat) (h : i < T.length) : wholeB T ((64 * i : Nat) : Int) 64 = T.getD i false := by
  rw [Bool.eq_iff_iff]
  unfold wholeB
  rw [Bool.and_eq_true, liesB_iff, thr_iff]
  constructor
  · rintro ⟨_, h2⟩
    have := h2 0 (by decide)
    rwa [show ((((64 * i : Nat) : Int)).toNat + 0) / 64 = i by omega] at this
  · intro h1
    refine ⟨by omega, fun j hj => ?_⟩
    rw [show ((((64 * i : Nat) : Int)).toNat + j) / 64 = i by omega]
    exact h1

set_option maxRecDepth 100000 in
theorem zones_n (z c f n m : Nat) (is : Bool) (z1 : z ≤ 255) (c1 : c ≤ 255) (hf : (z : Int) % 8 = f) (hm : (c : Int) % (9 - (f : Int)) = m) (hf7 : f ≤ 7) (hfm : f + m ≤ 8) (A : Option Addr) (cap : Nat) (l : List Int) (hn : l.length = n) (h : n ≤ 512) (w : World) (hr : RowAt w A cap l) :
    Calls Try.prog 5 #[.slice A n cap, .int .u8 z, .int .u8 c, .bool is] w fun e w' => e = .returned (.bool true) ∧ Below w.heap.size w w' := by
  have HR := Lib.hid hr
  have HN := Lib.hid hn
  clear hr hn
  have hd : decide (512 < (n : Int)) = false := by rw [decide_eq_false_iff_not]; omega
  have hw1 : IntKind.i64.wrap (9 - (f : Int)) = 9 - (f : Int) := IntWalk.i64_in _ (by omega)
  go_enter Try.func5, Try.ntmps5
  go_wp2_with fail
  refine (awake_any _).mono ?_; rintro e w1 ⟨rfl, hb1⟩
  have HB := Lib.hid hb1; clear hb1
  go_wp2_with fail
  refine (new_m w 512 8 (by decide) (by decide) (by decide) HB.out).mono ?_; rintro e w2 ⟨p, g, h, rfl, s, _⟩
  have S := Lib.hid s; clear s HB
  go_wp2_with fail
  refine (set_m S.out 512 (by decide)).mono ?_; rintro e w3 ⟨rfl, s, _⟩
  have S := Lib.hid s; clear s
  go_wp2_with fail
  have hw := write_m S.out 0 A cap l (HR.out.below S.out.bel) (whole_full _ _ _ (by omega) (by omega) (by have := HN.out; omega))
  rw [HN.out] at hw
  refine hw.mono ?_; rintro e w4 ⟨rfl, s, _⟩
  have S := Lib.hid s; clear s hw
  have e1 : (splice (List.replicate (64 * 8) (0 : Int)) (0 : Int).toNat l).length = 512 := by rw [splice_len _ _ _ (by rw [HN.out, List.length_replicate]; show 0 + n ≤ _; omega), List.length_replicate]
  generalize splice (List.replicate (64 * 8) (0 : Int)) (0 : Int).toNat l = B1 at S e1
  have E1 := Lib.hid e1
  clear e1
  go_wp2_with fail
  refine (read_i S.out.at_ 0 512 (whole_full _ _ _ (by decide) (by decide) (by decide))).mono ?_; rintro e w5 ⟨rfl, hr, hb⟩
  have hlt4 : g < w4.heap.size := S.out.at_.bytes.lt
  have hlt4h : h < w4.heap.size := S.out.at_.zones.lt
  have S := Lib.hid (S.out.below hb)
  have R1 : HasB w5 w4.heap.size 5 (B1.map (Value.int .u8)) := by
    have : (B1.drop (0 : Int).toNat).take (512 : Int).toNat = B1 := by rw [show (0 : Int).toNat = 0 from rfl, List.drop_zero, List.take_of_length_le (by rw [E1.out]; decide)]
    rw [this] at hr
    exact hr
  have R1 := Lib.hid R1
  clear hr hb
  generalize w4.heap.size = r1 at *
  go_wp2_with fail
  have hsB : setB B1.length (64 * (f : Int)) (64 * (m : Int)) = true := by rw [setB_iff, E1.out]; omega
  refine (set_any S.out.at_ (64 * (f : Int)) (64 * (m : Int)) is hsB).mono ?_; rintro e w6 ⟨rfl, s, c⟩
  rw [show (64 * (f : Int)).toNat = 64 * f by omega, show (64 * (m : Int)).toNat = 64 * m by omega, show (64 * (f : Int) / 64).toNat = f by omega, show (64 * (m : Int) / 64).toNat = m by omega] at s
  have R1 := Lib.hid (R1.out.chg c (by omega) (by omega))
  have S := Lib.hid (S.out.chg s c)
  clear s c hsB
  have e1 : (splice B1 (64 * f) (List.replicate (64 * m) 0)).length = 512 := by rw [splice_len _ _ _ (by rw [List.length_replicate, E1.out]; omega), E1.out]
  have e2 : (splice (List.replicate 8 true) f (List.replicate m is)).length = 8 := by rw [splice_len _ _ _ (by simp; omega)]; rfl
  have e3 : ∀ i, i < 8 → (f ≤ i ∧ i < f + m) → (splice (List.replicate 8 true) f (List.replicate m is)).getD i false = is := fun i hi hq => by
    rw [splice_getD _ _ _ _ (by simp; omega), if_pos (by simpa using hq), rep_getD _ _ _ _ (by omega)]
  have e4 : ∀ i, i < 8 → ¬ (f ≤ i ∧ i < f + m) → (splice (List.replicate 8 true) f (List.replicate m is)).getD i false = true := fun i hi hq => by
    rw [splice_getD _ _ _ _ (by simp; omega), if_neg (by simpa using hq), rep_getD _ _ _ _ (by omega)]
  have e5 : ∀ i j, i < 8 → j < 64 → (f ≤ i ∧ i < f + m) → (splice B1 (64 * f) (List.replicate (64 * m) 0)).getD (64 * i + j) 0 = 0 := fun i j hi hj hq => by
    rw [splice_getD _ _ _ _ (by rw [List.length_replicate, E1.out]; omega), if_pos (by rw [List.length_replicate]; omega), rep_getD _ _ _ _ (by omega)]
  have e6 : ∀ i j, i < 8 → j < 64 → ¬ (f ≤ i ∧ i < f + m) → (splice B1 (64 * f) (List.replicate (64 * m) 0)).getD (64 * i + j) 0 = B1.getD (64 * i + j) 0 := fun i j hi hj hq => by
    rw [splice_getD _ _ _ _ (by rw [List.length_replicate, E1.out]; omega), if_neg (by rw [List.length_replicate]; omega)]
  generalize splice B1 (64 * f) (List.replicate (64 * m) 0) = B2 at S e1 e5 e6
  generalize splice (List.replicate 8 true) f (List.replicate m is) = T2 at S e2 e3 e4
  have F1 := Lib.hid e1
  have F2 := Lib.hid e2
  have F3 := Lib.hid e3
  have F4 := Lib.hid e4
  have F5 := Lib.hid e5
  have F6 := Lib.hid e6
  clear e1 e2 e3 e4 e5 e6
  go_wp2_with fail
  (try rw [hf]); (try rw [hm])
  clear hf hm hd hw1
  go_loopw [15] (fun i w' => ZonRel w p g h r1 B1 B2 T2 i w') (fun i _ => 8 - (intOf i).toNat)
  case atStart => exact ⟨0, Nat.zero_le _, rfl, S.out, R1.out⟩
  case round =>
    obtain ⟨i, hi, rfl, hs, hr⟩ := hrel
    have HS := Lib.hid hs; clear hs S
    have HR1 := Lib.hid hr; clear hr R1
    by_cases hlt : i < 8
    · by_cases hin : f ≤ i ∧ i < f + m
      · cases is
        · have hw : wholeB T2 ((64 * i : Nat) : Int) 64 = false := by rw [zone_whole _ _ (by rw [F2.out]; exact hlt), F3.out i hlt hin]
          have C := read_no HS.out.at_ ((64 * i : Nat) : Int) 64 (by omega) hw
          rw [show ((64 * i : Nat) : Int) = 64 * (i : Int) by omega] at C
          have C := Lib.hid C
          clear hw
          obtain ⟨h1, h2⟩ := hin
          have d1 : decide ((f : Int) ≤ (i : Int)) = true := by rw [decide_eq_true_iff]; omega
          have d2 : decide ((i : Int) < (f : Int) + (m : Int)) = true := by rw [decide_eq_true_iff]; omega
          go_wp2_with fail
          refine C.out.mono ?_; rintro e w' ⟨rfl, rfl⟩
          go_wp2_with fail
          go_loop [19] (fun k => k = .int .i64 0) (fun _ => 0)
          case atStart => rfl
          case round =>
            subst hrel
            go_wp2
            go_roundw
            case rel => exact ⟨i + 1, hlt, by go_num, HS.out, HR1.out⟩
            case measure => simp [intOf]; omega
        · have hw : wholeB T2 ((64 * i : Nat) : Int) 64 = true := by rw [zone_whole _ _ (by rw [F2.out]; exact hlt), F3.out i hlt hin]
          have C := read_i HS.out.at_ ((64 * i : Nat) : Int) 64 hw
          rw [show ((64 * i : Nat) : Int) = 64 * (i : Int) by omega] at C
          have C := Lib.hid C
          clear hw
          have HIN := Lib.hid hin
          obtain ⟨h1, h2⟩ := hin
          have d1 : decide ((f : Int) ≤ (i : Int)) = true := by rw [decide_eq_true_iff]; omega
          have d2 : decide ((i : Int) < (f : Int) + (m : Int)) = true := by rw [decide_eq_true_iff]; omega
          go_wp2_with fail
          refine C.out.mono ?_; rintro e w7 ⟨rfl, hx, hb⟩
          have HS7 := Lib.hid (HS.out.below hb)
          have HR7 := Lib.hid (HR1.out.below hb)
          have HX := Lib.hid hx
          clear hx hb C HS HR1
          generalize wr.heap.size = r at *
          rw [show (64 * (i : Int)).toNat = 64 * i by omega] at HX
          go_wp2_with fail
          clear d1 d2
          go_loopw [19] (fun k w' => InRel 64 w7 k w') (fun k _ => 64 - (intOf k).toNat)
          case atStart => exact ⟨0, Nat.zero_le _, rfl, Sm.refl _⟩
          case round =>
            obtain ⟨j, hj, rfl, hsm⟩ := hrel
            have SM := Lib.hid hsm; clear hsm
            by_cases hjl : j < 64
            · have c1 := part_cell (SM.out.has HX.out) j hjl (by rw [F1.out]; omega)
              rw [F5.out i j hlt hjl HIN.out] at c1
              go_wp2_with fail
              go_quiet (fail)
              go_wp2
              go_roundw
              case rel => exact ⟨j + 1, hjl, by go_num, SM.out.drewN _⟩
              case measure => simp [intOf]; omega
            · have hj6 : j = 64 := by omega
              subst hj6
              go_wp2
              go_roundw
              case rel => exact ⟨i + 1, hlt, by go_num, HS7.out.below SM.out.bel, SM.out.has HR7.out⟩
              case measure => simp [intOf]; omega
      · have hw : wholeB T2 ((64 * i : Nat) : Int) 64 = true := by rw [zone_whole _ _ (by rw [F2.out]; exact hlt), F4.out i hlt hin]
        have C := read_i HS.out.at_ ((64 * i : Nat) : Int) 64 hw
        rw [show ((64 * i : Nat) : Int) = 64 * (i : Int) by omega] at C
        have C := Lib.hid C
        clear hw
        have HIN := Lib.hid hin
        by_cases hfi : f ≤ i
        · have d1 : decide ((f : Int) ≤ (i : Int)) = true := by rw [decide_eq_true_iff]; omega
          have d2 : decide ((i : Int) < (f : Int) + (m : Int)) = false := by rw [decide_eq_false_iff_not]; omega
          clear hin
          go_wp2_with fail
          refine C.out.mono ?_; rintro e w7 ⟨rfl, hx, hb⟩
          have HS7 := Lib.hid (HS.out.below hb)
          have HR7 := Lib.hid (HR1.out.below hb)
          have HX := Lib.hid hx
          clear hx hb C HS HR1
          generalize wr.heap.size = r at *
          rw [show (64 * (i : Int)).toNat = 64 * i by omega] at HX
          go_wp2_with fail
          clear d1 d2
          go_loopw [19] (fun k w' => InRel 64 w7 k w') (fun k _ => 64 - (intOf k).toNat)
          case atStart => exact ⟨0, Nat.zero_le _, rfl, Sm.refl _⟩
          case round =>
            obtain ⟨j, hj, rfl, hsm⟩ := hrel
            have SM := Lib.hid hsm; clear hsm
            by_cases hjl : j < 64
            · have c1 := part_cell (SM.out.has HX.out) j hjl (by rw [F1.out]; omega)
              rw [F6.out i j hlt hjl HIN.out] at c1
              have c2 := getD_u8 (SM.out.has HR7.out) (64 * i + j) (by rw [E1.out]; omega)
              generalize B1.getD (64 * i + j) 0 = x at c1 c2
              have d4 : IntKind.i64.wrap (64 * (i : Int)) = 64 * (i : Int) := IntWalk.i64_in _ (by omega)
              have d5 : IntKind.i64.wrap (64 * (i : Int) + (j : Int)) = 64 * (i : Int) + (j : Int) := IntWalk.i64_in _ (by omega)
              have d6 : (64 * (i : Int) + (j : Int)).toNat = 64 * i + j := by omega
              have d7 : 0 ≤ 64 * (i : Int) + (j : Int) := by omega
              have d8 : 64 * (i : Int) + (j : Int) < 512 := by omega
              go_wp2_with fail
              go_quiet (fail)
              go_wp2
              go_roundw
              case rel => exact ⟨j + 1, hjl, by go_num, SM.out.drewN _⟩
              case measure => simp [intOf]; omega
            · have hj6 : j = 64 := by omega
              subst hj6
              go_wp2
              go_roundw
              case rel => exact ⟨i + 1, hlt, by go_num, HS7.out.below SM.out.bel, SM.out.has HR7.out⟩
              case measure => simp [intOf]; omega
        · have d1 : decide ((f : Int) ≤ (i : Int)) = false := by rw [decide_eq_false_iff_not]; omega
          clear hin
          go_wp2_with fail
          refine C.out.mono ?_; rintro e w7 ⟨rfl, hx, hb⟩
          have HS7 := Lib.hid (HS.out.below hb)
          have HR7 := Lib.hid (HR1.out.below hb)
          have HX := Lib.hid hx
          clear hx hb C HS HR1
          generalize wr.heap.size = r at *
          rw [show (64 * (i : Int)).toNat = 64 * i by omega] at HX
          go_wp2_with fail
          clear d1
          go_loopw [19] (fun k w' => InRel 64 w7 k w') (fun k _ => 64 - (intOf k).toNat)
          case atStart => exact ⟨0, Nat.zero_le _, rfl, Sm.refl _⟩
          case round =>
            obtain ⟨j, hj, rfl, hsm⟩ := hrel
            have SM := Lib.hid hsm; clear hsm
            by_cases hjl : j < 64
            · have c1 := part_cell (SM.out.has HX.out) j hjl (by rw [F1.out]; omega)
              rw [F6.out i j hlt hjl HIN.out] at c1
              have c2 := getD_u8 (SM.out.has HR7.out) (64 * i + j) (by rw [E1.out]; omega)
              generalize B1.getD (64 * i + j) 0 = x at c1 c2
              have d4 : IntKind.i64.wrap (64 * (i : Int)) = 64 * (i : Int) := IntWalk.i64_in _ (by omega)
              have d5 : IntKind.i64.wrap (64 * (i : Int) + (j : Int)) = 64 * (i : Int) + (j : Int) := IntWalk.i64_in _ (by omega)
              have d6 : (64 * (i : Int) + (j : Int)).toNat = 64 * i + j := by omega
              have d7 : 0 ≤ 64 * (i : Int) + (j : Int) := by omega
              have d8 : 64 * (i : Int) + (j : Int) < 512 := by omega
              go_wp2_with fail
              go_quiet (fail)
              go_wp2
              go_roundw
              case rel => exact ⟨j + 1, hjl, by go_num, SM.out.drewN _⟩
              case measure => simp [intOf]; omega
            · have hj6 : j = 64 := by omega
              subst hj6
              go_wp2
              go_roundw
              case rel => exact ⟨i + 1, hlt, by go_num, HS7.out.below SM.out.bel, SM.out.has HR7.out⟩
              case measure => simp [intOf]; omega
    · have hi8 : i = 8 := by omega
      subst hi8
      go_wp2
      go_ret
      exact ⟨rfl, HS.out.bel⟩

theorem memZones_walk (A : Option Addr) (cap : Nat) (l : List Int) (z c : Int) (is : Bool) (w : World) (hr : RowAt w A cap l) (wz : (Lit.int .u8 z).wf = true) (wc : (Lit.int .u8 c).wf = true) :
    Calls Try.prog 5 #[.slice A l.length cap, .int .u8 z, .int .u8 c, .bool is] w fun e w' => e = .returned (.bool true) ∧ Below w.heap.size w w' := by
  obtain ⟨a0, a1⟩ := u8_bd wz
  obtain ⟨k0, k1⟩ := u8_bd wc
  by_cases h : 512 < l.length
  · exact zones_long z c is A cap l (Nat.le_trans hr.1 hr.2.1) h w
  · obtain ⟨x, rfl⟩ : ∃ x : Nat, z = x := ⟨z.toNat, by omega⟩
    obtain ⟨y, rfl⟩ : ∃ x : Nat, c = x := ⟨c.toNat, by omega⟩
    have h9 : 0 < 9 - x % 8 := by omega
    have hm : (y : Int) % (9 - ((x % 8 : Nat) : Int)) = ((y % (9 - x % 8) : Nat) : Int) := by
      rw [show (9 : Int) - ((x % 8 : Nat) : Int) = ((9 - x % 8 : Nat) : Int) by omega, Int.natCast_emod]
    exact zones_n x y (x % 8) l.length (y % (9 - x % 8)) is (by omega) (by omega) (by omega) hm (by omega) (by have := Nat.mod_lt y h9; omega) A cap l rfl (by omega) w hr
end Go.Proofs.Ytehbflbapkgbiaa.Mm
