/- The statement MemBack, walked. -/
import Derived.Test.YtehbflbapkgbiaaMemApart
namespace Go.Proofs.Ytehbflbapkgbiaa.Mm
open Go.ChangeShapes Go.WideShapes Go.ChangeAt Go.RowKit
set_option linter.unusedVariables false

/-- the same world, but for draws -/
structure Sm (w w' : World) : Prop where
  heap : w'.heap = w.heap
  os : w'.os = w.os
  tape : w'.tape = w.tape
  output : w'.output = w.output
theorem Sm.refl (w : World) : Sm w w := ⟨rfl, rfl, rfl, rfl⟩
theorem Sm.drewN {w w' : World} (h : Sm w w') (n : Nat) : Sm w (w'.drewN n) := ⟨h.heap, h.os, h.tape, h.output⟩
theorem Sm.drew {w w' : World} (h : Sm w w') : Sm w w'.drew := ⟨h.heap, h.os, h.tape, h.output⟩
theorem Sm.below {B : Nat} {w0 w w' : World} (h : Sm w w') (b : Below B w0 w) : Below B w0 w' := ⟨h.os.trans b.os, h.tape.trans b.tape, h.output.trans b.output, by rw [h.heap]; exact b.size, fun k hk => by rw [h.heap]; exact b.block k hk⟩
theorem Sm.bel {w w' : World} (h : Sm w w') : Below w.heap.size w w' := h.below (Below.refl _ _)
theorem Sm.has {w w' : World} {g : Nat} {t : TypeId} {cs : List Value} (h : Sm w w') (b : HasB w g t cs) : HasB w' g t cs := b.same (by rw [h.heap])
theorem Sm.cell {w w' : World} (h : Sm w w') (a : Addr) : w'.cell? a = w.cell? a := by unfold World.cell?; rw [h.heap]
theorem Sm.row {w w' : World} {A : Option Addr} {cap : Nat} {l : List Int} (h : Sm w w') (r : RowAt w A cap l) : RowAt w' A cap l := r.below h.bel

theorem getD_u8 {w : World} {g : Nat} {B : List Int} (hb : HasB w g 5 (B.map (Value.int .u8))) (i : Nat) (hi : i < B.length) : w.cell? ⟨g, i, none⟩ = some (.int .u8 (B.getD i 0)) := by
  rw [hb.cell, List.getElem?_map, List.getElem?_eq_getElem hi, Option.map_some]
  simp [List.getD, List.getElem?_eq_getElem hi]

theorem back_long (a v k : Int) (A : Option Addr) (cap : Nat) (l : List Int) (hl : l.length ≤ maxLen) (h : 256 < l.length) (w : World) :
    Calls Try.prog 4 #[.int .u8 a, .int .u32 v, .slice A l.length cap, .int .u8 k] w fun e w' => e = .returned (.bool true) ∧ Below w.heap.size w w' := by
  unfold maxLen at hl
  go_enter Try.func4, Try.ntmps4
  go_wp2_with fail
  refine (awake_any _).mono ?_; rintro e w1 ⟨rfl, hb1⟩
  go_wp2_with fail
  refine (awake_any _).mono ?_; rintro e w2 ⟨rfl, hb2⟩
  go_wp2_with fail
  go_ret
  exact ⟨rfl, bel_then hb1 hb2⟩

/-- so many bytes have been looked at -/
def BackRel (w7 : World) (i : Value) (w' : World) : Prop := ∃ j : Nat, j ≤ 512 ∧ i = .int .i64 j ∧ Sm w7 w'
set_option maxRecDepth 100000 in
theorem back_n (a k n : Nat) (v : Int) (a1 : a ≤ 255) (k1 : k ≤ 255) (v0 : 0 ≤ v) (v1 : v < 4294967296) (A : Option Addr) (cap : Nat) (l : List Int) (hn : l.length = n) (h : n ≤ 256) (w : World) (hr : RowAt w A cap l) :
    Calls Try.prog 4 #[.int .u8 a, .int .u32 v, .slice A n cap, .int .u8 k] w fun e w' => e = .returned (.bool true) ∧ Below w.heap.size w w' := by
  have HR := Lib.hid hr
  have HN := Lib.hid hn
  clear hr hn
  have hd : decide (256 < (n : Int)) = false := by rw [decide_eq_false_iff_not]; omega
  go_enter Try.func4, Try.ntmps4
  go_wp2_with fail
  refine (awake_any _).mono ?_; rintro e w1 ⟨rfl, hb1⟩
  have HB := Lib.hid hb1; clear hb1
  go_wp2_with fail
  refine (new_m w 512 8 (by decide) (by decide) (by decide) HB.out).mono ?_; rintro e w2 ⟨p, g, h, rfl, s, _⟩
  have S := Lib.hid s; clear s HB
  go_wp2_with fail
  refine (set_m S.out 512 (by decide)).mono ?_; rintro e w3 ⟨rfl, s, _⟩
  have S := Lib.hid s; clear s
  go_wp2_with fail
  have hw := write_m S.out k A cap l (HR.out.below S.out.bel) (whole_full _ _ _ (by omega) (by omega) (by have := HN.out; omega))
  rw [HN.out, Int.toNat_natCast] at hw
  refine hw.mono ?_; rintro e w4 ⟨rfl, s, _⟩
  have S := Lib.hid s; clear s hw
  have e1 : (splice (List.replicate (64 * 8) (0 : Int)) k l).length = 512 := by rw [splice_len _ _ _ (by rw [HN.out, List.length_replicate]; omega), List.length_replicate]
  have e2 : ((splice (List.replicate (64 * 8) (0 : Int)) k l).drop k).take n = l := splice_part _ _ _ _ HN.out (by rw [List.length_replicate]; omega)
  generalize splice (List.replicate (64 * 8) (0 : Int)) k l = B1 at S e1 e2
  have E1 := Lib.hid e1
  have E2 := Lib.hid e2
  clear e1 e2
  go_wp2_with fail
  refine (read_i S.out.at_ 0 512 (whole_full _ _ _ (by decide) (by decide) (by decide))).mono ?_; rintro e w5 ⟨rfl, hr, hb⟩
  have hlt4 : g < w4.heap.size := S.out.at_.bytes.lt
  have S := Lib.hid (S.out.below hb)
  have R1 : HasB w5 w4.heap.size 5 (B1.map (Value.int .u8)) := by
    have : (B1.drop (0 : Int).toNat).take (512 : Int).toNat = B1 := by rw [show (0 : Int).toNat = 0 from rfl, List.drop_zero, List.take_of_length_le (by rw [E1.out]; decide)]
    rw [this] at hr
    exact hr
  have R1 := Lib.hid R1
  have BY1 := Lib.hid S.out.at_.byte
  clear hr hb
  generalize w4.heap.size = r1 at *
  go_wp2_with fail
  refine (put_m S.out a v (by omega) (by omega) v0 v1 (whole_full _ _ _ (by omega) (by decide) (by omega))).mono ?_; rintro e w6 ⟨rfl, s, c⟩
  have S := Lib.hid s
  have R1 := Lib.hid (R1.out.chg c (by omega) (by omega))
  clear s c
  rw [Int.toNat_natCast] at S
  have e1 : (splice B1 a (b4 v)).length = 512 := by rw [splice_len _ _ _ (by rw [b4_len, E1.out]; omega), E1.out]
  have e2 : v4 (splice B1 a (b4 v)) a = v := v4_b4 _ _ _ v0 v1 (by rw [E1.out]; omega)
  have e3 : ∀ i, i < 512 → (i < a ∨ a + 3 < i) → (splice B1 a (b4 v)).getD i 0 = B1.getD i 0 := fun i hi hq => by
    rw [splice_getD _ _ _ _ (by rw [b4_len, E1.out]; omega), if_neg (by rw [b4_len]; omega)]
  generalize splice B1 a (b4 v) = B2 at S e1 e2 e3
  have F1 := Lib.hid e1
  have F3 := Lib.hid e3
  have C2 := get_i S.out.at_ a (whole_full _ _ _ (by omega) (by decide) (by omega))
  rw [Int.toNat_natCast, e2] at C2
  have C2 := Lib.hid C2
  clear e1 e2 e3
  go_wp2_with fail
  refine C2.out.mono ?_; rintro e w' ⟨rfl, rfl⟩
  clear C2
  go_wp2_with fail
  refine (read_i S.out.at_ 0 512 (whole_full _ _ _ (by decide) (by decide) (by decide))).mono ?_; rintro e w7 ⟨rfl, hr, hb⟩
  have R1 := Lib.hid (R1.out.below hb)
  have R2 : HasB w7 w6.heap.size 5 (B2.map (Value.int .u8)) := by
    have : (B2.drop (0 : Int).toNat).take (512 : Int).toNat = B2 := by rw [show (0 : Int).toNat = 0 from rfl, List.drop_zero, List.take_of_length_le (by rw [F1.out]; decide)]
    rw [this] at hr
    exact hr
  have R2 := Lib.hid R2
  have HB := Lib.hid (S.out.below hb).bel
  clear hr hb S hlt4
  generalize w6.heap.size = r2 at *
  go_wp2_with fail
  have HR7 := Lib.hid (HR.out.below HB.out)
  clear HR hd
  go_loopw [17] (fun i w' => BackRel w7 i w') (fun i _ => 512 - (intOf i).toNat)
  case atStart => exact ⟨0, Nat.zero_le _, rfl, Sm.refl _⟩
  case round =>
    obtain ⟨j, hj, rfl, hs⟩ := hrel
    have HS := Lib.hid hs; clear hs
    by_cases hlt : j < 512
    · have c1 := getD_u8 (HS.out.has R1.out) j (by rw [E1.out]; exact hlt)
      have c2 := getD_u8 (HS.out.has R2.out) j (by rw [F1.out]; exact hlt)
      by_cases hq : j < a
      · rw [F3.out j hlt (.inl hq)] at c2
        generalize B1.getD j 0 = x at c1 c2
        have d1 : decide ((j : Int) < (a : Int)) = true := by rw [decide_eq_true_iff]; omega
        have d2 : decide (j < a) = true := by rw [decide_eq_true_iff]; omega
        go_wp2_with fail
        go_quiet (fail)
        go_wp2
        go_roundw
        case rel => exact ⟨j + 1, hlt, by go_num, HS.out.drewN _⟩
        case measure => simp [intOf]; omega
      · by_cases hq2 : a + 3 < j
        · rw [F3.out j hlt (.inr hq2)] at c2
          generalize B1.getD j 0 = x at c1 c2
          have d1 : decide ((j : Int) < (a : Int)) = false := by rw [decide_eq_false_iff_not]; omega
          have d2 : decide (j < a) = false := by rw [decide_eq_false_iff_not]; omega
          have d3 : decide ((a : Int) + 3 < (j : Int)) = true := by rw [decide_eq_true_iff]; omega
          have d4 : IntKind.i64.wrap ((a : Int) + 3) = (a : Int) + 3 := IntWalk.i64_in _ (by omega)
          go_wp2_with fail
          go_quiet (fail)
          go_wp2
          go_roundw
          case rel => exact ⟨j + 1, hlt, by go_num, HS.out.drewN _⟩
          case measure => simp [intOf]; omega
        · clear c1 c2
          have d1 : decide ((j : Int) < (a : Int)) = false := by rw [decide_eq_false_iff_not]; omega
          have d2 : decide (j < a) = false := by rw [decide_eq_false_iff_not]; omega
          have d3 : decide ((a : Int) + 3 < (j : Int)) = false := by rw [decide_eq_false_iff_not]; omega
          have d4 : IntKind.i64.wrap ((a : Int) + 3) = (a : Int) + 3 := IntWalk.i64_in _ (by omega)
          go_wp2_with fail
          go_quiet (fail)
          go_wp2
          go_roundw
          case rel => exact ⟨j + 1, hlt, by go_num, HS.out.drewN _⟩
          case measure => simp [intOf]; omega
    · have hj5 : j = 512 := by omega
      subst hj5
      have hx := HR7.out
      have v1 : ∀ m, (convert 30 9 (.slice A n cap)).run Try.prog (wr.drewN m) = .ok (.string (strOfNums l)) (wr.drewN m) := fun m => conv_row ((HS.out.drewN m).row HR7.out) n HN.out
      have v2 : ∀ m, (convert 30 9 (.slice (some ⟨r1, k, none⟩) n (512 - k))).run Try.prog (wr.drewN m) = .ok (.string (strOfNums l)) (wr.drewN m) := fun m => by
        have := row_part ((HS.out.drewN m).has R1.out) BY1.out k n (512 - k) (by rw [E1.out]; omega) (by omega) (by unfold maxLen; omega)
        rw [E2.out] at this
        exact conv_row this n HN.out
      clear hx
      generalize strOfNums l = st at v1 v2
      have d1 : IntKind.i64.wrap ((k : Int) + (n : Int)) = (k : Int) + (n : Int) := IntWalk.i64_in _ (by omega)
      have d2 : (0 : Int) ≤ (k : Int) + (n : Int) := by omega
      have d3 : ((k : Int) + (n : Int)).toNat = k + n := by omega
      have d4 : k + n ≤ 512 := by omega
      have d5 : k ≤ k + n := by omega
      have d6 : (k : Int) + (n : Int) ≤ 512 := by omega
      have d7 : k + n - k = n := by omega
      have d8 : ¬ 512 = k := by omega
      go_wp2_with fail
      go_quiet (fail)
      go_wp2
      go_ret
      exact ⟨rfl, (HS.out.drewN _).below HB.out⟩

theorem memBack_walk (a v : Int) (A : Option Addr) (cap : Nat) (l : List Int) (k : Int) (w : World) (wa : (Lit.int .u8 a).wf = true) (wv : (Lit.int .u32 v).wf = true) (hr : RowAt w A cap l) (wk : (Lit.int .u8 k).wf = true) :
    Calls Try.prog 4 #[.int .u8 a, .int .u32 v, .slice A l.length cap, .int .u8 k] w fun e w' => e = .returned (.bool true) ∧ Below w.heap.size w w' := by
  obtain ⟨a0, a1⟩ := u8_bd wa
  obtain ⟨k0, k1⟩ := u8_bd wk
  obtain ⟨v0, v1⟩ := u32_bd wv
  by_cases h : 256 < l.length
  · exact back_long a v k A cap l (Nat.le_trans hr.1 hr.2.1) h w
  · obtain ⟨x, rfl⟩ : ∃ x : Nat, a = x := ⟨a.toNat, by omega⟩
    obtain ⟨y, rfl⟩ : ∃ x : Nat, k = x := ⟨k.toNat, by omega⟩
    exact back_n x y l.length v (by omega) (by omega) v0 v1 A cap l rfl (by omega) w hr
end Go.Proofs.Ytehbflbapkgbiaa.Mm
