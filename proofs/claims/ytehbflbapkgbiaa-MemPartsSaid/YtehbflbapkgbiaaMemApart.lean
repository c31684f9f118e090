/- The statement MemApart, walked. -/
import Derived.Test.YtehbflbapkgbiaaMemLaws
namespace Go.Proofs.Ytehbflbapkgbiaa.Mm
open Go.ChangeShapes Go.WideShapes Go.ChangeAt Go.RowKit
set_option linter.unusedVariables false

theorem u8_bd {n : Int} (h : (Lit.int .u8 n).wf = true) : 0 ≤ n ∧ n ≤ 255 := bounds_u8 h
theorem u32_bd {n : Int} (h : (Lit.int .u32 n).wf = true) : 0 ≤ n ∧ n < 4294967296 := by
  have := bounds_u32 h
  omega

theorem part_cell {w : World} {g : Nat} {B : List Int} {a n : Nat} (hb : HasB w g 5 (((B.drop a).take n).map (Value.int .u8))) (i : Nat) (hi : i < n) (hfit : a + n ≤ B.length) : w.cell? ⟨g, i, none⟩ = some (.int .u8 (B.getD (a + i) 0)) := by
  have hl : ((B.drop a).take n).length = n := by rw [List.length_take, List.length_drop]; omega
  rw [hb.cell, List.getElem?_map, List.getElem?_eq_getElem (by omega), Option.map_some]
  congr 2
  rw [← getD_drop', ← getD_take' (B.drop a) n i 0 hi]
  simp [List.getD, List.getElem?_eq_getElem (by omega : i < ((B.drop a).take n).length)]

theorem memApart_walk (a c v u : Int) (w : World) (wa : (Lit.int .u8 a).wf = true) (wc : (Lit.int .u8 c).wf = true) (wv : (Lit.int .u32 v).wf = true) (wu : (Lit.int .u32 u).wf = true) :
    Calls Try.prog 7 #[.int .u8 a, .int .u8 c, .int .u32 v, .int .u32 u] w fun e w' => e = .returned (.bool true) ∧ Below w.heap.size w w' := by
  obtain ⟨a0, a1⟩ := u8_bd wa
  obtain ⟨c0, c1⟩ := u8_bd wc
  obtain ⟨v0, v1⟩ := u32_bd wv
  obtain ⟨u0, u1⟩ := u32_bd wu
  clear wa wc wv wu
  go_enter Try.func7, Try.ntmps7
  go_wp2_with fail
  refine (awake_any _).mono ?_; rintro e w1 ⟨rfl, hb1⟩
  have HB := Lib.hid hb1; clear hb1
  go_wp2_with fail
  refine (new_m w 1024 16 (by decide) (by decide) (by decide) HB.out).mono ?_; rintro e w2 ⟨p, g, h, rfl, s, _⟩
  have S := Lib.hid s; clear s HB
  go_wp2_with fail
  refine (set_m S.out 1024 (by decide)).mono ?_; rintro e w3 ⟨rfl, s, _⟩
  have S := Lib.hid s; clear s
  go_wp2_with fail
  refine (put_m S.out a v a0 (by omega) v0 v1 (whole_full _ _ _ a0 (by decide) (by omega))).mono ?_; rintro e w4 ⟨rfl, s, _⟩
  have S := Lib.hid s; clear s
  go_wp2_with fail
  refine (put_m S.out (a + 4 + c) u (by omega) (by omega) u0 u1 (whole_full _ _ _ (by omega) (by decide) (by omega))).mono ?_; rintro e w5 ⟨rfl, s, _⟩
  have S := Lib.hid s; clear s
  have e1 : (splice (List.replicate (64 * 16) (0 : Int)) a.toNat (b4 v)).length = 1024 := by rw [splice_len _ _ _ (by rw [b4_len, List.length_replicate]; omega), List.length_replicate]
  have e2 : (splice (splice (List.replicate (64 * 16) (0 : Int)) a.toNat (b4 v)) (a + 4 + c).toNat (b4 u)).length = 1024 := by rw [splice_len _ _ _ (by rw [b4_len, e1]; omega), e1]
  have q1 : v4 (splice (splice (List.replicate (64 * 16) (0 : Int)) a.toNat (b4 v)) (a + 4 + c).toNat (b4 u)) a.toNat = v := by
    rw [v4_far _ _ _ _ (by rw [b4_len, e1]; omega) (by omega), v4_b4 _ _ _ v0 v1 (by rw [List.length_replicate]; omega)]
  have q2 : v4 (splice (splice (List.replicate (64 * 16) (0 : Int)) a.toNat (b4 v)) (a + 4 + c).toNat (b4 u)) (a + 4 + c).toNat = u := v4_b4 _ _ _ u0 u1 (by omega)
  have q3 : ∀ i, i < 4 → (splice (splice (List.replicate (64 * 16) (0 : Int)) a.toNat (b4 v)) (a + 4 + c).toNat (b4 u)).getD (a.toNat + i) 0 = (b4 v).getD i 0 := fun i hi => by
    rw [splice_getD _ _ _ _ (by rw [b4_len, e1]; omega), if_neg (by rw [b4_len]; omega), splice_getD _ _ _ _ (by rw [b4_len, List.length_replicate]; omega), if_pos (by rw [b4_len]; omega), show a.toNat + i - a.toNat = i by omega]
  have q4 := q3 0 (by decide)
  have q5 := q3 3 (by decide)
  generalize splice (splice (List.replicate (64 * 16) (0 : Int)) a.toNat (b4 v)) (a + 4 + c).toNat (b4 u) = BB at S e2 q1 q2 q4 q5
  clear q3 e1
  have Q4 := Lib.hid q4
  have Q5 := Lib.hid q5
  have E2 := Lib.hid e2
  clear q4 q5 e2
  have C1 := get_i S.out.at_ a (whole_full _ _ _ a0 (by decide) (by omega))
  rw [q1] at C1
  have C1 := Lib.hid C1
  have C2 := get_i S.out.at_ (a + 4 + c) (whole_full _ _ _ (by omega) (by decide) (by omega))
  rw [q2] at C2
  have C2 := Lib.hid C2
  clear q1 q2
  go_wp2_with fail
  refine C1.out.mono ?_; rintro e w' ⟨rfl, rfl⟩
  go_wp2_with fail
  refine C2.out.mono ?_; rintro e w' ⟨rfl, rfl⟩
  clear C1 C2
  go_wp2_with fail
  refine (read_i S.out.at_ a 4 (whole_full _ _ _ a0 (by decide) (by omega))).mono ?_; rintro e w6 ⟨rfl, hr, hb⟩
  have r0 := part_cell hr 0 (by decide) (by rw [E2.out]; show a.toNat + 4 ≤ 1024; omega)
  have r3 := part_cell hr 3 (by decide) (by rw [E2.out]; show a.toNat + 4 ≤ 1024; omega)
  rw [Q4.out] at r0
  rw [Q5.out] at r3
  replace r0 : w6.cell? ⟨w5.heap.size, 0, none⟩ = some (.int .u8 (v % 256)) := r0
  replace r3 : w6.cell? ⟨w5.heap.size, 3, none⟩ = some (.int .u8 (v / 16777216)) := r3
  have HB := Lib.hid (S.out.below hb).bel
  clear hr hb S Q4 Q5 E2
  go_wp2_with fail
  go_ret
  exact ⟨rfl, HB.out⟩
end Go.Proofs.Ytehbflbapkgbiaa.Mm
