/- The calls of package mem as the statements make them; the document's example; the statement MemApart, walked. -/
import Derived.Test.YtehbflbapkgbiaaMemSet
namespace Go.Proofs.Ytehbflbapkgbiaa.Mm
open Go.ChangeShapes Go.WideShapes Go.ChangeAt Go.RowKit
set_option linter.unusedVariables false

theorem new_i (n : Int) (z : Nat) (hn : n = 64 * z) (h1 : 1 ≤ z) (h2 : z ≤ 1024) (w : World) : Calls Try.prog 10 #[.int .i64 n] w (Made w z) := by
  obtain ⟨k, rfl⟩ : ∃ k : Nat, n = k := ⟨n.toNat, by omega⟩
  exact new_yes k z (by omega) h1 h2 w
theorem get_i {w : World} {p g h : Nat} {B : List Int} {T : List Bool} (m : MemAt w p g h B T) (a : Int) (hw : wholeB T a 4 = true) :
    Calls Try.prog 20 #[.pointer (some ⟨p, 0, none⟩), .int .u32 a] w fun e w' => e = .returned (.tuple #[.int .u32 (v4 B a.toNat), .bool true]) ∧ w = w' := by
  obtain ⟨h0, h1, h2⟩ := whole_lies hw
  have := m.len
  obtain ⟨k, rfl⟩ : ∃ k : Nat, a = k := ⟨a.toNat, by omega⟩
  exact get_yes m k hw (by omega)
theorem read_i {w : World} {p g h : Nat} {B : List Int} {T : List Bool} (m : MemAt w p g h B T) (a n : Int) (hw : wholeB T a n = true) :
    Calls Try.prog 22 #[.pointer (some ⟨p, 0, none⟩), .int .i64 a, .int .i64 n] w fun e w' => e = .returned (.tuple #[.slice (some ⟨w.heap.size, 0, none⟩) n.toNat n.toNat, .bool true]) ∧ HasB w' w.heap.size 5 (((B.drop a.toNat).take n.toNat).map (Value.int .u8)) ∧ Below w.heap.size w w' := by
  obtain ⟨h0, h1, h2⟩ := whole_lies hw
  have := m.len
  obtain ⟨k, rfl⟩ : ∃ k : Nat, a = k := ⟨a.toNat, by omega⟩
  obtain ⟨j, rfl⟩ : ∃ k : Nat, n = k := ⟨n.toNat, by omega⟩
  exact read_yes m k j hw (by omega)

theorem whole_full (z : Nat) (a n : Int) (h0 : 0 ≤ a) (h1 : 0 ≤ n) (h2 : a + n ≤ 64 * z) : wholeB (List.replicate z true) a n = true := by
  unfold wholeB
  rw [Bool.and_eq_true, liesB_iff, thr_iff]
  refine ⟨by simp; omega, fun i hi => rep_getD _ _ _ _ (by omega)⟩
theorem whole_none (z : Nat) (a n : Int) (h1 : 0 < n) : wholeB (List.replicate z false) a n = false := by
  cases hq : wholeB (List.replicate z false) a n
  · rfl
  · unfold wholeB at hq
    rw [Bool.and_eq_true, liesB_iff, thr_iff] at hq
    obtain ⟨q1, q2⟩ := hq
    rw [List.length_replicate] at q1
    have := q2 0 (by omega)
    rw [rep_getD _ _ _ _ (by omega)] at this
    cases this
theorem set_full (z : Nat) : splice (List.replicate z false) ((0 : Int) / 64).toNat (List.replicate z true) = List.replicate z true := splice_all _ _ (by simp)
theorem set_full0 (z : Nat) : splice (List.replicate z (0 : Int)) (0 : Int).toNat (List.replicate z 0) = List.replicate z 0 := splice_all _ _ (by simp)

/-- a memory of a call's own, in a world in which nothing that was there has changed -/
structure MSt (w0 : World) (p g h : Nat) (B : List Int) (T : List Bool) (w : World) : Prop where
  at_ : MemAt w p g h B T
  p_ : w0.heap.size ≤ p
  g_ : w0.heap.size ≤ g
  h_ : w0.heap.size ≤ h
  bel : Below w0.heap.size w0 w
section
variable {w0 w w' : World} {p g h : Nat} {B B' : List Int} {T T' : List Bool}
theorem Chg.wide (c : Chg g g w w') : Chg g h w w' := ⟨c.os, c.tape, c.output, c.size, fun k hk h1 _ => c.block k hk h1 h1⟩
theorem MSt.chg (s : MSt w0 p g h B T w) (m : MemAt w' p g h B' T') (c : Chg g h w w') : MSt w0 p g h B' T' w' := ⟨m, s.p_, s.g_, s.h_, c.below s.bel s.bel.size s.g_ s.h_⟩
theorem MSt.below (s : MSt w0 p g h B T w) (b : Below w.heap.size w w') : MSt w0 p g h B T w' := ⟨s.at_.below b, s.p_, s.g_, s.h_, bel_then s.bel b⟩
theorem MSt.old (s : MSt w p g h B T w') (b : Below w0.heap.size w0 w) : MSt w0 p g h B T w' := ⟨s.at_, Nat.le_trans b.size s.p_, Nat.le_trans b.size s.g_, Nat.le_trans b.size s.h_, bel_then b s.bel⟩
end

/-- New, as a statement makes it -/
theorem new_m (w0 : World) (n : Int) (z : Nat) (hn : n = 64 * z) (h1 : 1 ≤ z) (h2 : z ≤ 1024) {w : World} (hb : Below w0.heap.size w0 w) :
    Calls Try.prog 10 #[.int .i64 n] w fun e w' => ∃ p g h, e = .returned (.tuple #[.pointer (some ⟨p, 0, none⟩), .int .i64 0]) ∧ (MSt w0 p g h (List.replicate (64 * z) 0) (List.replicate z false) w' ∧ w.heap.size ≤ p ∧ w.heap.size ≤ g ∧ w.heap.size ≤ h ∧ Below w.heap.size w w') :=
  (new_i n z hn h1 h2 w).mono fun e w' ⟨p, g, h, he, m, lp, lg, lh, b⟩ => ⟨p, g, h, he, ⟨m, Nat.le_trans hb.size lp, Nat.le_trans hb.size lg, Nat.le_trans hb.size lh, bel_then hb b⟩, lp, lg, lh, b⟩
/-- all zones set, of a new one -/
theorem set_m {w0 w : World} {p g h z : Nat} (s : MSt w0 p g h (List.replicate (64 * z) 0) (List.replicate z false) w) (n : Int) (hn : n = 64 * z) :
    Calls Try.prog 13 #[.pointer (some ⟨p, 0, none⟩), .int .i64 0, .int .i64 n, .bool true] w fun e w' => e = .returned (.int .i64 0) ∧ MSt w0 p g h (List.replicate (64 * z) 0) (List.replicate z true) w' ∧ Chg g h w w' := by
  have hs : setB (List.replicate (64 * z) (0 : Int)).length 0 n = true := by rw [setB_iff, List.length_replicate]; omega
  refine (set_any s.at_ 0 n true hs).mono ?_
  rintro e w' ⟨rfl, m, c⟩
  rw [show n.toNat = 64 * z by omega, set_full0, show (n / 64).toNat = z by omega, set_full] at m
  exact ⟨rfl, s.chg m c, c⟩
theorem put_m {w0 w : World} {p g h : Nat} {B : List Int} {T : List Bool} (s : MSt w0 p g h B T w) (a v : Int) (h0 : 0 ≤ a) (h1 : a < 4294967296) (v0 : 0 ≤ v) (v1 : v < 4294967296) (hw : wholeB T a 4 = true) :
    Calls Try.prog 16 #[.pointer (some ⟨p, 0, none⟩), .int .u32 a, .int .u32 v] w fun e w' => e = .returned (.bool true) ∧ MSt w0 p g h (splice B a.toNat (b4 v)) T w' ∧ Chg g g w w' :=
  (put_yes s.at_ a v h0 h1 v0 v1 hw).mono fun e w' ⟨he, m, c⟩ => ⟨he, s.chg m c.wide, c⟩
theorem write_m {w0 w : World} {p g h : Nat} {B : List Int} {T : List Bool} (s : MSt w0 p g h B T w) (a : Int) (A : Option Addr) (cap : Nat) (l : List Int) (hr : RowAt w A cap l) (hw : wholeB T a l.length = true) :
    Calls Try.prog 19 #[.pointer (some ⟨p, 0, none⟩), .int .i64 a, .slice A l.length cap] w fun e w' => e = .returned (.bool true) ∧ MSt w0 p g h (splice B a.toNat l) T w' ∧ Chg g g w w' :=
  (write_any s.at_ a A cap l hr hw).mono fun e w' ⟨he, m, c⟩ => ⟨he, s.chg m c.wide, c⟩

theorem awake_any (w : World) : Calls Try.prog 8 #[] w fun e w' => e = .returned (.bool true) ∧ Below w.heap.size w w' := by
  go_enter Try.func8, Try.ntmps8
  go_wp2_with fail
  refine (new_m w 64 1 (by decide) (by decide) (by decide) (Below.refl _ _)).mono ?_; rintro e w1 ⟨p, g, h, rfl, s, _⟩
  have S := Lib.hid s; clear s
  go_wp2_with fail
  refine (get_no S.out.at_ 0 (by decide) (by decide) (whole_none _ _ _ (by decide))).mono ?_; rintro e w' ⟨rfl, rfl⟩
  go_wp2_with fail
  refine (set_m S.out 64 (by decide)).mono ?_; rintro e w2 ⟨rfl, s, _⟩
  have S := Lib.hid s; clear s
  go_wp2_with fail
  refine (put_m S.out 8 5 (by decide) (by decide) (by decide) (by decide) (whole_full _ _ _ (by decide) (by decide) (by decide))).mono ?_; rintro e w3 ⟨rfl, s, _⟩
  have S := Lib.hid s; clear s
  go_wp2_with fail
  have hg := get_i S.out.at_ 8 (whole_full _ _ _ (by decide) (by decide) (by decide))
  rw [v4_b4 _ _ _ (by decide) (by decide) (by decide)] at hg
  refine hg.mono ?_; rintro e w' ⟨rfl, rfl⟩
  clear hg
  go_wp2_with fail
  go_ret
  exact ⟨rfl, S.out.bel⟩
end Go.Proofs.Ytehbflbapkgbiaa.Mm
