/- The calls of package mem as the statements make them; the document's example; the statement MemApart, walked. -/
import Derived.Test.YtjcggpaiminecaaMemSet
namespace Go.Proofs.Ytjcggpaiminecaa.Mm
open Go.ChangeShapes Go.WideShapes Go.ChangeAt Go.RowKit
set_option linter.unusedVariables false

theorem new_i (n : Int) (z : Nat) (hn : n = 64 * z) (h1 : 1 ≤ z) (h2 : z ≤ 1024) (w : World) : Calls Try.prog 7 #[.int .i64 n] w (Made w z) := by
  obtain ⟨k, rfl⟩ : ∃ k : Nat, n = k := ⟨n.toNat, by omega⟩
  exact new_yes k z (by omega) h1 h2 w
theorem get_i {w : World} {p g h : Nat} {B : List Int} {T : List Bool} (m : MemAt w p g h B T) (a : Int) (hw : wholeB T a 4 = true) :
    Calls Try.prog 17 #[.pointer (some ⟨p, 0, none⟩), .int .u32 a] w fun e w' => e = .returned (.tuple #[.int .u32 (v4 B a.toNat), .bool true]) ∧ w = w' := by
  obtain ⟨h0, h1, h2⟩ := whole_lies hw
  have := m.len
  obtain ⟨k, rfl⟩ : ∃ k : Nat, a = k := ⟨a.toNat, by omega⟩
  exact get_yes m k hw (by omega)
theorem read_i {w : World} {p g h : Nat} {B : List Int} {T : List Bool} (m : MemAt w p g h B T) (a n : Int) (hw : wholeB T a n = true) :
    Calls Try.prog 19 #[.pointer (some ⟨p, 0, none⟩), .int .i64 a, .int .i64 n] w fun e w' => e = .returned (.tuple #[.slice (some ⟨w.heap.size, 0, none⟩) n.toNat n.toNat, .bool true]) ∧ HasB w' w.heap.size 5 (((B.drop a.toNat).take n.toNat).map (Value.int .u8)) ∧ Below w.heap.size w w' := by
  obtain ⟨h0, h1, h2⟩ := whole_lies hw
  have := m.len
  obtain ⟨k, rfl⟩ : ∃ k : Nat, a = k := ⟨a.toNat, by omega⟩
  obtain ⟨j, rfl⟩ : ∃ k : Nat, n = k := ⟨n.toNat, by omega⟩
  exact read_yes m k j hw (by omega)

theorem whole_full (z : Nat) (a n : Int) (h0 : 0 ≤ a) (h1 : 0 ≤ n) (h2 : a + n ≤ 64 * z) : wholeB (List.replicate z true) a n = true := by
  unfold wholeB
  rw [Bool.and_eq_true, liesB_iff, thr_iff]
  refine ⟨by simp; omega, fun i hi => rep_getD _ _ _ _ (by omega)⟩
theorem whole_none (z : Nat) (a n : Int) (h1 : 0 < n) : wholeB (List.replicate z false) a n = false := by
  cases hq : wholeB (List.replicate z false) a n
  · rfl
  · unfold wholeB at hq
    rw [Bool.and_eq_true, liesB_iff, thr_iff] at hq
    obtain ⟨q1, q2⟩ := hq
    rw [List.length_replicate] at q1
    have := q2 0 (by omega)
    rw [rep_getD _ _ _ _ (by omega)] at this
    cases this
theorem splice_part {α : Type} (L : List α) (k n : Nat) (c : List α) (hc : c.length = n) (h : k ≤ L.length) : ((splice L k c).drop k).take n = c := by
  unfold splice
  have hl : (L.take k).length = k := by rw [List.length_take]; omega
  rw [List.drop_append, hl, Nat.sub_self, List.drop_zero, List.drop_of_length_le (by omega), List.nil_append, List.take_append, hc, Nat.sub_self, List.take_zero, List.append_nil, List.take_of_length_le (by omega)]
theorem set_full (z : Nat) : splice (List.replicate z false) ((0 : Int) / 64).toNat (List.replicate z true) = List.replicate z true := splice_all _ _ (by simp)
theorem set_full0 (z : Nat) : splice (List.replicate z (0 : Int)) (0 : Int).toNat (List.replicate z 0) = List.replicate z 0 := splice_all _ _ (by simp)

/-- a memory of a call's own, in a world in which nothing that was there has changed -/
structure MSt (w0 : World) (p g h : Nat) (B : List Int) (T : List Bool) (w : World) : Prop where
  at_ : MemAt w p g h B T
  p_ : w0.heap.size ≤ p
  g_ : w0.heap.size ≤ g
  h_ : w0.heap.size ≤ h
  bel : Below w0.heap.size w0 w
section
variable {w0 w w' : World} {p g h : Nat} {B B' : List Int} {T T' : List Bool}
theorem Chg.wide (c : Chg g g w w') : Chg g h w w' := ⟨c.os, c.tape, c.output, c.size, fun k hk h1 _ => c.block k hk h1 h1⟩
theorem MSt.chg (s : MSt w0 p g h B T w) (m : MemAt w' p g h B' T') (c : Chg g h w w') : MSt w0 p g h B' T' w' := ⟨m, s.p_, s.g_, s.h_, c.below s.bel s.bel.size s.g_ s.h_⟩
theorem MSt.below (s : MSt w0 p g h B T w) (b : Below w.heap.size w w') : MSt w0 p g h B T w' := ⟨s.at_.below b, s.p_, s.g_, s.h_, bel_then s.bel b⟩
theorem MSt.old (s : MSt w p g h B T w') (b : Below w0.heap.size w0 w) : MSt w0 p g h B T w' := ⟨s.at_, Nat.le_trans b.size s.p_, Nat.le_trans b.size s.g_, Nat.le_trans b.size s.h_, bel_then b s.bel⟩
end

/-- New, as a statement makes it -/
theorem new_m (w0 : World) (n : Int) (z : Nat) (hn : n = 64 * z) (h1 : 1 ≤ z) (h2 : z ≤ 1024) {w : World} (hb : Below w0.heap.size w0 w) :
    Calls Try.prog 7 #[.int .i64 n] w fun e w' => ∃ p g h, e = .returned (.tuple #[.pointer (some ⟨p, 0, none⟩), .int .i64 0]) ∧ (MSt w0 p g h (List.replicate (64 * z) 0) (List.replicate z false) w' ∧ w.heap.size ≤ p ∧ w.heap.size ≤ g ∧ w.heap.size ≤ h ∧ Below w.heap.size w w') :=
  (new_i n z hn h1 h2 w).mono fun e w' ⟨p, g, h, he, m, lp, lg, lh, b⟩ => ⟨p, g, h, he, ⟨m, Nat.le_trans hb.size lp, Nat.le_trans hb.size lg, Nat.le_trans hb.size lh, bel_then hb b⟩, lp, lg, lh, b⟩
/-- all zones set, of a new one -/
theorem set_m {w0 w : World} {p g h z : Nat} (s : MSt w0 p g h (List.replicate (64 * z) 0) (List.replicate z false) w) (n : Int) (hn : n = 64 * z) :
    Calls Try.prog 10 #[.pointer (some ⟨p, 0, none⟩), .int .i64 0, .int .i64 n, .bool true] w fun e w' => e = .returned (.int .i64 0) ∧ MSt w0 p g h (List.replicate (64 * z) 0) (List.replicate z true) w' ∧ Chg g h w w' := by
  have hs : setB (List.replicate (64 * z) (0 : Int)).length 0 n = true := by rw [setB_iff, List.length_replicate]; omega
  refine (set_any s.at_ 0 n true hs).mono ?_
  rintro e w' ⟨rfl, m, c⟩
  rw [show n.toNat = 64 * z by omega, set_full0, show (n / 64).toNat = z by omega, set_full] at m
  exact ⟨rfl, s.chg m c, c⟩
theorem put_m {w0 w : World} {p g h : Nat} {B : List Int} {T : List Bool} (s : MSt w0 p g h B T w) (a v : Int) (h0 : 0 ≤ a) (h1 : a < 4294967296) (v0 : 0 ≤ v) (v1 : v < 4294967296) (hw : wholeB T a 4 = true) :
    Calls Try.prog 13 #[.pointer (some ⟨p, 0, none⟩), .int .u32 a, .int .u32 v] w fun e w' => e = .returned (.bool true) ∧ MSt w0 p g h (splice B a.toNat (b4 v)) T w' ∧ Chg g g w w' :=
  (put_yes s.at_ a v h0 h1 v0 v1 hw).mono fun e w' ⟨he, m, c⟩ => ⟨he, s.chg m c.wide, c⟩
theorem write_m {w0 w : World} {p g h : Nat} {B : List Int} {T : List Bool} (s : MSt w0 p g h B T w) (a : Int) (A : Option Addr) (cap : Nat) (l : List Int) (hr : RowAt w A cap l) (hw : wholeB T a l.length = true) :
    Calls Try.prog 16 #[.pointer (some ⟨p, 0, none⟩), .int .i64 a, .slice A l.length cap] w fun e w' => e = .returned (.bool true) ∧ MSt w0 p g h (splice B a.toNat l) T w' ∧ Chg g g w w' :=
  (write_any s.at_ a A cap l hr hw).mono fun e w' ⟨he, m, c⟩ => ⟨he, s.chg m c.wide, c⟩

theorem conv_row {w : World} {A : Option Addr} {cap : Nat} {l : List Int} (h : RowAt w A cap l) (n : Nat) (hn : l.length = n) :
    (convert 30 9 (.slice A n cap)).run Try.prog w = .ok (.string (strOfNums l)) w := by
  obtain ⟨h1, h2, h3, h4⟩ := h
  cases A with
  | none =>
    have hl : l = [] := by
      by_cases hl : l = []
      · exact hl
      · obtain ⟨x, hx, _⟩ := h4 hl; cases hx
    subst hl
    exact run_convert_bytes_nil w _ 5 Try.underlying30 Try.underlying5 _ _ _ Try.underlying9
  | some a =>
    have hc : ∀ i, i < l.length → w.cell? (a.add i) = some (.int .u8 (l.getD i 0)) := by
      intro i hi
      obtain ⟨x, hx, _, hc⟩ := h4 (by intro e; subst e; simp at hi)
      injection hx with hx; subst hx
      exact hc i hi
    have hl : (loadCells a n).run Try.prog w = .ok (l.map (Value.int .u8)).toArray w := by
      have := run_loadCells_list (P := Try.prog) w a (l.map (Value.int .u8)) (fun j v hj => by
        have hjl : j < l.length := by
          rcases Nat.lt_or_ge j l.length with h | h
          · exact h
          · rw [List.getElem?_eq_none (by simpa using h)] at hj; cases hj
        rw [hc j hjl]
        simp [List.getElem?_eq_getElem hjl] at hj
        subst hj
        simp [List.getD, List.getElem?_eq_getElem hjl])
      rw [List.length_map, hn] at this
      exact this
    rw [run_convert_bytes_string w 30 9 5 _ n cap Try.underlying30 Try.underlying5 Try.underlying9, run_bytesToString w _ n cap l hl, foldl_push_bytes]
    simp [strOfNums, ByteArray.empty, ByteArray.emptyWithCapacity]
    rfl
theorem row_part {w : World} {g : Nat} {L : List Int} (h : HasB w g 5 (L.map (Value.int .u8))) (hb : Bytes L) (o n c : Nat) (h1 : o + n ≤ L.length) (h2 : n ≤ c) (h3 : c ≤ maxLen) : RowAt w (some ⟨g, o, none⟩) c ((L.drop o).take n) := by
  have hl : ((L.drop o).take n).length = n := by rw [List.length_take, List.length_drop]; omega
  refine ⟨by omega, h3, take_byte (drop_byte hb _) _, fun _ => ⟨_, rfl, h.lt, fun i hi => ?_⟩⟩
  rw [hl] at hi
  rw [addr_add, h.cell, List.getElem?_map, List.getElem?_eq_getElem (by omega), Option.map_some, getD_take' _ _ _ _ hi, getD_drop']
  simp [List.getD, List.getElem?_eq_getElem (by omega : o + i < L.length)]
theorem RowAt.at_ {w : World} {A : Option Addr} {cap : Nat} {l : List Int} (r : RowAt w A cap l) (i : Nat) (hi : i < l.length) : ∃ x, A = some x ∧ x.block < w.heap.size ∧ w.cell? (x.add i) = some (.int .u8 (l.getD i 0)) := by
  obtain ⟨_, _, _, h4⟩ := r
  obtain ⟨x, hx, hb, hc⟩ := h4 (by intro e; subst e; simp at hi)
  exact ⟨x, hx, hb, hc i hi⟩

theorem awake_any (w : World) : Calls Try.prog 5 #[] w fun e w' => e = .returned (.bool true) ∧ Below w.heap.size w w' := by
  go_enter Try.func5, Try.ntmps5
  go_wp2_with fail
  refine (new_m w 64 1 (by decide) (by decide) (by decide) (Below.refl _ _)).mono ?_; rintro e w1 ⟨p, g, h, rfl, s, _⟩
  have S := Lib.hid s; clear s
  go_wp2_with fail
  refine (get_no S.out.at_ 0 (by decide) (by decide) (whole_none _ _ _ (by decide))).mono ?_; rintro e w' ⟨rfl, rfl⟩
  go_wp2_with fail
  refine (set_m S.out 64 (by decide)).mono ?_; rintro e w2 ⟨rfl, s, _⟩
  have S := Lib.hid s; clear s
  go_wp2_with fail
  refine (put_m S.out 8 5 (by decide) (by decide) (by decide) (by decide) (whole_full _ _ _ (by decide) (by decide) (by decide))).mono ?_; rintro e w3 ⟨rfl, s, _⟩
  have S := Lib.hid s; clear s
  go_wp2_with fail
  have hg := get_i S.out.at_ 8 (whole_full _ _ _ (by decide) (by decide) (by decide))
  rw [v4_b4 _ _ _ (by decide) (by decide) (by decide)] at hg
  refine hg.mono ?_; rintro e w' ⟨rfl, rfl⟩
  clear hg
  go_wp2_with fail
  go_ret
  exact ⟨rfl, S.out.bel⟩
end Go.Proofs.Ytjcggpaiminecaa.Mm
