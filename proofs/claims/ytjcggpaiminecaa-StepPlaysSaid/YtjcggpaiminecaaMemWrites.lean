/- What the calls of package mem that read or change a memory answer. -/
import Derived.Test.YtjcggpaiminecaaMemWalks
namespace Go.Proofs.Ytjcggpaiminecaa.Mm
open Go.ChangeShapes Go.WideShapes Go.ChangeAt Go.RowKit
set_option linter.unusedVariables false

theorem chg_row (w : World) (g : Nat) (cs : Array Value) : Chg g g w (w.setRow g cs) :=
  ⟨rfl, rfl, rfl, by simp, fun k _ h1 _ => setRow_other w g k cs h1⟩
theorem u8_size : (Try.prog.info? 5).map (·.size) = some 1 := by kernel_rfl
theorem addr_add (g a j : Nat) : (⟨g, a, none⟩ : Addr).add j = ⟨g, a + j, none⟩ := by unfold Addr.add; by_cases h : j = 0 <;> simp [h]

/-- bytes copied into a block of bytes -/
theorem copy_into {w : World} {g : Nat} {B l : List Int} {x : Addr} (hB : HasB w g 5 (B.map (Value.int .u8))) (hc : ∀ i, i < l.length → w.cell? (x.add i) = some (.int .u8 (l.getD i 0))) (a n sl dl : Nat)
    (hn : l.length = n) (hm : Nat.min sl dl = n) (hfit : a + n ≤ B.length) :
    ∃ W, (∀ ty dc sc, (Builtin.copy_ #[30, 30] ty #[.slice (some ⟨g, a, none⟩) dl dc, .slice (some x) sl sc]).run Try.prog w = .ok (goInt n) W) ∧ HasB W g 5 ((splice B a l).map (Value.int .u8)) ∧ Chg g g w W := by
  have hr := fun ty dc sc => run_copy_row (P := Try.prog) w 30 30 ty 5 g a dl dc x sl sc _ 5 (l.map (Value.int .u8)) Try.underlying30 u8_size hB (by rw [List.length_map, hn, hm]) (fun j v hj => by
      have hjl : j < l.length := by
        rcases Nat.lt_or_ge j l.length with h | h
        · exact h
        · rw [List.getElem?_eq_none (by simpa using h)] at hj; cases hj
      rw [hc j hjl]
      simp [List.getElem?_eq_getElem hjl] at hj
      subst hj
      simp [List.getD, List.getElem?_eq_getElem hjl]) (by simp; omega) (by intro v hv; obtain ⟨y, _, rfl⟩ := List.mem_map.1 hv; rfl)
  refine ⟨w.setRow g ((B.map (Value.int .u8)).take a ++ l.map (Value.int .u8) ++ (B.map (Value.int .u8)).drop (a + (l.map (Value.int .u8)).length)).toArray, fun ty dc sc => by rw [hr ty dc sc]; simp only [List.length_map, hn], ?_, chg_row _ _ _⟩
  have := setRow_heap w g _ ((B.map (Value.int .u8)).take a ++ l.map (Value.int .u8) ++ (B.map (Value.int .u8)).drop (a + (l.map (Value.int .u8)).length)).toArray 5 (0, 0) hB
  unfold HasB
  rw [← splice_map]
  unfold splice
  rw [← List.append_assoc]
  exact this

theorem write_no {w : World} {p g h : Nat} {B : List Int} {T : List Bool} (m : MemAt w p g h B T) (a : Int) (ha : a ≤ 9223372036854775807) (A : Option Addr) (n cap : Nat) (hw : wholeB T a n = false) :
    Calls Try.prog 16 #[.pointer (some ⟨p, 0, none⟩), .int .i64 a, .slice A n cap] w fun e w' => e = .returned (.bool false) ∧ w = w' := by
  have C := whole_any m a n ha
  rw [hw] at C
  have C := Lib.hid C; clear hw
  clear m
  go_enter Try.func16, Try.ntmps16
  go_wp2_with fail
  refine C.out.mono ?_; rintro e w' ⟨rfl, rfl⟩
  go_wp2
  go_ret
  exact ⟨rfl, rfl⟩

theorem write_cons {w : World} {p g h : Nat} {B : List Int} {T : List Bool} (m : MemAt w p g h B T) (a n : Nat) (x : Addr) (l : List Int) (hl : l.length = n) (hn : 0 < n) (hb : Bytes l) (cap : Nat) (hc : ∀ i, i < l.length → w.cell? (x.add i) = some (.int .u8 (l.getD i 0)))
    (hw : wholeB T a n = true) (hfit : a + n ≤ B.length) :
    Calls Try.prog 16 #[.pointer (some ⟨p, 0, none⟩), .int .i64 a, .slice (some x) n cap] w fun e w' => e = .returned (.bool true) ∧ MemAt w' p g h (splice B a l) T ∧ Chg g g w w' := by
  have ht := m.top
  have hlen : B.length ≤ 65536 := by have := m.len; omega
  have C := whole_any m a n (by omega)
  rw [hw] at C
  have C := Lib.hid C; clear hw
  obtain ⟨W, hr, hW, hch⟩ := copy_into m.bytes hc a n n (B.length - a) hl (by show min n _ = _; omega) hfit
  have c0 := m.c0
  have M : MemAt W p g h (splice B a l) T := by
    have hL : (splice B a l).length = B.length := splice_len _ _ _ (by omega)
    refine ⟨?_, hW, m.zones.chg hch m.gh.symm m.gh.symm, by rw [hL]; exact m.len, m.pos, m.top, splice_byte m.byte hb _⟩
    rw [hL]
    exact m.own.chg hch m.pg m.pg
  have M := Lib.hid M
  have HC := Lib.hid hch
  clear hW hch
  have g1 : ¬ B.length = a := by omega
  have g2 : a ≤ B.length := by omega
  clear hc hl
  clear m
  generalize B.length = L at *
  go_enter Try.func16, Try.ntmps16
  go_wp2_with fail
  refine C.out.mono ?_; rintro e w' ⟨rfl, rfl⟩
  go_wp2
  go_ret
  exact ⟨rfl, M.out, HC.out⟩

theorem write_none {w : World} {p g h : Nat} {B : List Int} {T : List Bool} (m : MemAt w p g h B T) (a : Nat) (A : Option Addr) (cap : Nat) (hw : wholeB T a (0 : Nat) = true) (hfit : a ≤ B.length) :
    Calls Try.prog 16 #[.pointer (some ⟨p, 0, none⟩), .int .i64 a, .slice A 0 cap] w fun e w' => e = .returned (.bool true) ∧ w = w' := by
  have ht := m.top
  have hlen : B.length ≤ 65536 := by have := m.len; omega
  have C := whole_any m a (0 : Nat) (by omega)
  rw [hw] at C
  have C := Lib.hid C; clear hw
  have c0 := m.c0
  have hr : ∀ ty d n c, (Builtin.copy_ #[30, 30] ty #[.slice d n c, .slice A 0 cap]).run Try.prog w = .ok (goInt 0) w :=
    fun ty d n c => run_copy_none (P := Try.prog) w _ _ ty 5 d A n c 0 cap Try.underlying30 u8_size (by show min 0 n = 0; omega)
  generalize B.length = L at *
  clear m
  by_cases hq : L = a
  · subst hq
    go_enter Try.func16, Try.ntmps16
    go_wp2_with fail
    refine C.out.mono ?_; rintro e w' ⟨rfl, rfl⟩
    go_wp2
    go_ret
    exact ⟨rfl, rfl⟩
  · go_enter Try.func16, Try.ntmps16
    go_wp2_with fail
    refine C.out.mono ?_; rintro e w' ⟨rfl, rfl⟩
    go_wp2
    go_ret
    exact ⟨rfl, rfl⟩

theorem whole_lies {T : List Bool} {a n : Int} (h : wholeB T a n = true) : 0 ≤ a ∧ 0 ≤ n ∧ a + n ≤ (64 * T.length : Nat) := by
  unfold wholeB at h
  rw [Bool.and_eq_true] at h
  have := (liesB_iff _ _ _).1 h.1
  omega

/-- Write, where all are there -/
theorem write_any {w : World} {p g h : Nat} {B : List Int} {T : List Bool} (m : MemAt w p g h B T) (a : Int) (A : Option Addr) (cap : Nat) (l : List Int) (hr : RowAt w A cap l) (hw : wholeB T a l.length = true) :
    Calls Try.prog 16 #[.pointer (some ⟨p, 0, none⟩), .int .i64 a, .slice A l.length cap] w fun e w' => e = .returned (.bool true) ∧ MemAt w' p g h (splice B a.toNat l) T ∧ Chg g g w w' := by
  obtain ⟨h0, h1, h2⟩ := whole_lies hw
  have hl := m.len
  obtain ⟨k, rfl⟩ : ∃ k : Nat, a = k := ⟨a.toNat, by omega⟩
  rw [Int.toNat_natCast]
  by_cases hn : l = []
  · subst hn
    refine (write_none m k A cap hw (by omega)).mono ?_
    rintro e w' ⟨rfl, rfl⟩
    exact ⟨rfl, by rw [splice_nil]; exact m, Chg.refl _ _ _⟩
  · obtain ⟨r1, r2, r3, r4⟩ := hr
    obtain ⟨x, rfl, _, hc⟩ := r4 hn
    exact write_cons m k l.length x l rfl (List.length_pos_iff.2 hn) r3 cap hc hw (by omega)
end Go.Proofs.Ytjcggpaiminecaa.Mm
