/- What Put, Get and Read of package mem answer. -/
import Derived.Test.YtjcggpaiminecaaMemWrites
namespace Go.Proofs.Ytjcggpaiminecaa.Mm
open Go.ChangeShapes Go.WideShapes Go.ChangeAt Go.RowKit
set_option linter.unusedVariables false

theorem write_nil (a : Int) (A : Option Addr) (n cap : Nat) (w : World) : Calls Try.prog 16 #[.pointer none, .int .i64 a, .slice A n cap] w fun e w' => e = .returned (.bool false) ∧ w = w' := by
  go_enter Try.func16, Try.ntmps16
  go_wp2_with fail
  refine (whole_nil _ _ _).mono ?_; rintro e w' ⟨rfl, rfl⟩
  go_wp2
  go_ret
  exact ⟨rfl, rfl⟩

/-- the four bytes that Put lays -/
def put4 (w : World) (v : Int) : World := w.alloc (.cells ((b4 v).map (Value.int .u8)).toArray 5)

theorem put_b (p : Option Addr) (a v : Int) (b : Bool) (h0 : 0 ≤ a) (h1 : a < 4294967296) (v0 : 0 ≤ v) (v1 : v < 4294967296) (w : World) (R : World → Prop)
    (c : Calls Try.prog 16 #[.pointer p, .int .i64 a, .slice (some ⟨w.heap.size, 0, none⟩) (b4 v).length (b4 v).length] (put4 w v) fun e w' => e = .returned (.bool b) ∧ R w') :
    Calls Try.prog 13 #[.pointer p, .int .u32 a, .int .u32 v] w fun e w' => e = .returned (.bool b) ∧ R w' := by
  have C := Lib.hid c; clear c
  go_enter Try.func13, Try.ntmps13
  go_wp2_with fail
  refine Calls.mono C.out ?_; rintro e w' ⟨rfl, hR⟩
  have HR := Lib.hid hR; clear hR
  go_wp2
  go_ret
  exact ⟨rfl, HR.out⟩
theorem put4_bel (w : World) (v : Int) : Below w.heap.size w (put4 w v) := bel_al (Below.refl _ _) _
theorem put4_row (w : World) (v : Int) (v0 : 0 ≤ v) (v1 : v < 4294967296) : RowAt (put4 w v) (some ⟨w.heap.size, 0, none⟩) (b4 v).length (b4 v) :=
  row_blk (b4_byte v v0 v1) (by unfold maxLen; rw [b4_len]; decide) (HasB.new w _ _)
theorem put_nil (a v : Int) (h0 : 0 ≤ a) (h1 : a < 4294967296) (v0 : 0 ≤ v) (v1 : v < 4294967296) (w : World) :
    Calls Try.prog 13 #[.pointer none, .int .u32 a, .int .u32 v] w fun e w' => e = .returned (.bool false) ∧ Below w.heap.size w w' :=
  put_b none a v false h0 h1 v0 v1 w _ ((write_nil a _ _ _ _).mono fun e w' h => ⟨h.1, h.2 ▸ put4_bel w v⟩)
theorem put_no {w : World} {p g h : Nat} {B : List Int} {T : List Bool} (m : MemAt w p g h B T) (a v : Int) (h0 : 0 ≤ a) (h1 : a < 4294967296) (v0 : 0 ≤ v) (v1 : v < 4294967296) (hw : wholeB T a 4 = false) :
    Calls Try.prog 13 #[.pointer (some ⟨p, 0, none⟩), .int .u32 a, .int .u32 v] w fun e w' => e = .returned (.bool false) ∧ Below w.heap.size w w' :=
  put_b _ a v false h0 h1 v0 v1 w _ ((write_no (m.below (put4_bel w v)) a (by omega) _ (b4 v).length _ hw).mono fun e w' h => ⟨h.1, h.2 ▸ put4_bel w v⟩)
theorem put_yes {w : World} {p g h : Nat} {B : List Int} {T : List Bool} (m : MemAt w p g h B T) (a v : Int) (h0 : 0 ≤ a) (h1 : a < 4294967296) (v0 : 0 ≤ v) (v1 : v < 4294967296) (hw : wholeB T a 4 = true) :
    Calls Try.prog 13 #[.pointer (some ⟨p, 0, none⟩), .int .u32 a, .int .u32 v] w fun e w' => e = .returned (.bool true) ∧ (MemAt w' p g h (splice B a.toNat (b4 v)) T ∧ Chg g g w w') :=
  put_b _ a v true h0 h1 v0 v1 w _ ((write_any (m.below (put4_bel w v)) a _ _ (b4 v) (put4_row w v v0 v1) hw).mono fun e w' h => ⟨h.1, h.2.1, (Chg.of (put4_bel w v)).trans h.2.2⟩)

theorem get_nil (a : Int) (h0 : 0 ≤ a) (h1 : a < 4294967296) (w : World) : Calls Try.prog 17 #[.pointer none, .int .u32 a] w fun e w' => e = .returned (.tuple #[.int .u32 0, .bool false]) ∧ w = w' := by
  go_enter Try.func17, Try.ntmps17
  go_wp2_with fail
  refine (whole_nil _ _ _).mono ?_; rintro e w' ⟨rfl, rfl⟩
  go_wp2
  go_ret2
  exact ⟨rfl, rfl⟩
theorem get_no {w : World} {p g h : Nat} {B : List Int} {T : List Bool} (m : MemAt w p g h B T) (a : Int) (h0 : 0 ≤ a) (h1 : a < 4294967296) (hw : wholeB T a 4 = false) :
    Calls Try.prog 17 #[.pointer (some ⟨p, 0, none⟩), .int .u32 a] w fun e w' => e = .returned (.tuple #[.int .u32 0, .bool false]) ∧ w = w' := by
  have C := whole_any m a 4 (by omega)
  rw [hw] at C
  have C := Lib.hid C; clear hw m
  go_enter Try.func17, Try.ntmps17
  go_wp2_with fail
  refine C.out.mono ?_; rintro e w' ⟨rfl, rfl⟩
  go_wp2
  go_ret2
  exact ⟨rfl, rfl⟩
theorem get_yes {w : World} {p g h : Nat} {B : List Int} {T : List Bool} (m : MemAt w p g h B T) (a : Nat) (hw : wholeB T a 4 = true) (hfit : a + 4 ≤ B.length) :
    Calls Try.prog 17 #[.pointer (some ⟨p, 0, none⟩), .int .u32 a] w fun e w' => e = .returned (.tuple #[.int .u32 (v4 B a), .bool true]) ∧ w = w' := by
  have ht := m.top
  have hlen : B.length ≤ 65536 := by have := m.len; omega
  have C := whole_any m a 4 (by omega)
  rw [hw] at C
  have C := Lib.hid C; clear hw
  have c0 := m.c0
  have BC := Lib.hid m.bc
  have hby := drop_byte m.byte a
  have HBY := Lib.hid hby
  have HV := Lib.hid (v4_num B a hfit)
  obtain ⟨L, hL⟩ : ∃ L, B.length = L := ⟨_, rfl⟩
  rw [hL] at c0 hfit hlen
  have HL := Lib.hid hL
  clear hL m hby
  have g1 : ¬ L = a := by omega
  have g2 : a + 4 - a = 4 := by omega
  go_enter Try.func17, Try.ntmps17
  go_wp2_with fail
  refine C.out.mono ?_; rintro e w' ⟨rfl, rfl⟩
  go_wp2_with fail
  rw [g2]
  clear g2
  go_loop [7, 25] (fun v i => ∃ k : Nat, k ≤ 4 ∧ i = .int .i64 k ∧ v = .int .u32 (numV ((B.drop a).take k))) (fun _ i => 4 - (intOf i).toNat)
  case atStart => exact ⟨0, Nat.zero_le _, rfl, rfl⟩
  case round =>
    obtain ⟨k, hk, rfl, rfl⟩ := hrel
    by_cases hlt : k < 4
    · have hc := BC.out (a + k) (by have := HL.out; omega)
      have hbd := row_byte HBY.out k
      rw [getD_drop'] at hbd
      have hv := numV_bd _ (take_byte HBY.out k)
      rw [List.length_take, List.length_drop, HL.out, Nat.min_eq_left (by omega)] at hv
      have HS := Lib.hid (numV_take (B.drop a) k (by rw [List.length_drop, HL.out]; omega))
      rw [getD_drop'] at HS
      obtain ⟨bk, hbk⟩ : ∃ v, B.getD (a + k) 0 = v := ⟨_, rfl⟩
      rw [hbk] at hc hbd HS
      clear hbk
      obtain ⟨mk, hmk⟩ : ∃ v, numV ((B.drop a).take k) = v := ⟨_, rfl⟩
      rw [hmk] at hv HS ⊢
      clear hmk
      obtain ⟨hb0, hb1⟩ := hbd
      have HJ := Lib.hid (or_join mk bk k hlt hv.1 hv.2 hb0 hb1)
      have hm1 : mk < 4294967296 := by
        have := hv.2
        obtain rfl | rfl | rfl | rfl : k = 0 ∨ k = 1 ∨ k = 2 ∨ k = 3 := by omega
        all_goals (simp at this; omega)
      have hm0 := hv.1
      clear hv
      go_wp2
      go_round
      case rel => exact ⟨k + 1, by omega, by go_num, by rw [HS.out, HJ.out]⟩
      case measure => simp [intOf]; omega
    · have hk4 : k = 4 := by omega
      subst hk4
      rw [HV.out]
      go_wp2
      go_ret2
      exact ⟨rfl, rfl⟩

theorem read_nil (a n : Int) (w : World) : Calls Try.prog 19 #[.pointer none, .int .i64 a, .int .i64 n] w fun e w' => e = .returned (.tuple #[.slice none 0 0, .bool false]) ∧ w = w' := by
  go_enter Try.func19, Try.ntmps19
  go_wp2_with fail
  refine (whole_nil _ _ _).mono ?_; rintro e w' ⟨rfl, rfl⟩
  go_wp2
  go_ret2
  exact ⟨rfl, rfl⟩
theorem read_no {w : World} {p g h : Nat} {B : List Int} {T : List Bool} (m : MemAt w p g h B T) (a n : Int) (ha : a ≤ 9223372036854775807) (hw : wholeB T a n = false) :
    Calls Try.prog 19 #[.pointer (some ⟨p, 0, none⟩), .int .i64 a, .int .i64 n] w fun e w' => e = .returned (.tuple #[.slice none 0 0, .bool false]) ∧ w = w' := by
  have C := whole_any m a n ha
  rw [hw] at C
  have C := Lib.hid C; clear hw m
  go_enter Try.func19, Try.ntmps19
  go_wp2_with fail
  refine C.out.mono ?_; rintro e w' ⟨rfl, rfl⟩
  go_wp2
  go_ret2
  exact ⟨rfl, rfl⟩
theorem read_yes {w : World} {p g h : Nat} {B : List Int} {T : List Bool} (m : MemAt w p g h B T) (a n : Nat) (hw : wholeB T a n = true) (hfit : a + n ≤ B.length) :
    Calls Try.prog 19 #[.pointer (some ⟨p, 0, none⟩), .int .i64 a, .int .i64 n] w fun e w' => e = .returned (.tuple #[.slice (some ⟨w.heap.size, 0, none⟩) n n, .bool true]) ∧ HasB w' w.heap.size 5 (((B.drop a).take n).map (Value.int .u8)) ∧ Below w.heap.size w w' := by
  have ht := m.top
  have hlen : B.length ≤ 65536 := by have := m.len; omega
  have C := whole_any m a n (by omega)
  rw [hw] at C
  have C := Lib.hid C; clear hw
  have mk := make_u8 n (by omega) w
  obtain ⟨w1, hw1⟩ : ∃ w1, w1 = w.alloc (.cells (List.replicate n (Value.int .u8 0)).toArray 5) := ⟨_, rfl⟩
  rw [← hw1] at mk
  have hb1 : Below w.heap.size w w1 := by rw [hw1]; exact bel_al (Below.refl _ _) _
  have m1 := m.below hb1
  have hn1 : HasB w1 w.heap.size 5 ((List.replicate n (0 : Int)).map (Value.int .u8)) := by rw [hw1, List.map_replicate]; exact HasB.new _ _ _
  clear hw1
  have c0 := m1.c0
  have hlt : ((B.drop a).take n).length = n := by rw [List.length_take, List.length_drop]; omega
  have hR : ∃ W, (∀ ty c, (Builtin.copy_ #[30, 30] ty #[.slice (some ⟨w.heap.size, 0, none⟩) n n, .slice (some ⟨g, if B.length = a then 0 else a, none⟩) (B.length - a) c]).run Try.prog w1 = .ok (goInt n) W) ∧ HasB W w.heap.size 5 (((B.drop a).take n).map (Value.int .u8)) ∧ Below w.heap.size w W := by
    by_cases h0 : n = 0
    · subst h0
      refine ⟨w1, fun ty c => run_copy_none (P := Try.prog) w1 _ _ ty 5 _ _ _ _ _ _ Try.underlying30 u8_size (by show min _ 0 = 0; omega), ?_, hb1⟩
      simpa using hn1
    · rw [if_neg (by omega)]
      obtain ⟨W, hr, hW, hch⟩ := copy_into hn1 (l := (B.drop a).take n) (x := ⟨g, a, none⟩) (fun i hi => by
        rw [hlt] at hi
        rw [addr_add, m1.bc _ (by omega), getD_take' _ _ _ _ hi, getD_drop']) 0 n (B.length - a) n hlt (by show min _ _ = _; omega) (by simp)
      rw [splice_all _ _ (by simp; omega)] at hW
      exact ⟨W, fun ty c => hr ty n c, hW, hch.below hb1 hb1.size (Nat.le_refl _) (Nat.le_refl _)⟩
  clear hlt hn1 m1 m
  obtain ⟨W, hr, hW, hbW⟩ := hR
  have HW := Lib.hid hW; clear hW
  have HB := Lib.hid hbW; clear hbW hb1
  generalize B.length = L at *
  by_cases hq : L = a
  · rw [if_pos hq] at hr
    subst hq
    rw [Nat.sub_self] at hr
    clear hfit
    go_enter Try.func19, Try.ntmps19
    go_wp2_with fail
    refine C.out.mono ?_; rintro e w' ⟨rfl, rfl⟩
    go_wp2
    go_ret2
    exact ⟨rfl, HW.out, HB.out⟩
  · rw [if_neg hq] at hr
    go_enter Try.func19, Try.ntmps19
    go_wp2_with fail
    refine C.out.mono ?_; rintro e w' ⟨rfl, rfl⟩
    go_wp2
    go_ret2
    exact ⟨rfl, HW.out, HB.out⟩
end Go.Proofs.Ytjcggpaiminecaa.Mm
