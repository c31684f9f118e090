/- What Set of package mem answers. -/
import Derived.Test.YtjcggpaiminecaaMemPut
namespace Go.Proofs.Ytjcggpaiminecaa.Mm
open Go.ChangeShapes Go.WideShapes Go.ChangeAt Go.RowKit
set_option linter.unusedVariables false

theorem set_nil (a n : Int) (is : Bool) (w : World) : Calls Try.prog 10 #[.pointer none, .int .i64 a, .int .i64 n, .bool is] w fun e w' => e = .returned (.int .i64 1) ∧ w = w' := by
  go_enter Try.func10, Try.ntmps10
  go_wp2_with (go_at_call 27; refine (lies_nil _ _ _).mono ?_; rintro e w' ⟨rfl, rfl⟩)
  all_goals (go_ret; exact ⟨rfl, rfl⟩)

def setB (L : Nat) (a n : Int) : Bool := liesB L a n && (decide (a % 64 = 0) && decide (n % 64 = 0))

theorem set_no {w : World} {p g h : Nat} {B : List Int} {T : List Bool} (m : MemAt w p g h B T) (a n : Int) (is : Bool) (ha : a ≤ 9223372036854775807) (hs : setB B.length a n = false) :
    Calls Try.prog 10 #[.pointer (some ⟨p, 0, none⟩), .int .i64 a, .int .i64 n, .bool is] w fun e w' => e = .returned (.int .i64 1) ∧ w = w' := by
  have C := lies_any m a n ha
  have hl : B.length ≤ 65536 := by have := m.len; have := m.top; omega
  clear m
  by_cases hl : liesB B.length a n = false
  · rw [hl] at C
    have C := Lib.hid C; clear hl hs
    go_enter Try.func10, Try.ntmps10
    go_wp2_with (go_at_call 27; refine C.out.mono ?_; rintro e w' ⟨rfl, rfl⟩)
    all_goals (go_ret; exact ⟨rfl, rfl⟩)
  · have hl : liesB B.length a n = true := by simpa using hl
    obtain ⟨h1, h2, h3⟩ := (liesB_iff _ _ _).1 hl
    have h4 : ¬ a % 64 = 0 ∨ ¬ n % 64 = 0 := by
      unfold setB at hs
      rw [hl] at hs
      simp at hs
      omega
    rw [hl] at C
    have C := Lib.hid C; clear hl hs
    by_cases h5 : a % 64 = 0
    · have h6 : ¬ n % 64 = 0 := by omega
      clear h4
      go_enter Try.func10, Try.ntmps10
      go_wp2_with (go_at_call 27; refine C.out.mono ?_; rintro e w' ⟨rfl, rfl⟩)
      all_goals (go_ret; exact ⟨rfl, rfl⟩)
    · clear h4
      go_enter Try.func10, Try.ntmps10
      go_wp2_with (go_at_call 27; refine C.out.mono ?_; rintro e w' ⟨rfl, rfl⟩)
      all_goals (go_ret; exact ⟨rfl, rfl⟩)

theorem set_cells (b : Nat) : ∀ (vs : List Value) (o : Nat) (w : World) (cs : List Value) (t : TypeId), HasB w b t cs → o + vs.length ≤ cs.length → HasB (w.setCells b o vs) b t (splice cs o vs) ∧ Chg b b w (w.setCells b o vs)
  | [], o, w, cs, t, h, _ => by rw [splice_nil]; exact ⟨h, Chg.refl _ _ _⟩
  | v :: r, o, w, cs, t, h, hl => by
    have h1 : HasB (w.setCell ⟨b, o, none⟩ v) b t (cs.set o v) := by
      unfold HasB at h ⊢
      simp [World.setCell, Array.getElem?_modify, h]
    have c1 : Chg b b w (w.setCell ⟨b, o, none⟩ v) := ⟨rfl, rfl, rfl, by simp, fun k _ hk _ => Below.heap_setCell _ _ _ _ hk⟩
    have := set_cells b r (o + 1) _ _ t h1 (by simp at hl ⊢; omega)
    refine ⟨?_, c1.trans this.2⟩
    have e : splice cs o (v :: r) = splice (cs.set o v) (o + 1) r := by
      have hl' : o + (r.length + 1) ≤ cs.length := by simpa using hl
      unfold splice
      rw [← List.append_assoc, ← List.append_assoc]
      have := list_seg_step cs o v r hl'
      rw [List.length_cons, this]
    rw [e]
    exact this.1

/-- zones emptied -/
theorem clear_into {w : World} {g : Nat} {B : List Int} (hB : HasB w g 5 (B.map (Value.int .u8))) (a n : Nat) (hn : 0 < n) (hfit : a + n ≤ B.length) :
    ∃ W, (∀ ty c, (Builtin.clear_ #[30] ty #[.slice (some ⟨g, a, none⟩) n c]).run Try.prog w = .ok (.tuple #[]) W) ∧ HasB W g 5 ((splice B a (List.replicate n 0)).map (Value.int .u8)) ∧ Chg g g w W := by
  have hc := set_cells g (List.replicate n (Value.int .u8 0)) a w _ _ hB (by simpa using hfit)
  refine ⟨_, fun ty c => Lib.run_clear_slice (P := Try.prog) w _ 5 ty (.int .u8 0) Try.underlying30 (fun w => by kernel_rfl) rfl rfl g a n c hn (fun j hj => ?_) (fun j hj => hB.frozen _), ?_, hc.2⟩
  · rw [hB.cell]
    simp
    omega
  · rw [← splice_map, List.map_replicate]
    exact hc.1
theorem clear_none (w : World) (A : Option Addr) (c : Nat) (ty : TypeId) : (Builtin.clear_ #[30] ty #[.slice A 0 c]).run Try.prog w = .ok (.tuple #[]) w := by
  cases A <;> simp [Builtin.clear_, run_underlying Try.underlying30]

/-- the world, where k zones are set -/
def SetRel (W : World) (h : Nat) (T : List Bool) (z n : Nat) (is : Bool) (i : Value) (w' : World) : Prop :=
  ∃ k : Nat, k ≤ n ∧ i = .int .i64 k ∧ HasB w' h 4 ((splice T z (List.replicate k is)).map Value.bool) ∧ Chg h h W w'
theorem setRel_step {W wr : World} {h : Nat} {T : List Bool} {z n k : Nat} {is : Bool} (hk : k < n) (hfit : z + n ≤ T.length) (hB : HasB wr h 4 ((splice T z (List.replicate k is)).map Value.bool)) (hc : Chg h h W wr) :
    SetRel W h T z n is (.int .i64 ((k : Int) + 1)) (wr.setCell ⟨h, z + k, none⟩ (.bool is)) := by
  refine ⟨k + 1, hk, by simp, ?_, hc.trans ⟨rfl, rfl, rfl, by simp, fun j _ hj _ => Below.heap_setCell _ _ _ _ hj⟩⟩
  rw [← splice_snoc _ _ _ _ (by omega), List.map_set]
  unfold HasB at hB ⊢
  simp [World.setCell, Array.getElem?_modify, hB]

theorem set_pos {w : World} {p g h : Nat} {B : List Int} {T : List Bool} (m : MemAt w p g h B T) (a n z k : Nat) (is : Bool) (ha : a = 64 * z) (hn : n = 64 * k) (hk : 0 < k) (hfit : z + k ≤ T.length) :
    Calls Try.prog 10 #[.pointer (some ⟨p, 0, none⟩), .int .i64 a, .int .i64 n, .bool is] w fun e w' => e = .returned (.int .i64 0) ∧ MemAt w' p g h (splice B a (List.replicate n 0)) (splice T z (List.replicate k is)) ∧ Chg g h w w' := by
  have hlen := m.len
  have htop := m.top
  have C := lies_any m a n (by omega)
  rw [(liesB_iff _ _ _).2 (by omega)] at C
  have C := Lib.hid C
  obtain ⟨W, hr, hW, hch⟩ := clear_into m.bytes a n (by omega) (by omega)
  have hr' : ∀ ty c, (Builtin.clear_ #[30] ty #[.slice (some ⟨g, a, none⟩) (a + n - a) c]).run Try.prog w = .ok (.tuple #[]) W := by rw [show a + n - a = n by omega]; exact hr
  have c0 := m.c0
  have own := m.own.chg hch m.pg m.pg
  have zon := m.zones.chg hch m.gh.symm m.gh.symm
  have c1 := own.cell 1
  simp only [List.getElem?_cons_succ, List.getElem?_cons_zero] at c1
  have M := Lib.hid m
  have HW := Lib.hid hW
  have HC := Lib.hid hch
  have ZN := Lib.hid zon
  clear hW hch own zon
  have a1 : (a : Int) % 64 = 0 := by omega
  have a2 : (n : Int) % 64 = 0 := by omega
  have a3 : (a : Int) / 64 = (z : Int) := by omega
  have a4 : ((a : Int) + (n : Int)) / 64 = (z : Int) + (k : Int) := by omega
  have a5 : a ≤ a + n := by omega
  have a6 : a + n ≤ B.length := by omega
  have a7 : B.length ≤ 65536 := by omega
  have a8 : ¬ B.length = a := by omega
  have a9 : ¬ T.length = z := by omega
  have HA := Lib.hid ha
  have HN := Lib.hid hn
  clear ha hn hlen m
  obtain ⟨L, hL⟩ : ∃ L, B.length = L := ⟨_, rfl⟩
  obtain ⟨Z, hZ⟩ : ∃ L, T.length = L := ⟨_, rfl⟩
  rw [hL] at c0 a6 a7 a8
  rw [hZ] at c1 htop hfit a9
  have HL := Lib.hid hL
  have HZ := Lib.hid hZ
  clear hL hZ
  go_enter Try.func10, Try.ntmps10
  go_wp2_with (go_at_call 27; refine C.out.mono ?_; rintro e w' ⟨rfl, rfl⟩)
  rw [show z + k - z = k by omega]
  clear a1 a2 a3 a4 hr hr' c0 c1 C
  go_loopw [48] (fun i w' => SetRel W h T z k is i w') (fun i _ => k - (intOf i).toNat)
  case atStart => exact ⟨0, Nat.zero_le _, rfl, by rw [List.replicate_zero, splice_nil]; exact ZN.out, Chg.refl _ _ _⟩
  case round =>
    obtain ⟨j, hj, rfl, hB, hc⟩ := hrel
    have HB := Lib.hid hB
    have HJ := Lib.hid hc
    by_cases hlt : j < k
    · have hl : (splice T z (List.replicate j is)).length = Z := by rw [splice_len _ _ _ (by simp [HZ.out]; omega), HZ.out]
      obtain ⟨cv, cj⟩ : ∃ cv, wr.cell? ⟨h, z + j, none⟩ = some cv := ⟨_, by rw [hB.cell (z + j), List.getElem?_map, List.getElem?_eq_getElem (by omega), Option.map_some]⟩
      have fj := hB.frozen (z + j)
      clear hB hc hl
      go_wp2
      go_roundw
      case rel => exact setRel_step hlt (by rw [HZ.out]; exact hfit) HB.out HJ.out
      case measure => simp [intOf]; omega
    · have hjk : j = k := by omega
      subst hjk
      clear hB hc
      go_wp2
      go_ret
      refine ⟨rfl, ⟨?_, ?_, HB.out, ?_, ?_, ?_, splice_byte M.out.byte (rep_byte _) _⟩, ?_⟩
      · rw [splice_len _ _ _ (by simp [HL.out]; omega), splice_len _ _ _ (by simp [HZ.out]; omega)]
        exact (M.out.own.chg HC.out M.out.pg M.out.pg).chg HJ.out M.out.ph M.out.ph
      · exact HW.out.chg HJ.out M.out.gh M.out.gh
      · rw [splice_len _ _ _ (by simp [HL.out]; omega), splice_len _ _ _ (by simp [HZ.out]; omega)]
        exact M.out.len
      · rw [splice_len _ _ _ (by simp [HZ.out]; omega)]
        exact M.out.pos
      · rw [splice_len _ _ _ (by simp [HZ.out]; omega)]
        exact M.out.top
      · exact ⟨HJ.out.os.trans HC.out.os, HJ.out.tape.trans HC.out.tape, HJ.out.output.trans HC.out.output, Nat.le_trans HC.out.size HJ.out.size, fun q hq h1 h2 => (HJ.out.block q (Nat.lt_of_lt_of_le hq HC.out.size) h2 h2).trans (HC.out.block q hq h1 h1)⟩

theorem set_zero {w : World} {p g h : Nat} {B : List Int} {T : List Bool} (m : MemAt w p g h B T) (a z : Nat) (is : Bool) (ha : a = 64 * z) (hfit : z ≤ T.length) :
    Calls Try.prog 10 #[.pointer (some ⟨p, 0, none⟩), .int .i64 a, .int .i64 0, .bool is] w fun e w' => e = .returned (.int .i64 0) ∧ w = w' := by
  have hlen := m.len
  have htop := m.top
  have C := lies_any m a 0 (by omega)
  rw [(liesB_iff _ _ _).2 (by omega)] at C
  have C := Lib.hid C
  have c0 := m.c0
  have c1 := m.c1
  have a1 : (a : Int) % 64 = 0 := by omega
  have a3 : (a : Int) / 64 = (z : Int) := by omega
  have a6 : a ≤ B.length := by omega
  have a7 : B.length ≤ 65536 := by omega
  have a8 : B.length = a ↔ T.length = z := by omega
  have A8 := Lib.hid a8
  clear ha hlen m a8
  have hr := clear_none w
  generalize B.length = L at *
  generalize T.length = Z at *
  by_cases hz : Z = z
  · obtain rfl := A8.out.2 hz
    subst hz
    go_enter Try.func10, Try.ntmps10
    go_wp2_with (go_at_call 27; refine C.out.mono ?_; rintro e w' ⟨rfl, rfl⟩)
    go_loop [48] (fun i => i = .int .i64 0) (fun _ => 0)
    case atStart => rfl
    case round =>
      subst hrel
      go_wp2
      go_ret
      exact ⟨rfl, rfl⟩
  · have hz' : ¬ L = a := fun e => hz (A8.out.1 e)
    go_enter Try.func10, Try.ntmps10
    go_wp2_with (go_at_call 27; refine C.out.mono ?_; rintro e w' ⟨rfl, rfl⟩)
    go_loop [48] (fun i => i = .int .i64 0) (fun _ => 0)
    case atStart => rfl
    case round =>
      subst hrel
      go_wp2
      go_ret
      exact ⟨rfl, rfl⟩

theorem setB_iff (L : Nat) (a n : Int) : setB L a n = true ↔ (0 ≤ a ∧ 0 ≤ n ∧ n ≤ (L : Int) - a) ∧ a % 64 = 0 ∧ n % 64 = 0 := by
  unfold setB
  rw [Bool.and_eq_true, Bool.and_eq_true, liesB_iff, decide_eq_true_iff, decide_eq_true_iff]

/-- Set, where it may be -/
theorem set_any {w : World} {p g h : Nat} {B : List Int} {T : List Bool} (m : MemAt w p g h B T) (a n : Int) (is : Bool) (hs : setB B.length a n = true) :
    Calls Try.prog 10 #[.pointer (some ⟨p, 0, none⟩), .int .i64 a, .int .i64 n, .bool is] w fun e w' => e = .returned (.int .i64 0) ∧ MemAt w' p g h (splice B a.toNat (List.replicate n.toNat 0)) (splice T (a / 64).toNat (List.replicate (n / 64).toNat is)) ∧ Chg g h w w' := by
  obtain ⟨⟨h1, h2, h3⟩, h4, h5⟩ := (setB_iff _ _ _).1 hs
  obtain ⟨b, rfl⟩ : ∃ k : Nat, a = k := ⟨a.toNat, by omega⟩
  obtain ⟨k, rfl⟩ : ∃ k : Nat, n = k := ⟨n.toNat, by omega⟩
  have hl := m.len
  rw [Int.toNat_natCast, Int.toNat_natCast, show ((b : Int) / 64).toNat = b / 64 by omega, show ((k : Int) / 64).toNat = k / 64 by omega]
  by_cases h0 : k = 0
  · subst h0
    refine (set_zero m b (b / 64) is (by omega) (by omega)).mono ?_
    rintro e w' ⟨rfl, rfl⟩
    refine ⟨rfl, ?_, Chg.refl _ _ _⟩
    simpa [splice_nil] using m
  · exact set_pos m b k (b / 64) (k / 64) is (by omega) (by omega) (by omega) (by omega)
end Go.Proofs.Ytjcggpaiminecaa.Mm
