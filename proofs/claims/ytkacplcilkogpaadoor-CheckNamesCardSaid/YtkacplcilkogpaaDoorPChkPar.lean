/- The parameters of stage 17's statements: declarations and uses, as the document has them; bytes. -/
import Derived.Test.YtkacplcilkogpaaDoorPChkMath
import Derived.Test.YtkacplcilkogpaaDoorPBaM
import Derived.Deep.Slices
import Derived.Deep.Fields
import Derived.MakeChecks
namespace Go.Proofs.YtkacplcilkogpaaDoor.Mm
open Go.ChangeShapes Go.WideShapes Go.ChangeAt Go.RowKit
set_option linter.unusedVariables false
set_option linter.unusedSimpArgs false

def us0 : Bool × Bs := (false, [])
def dz0 : Dc := ([], 0)
def DcsAt (w : World) (A : Option Addr) (cap : Nat) (D : List Dc) : Prop := D.length ≤ cap ∧ cap ≤ maxLen ∧ (0 < D.length → ∃ x, A = some x ∧ x.block < w.heap.size ∧ ∀ i, i < D.length →
  w.cell? (x.add (i * 2)) = some (.string (strB (D.getD i dz0).1)) ∧ w.cell? ⟨(x.add (i * 2)).block, (x.add (i * 2)).off + 1, none⟩ = some (.int .i64 (D.getD i dz0).2))
def UssAt (w : World) (A : Option Addr) (cap : Nat) (U : List (Bool × Bs)) : Prop := U.length ≤ cap ∧ cap ≤ maxLen ∧ (0 < U.length → ∃ x, A = some x ∧ x.block < w.heap.size ∧ ∀ i, i < U.length →
  w.cell? (x.add (i * 2)) = some (.string (strB (U.getD i us0).2)) ∧ w.cell? ⟨(x.add (i * 2)).block, (x.add (i * 2)).off + 1, none⟩ = some (.bool (U.getD i us0).1))
theorem DcsAt.below {w w' : World} {A : Option Addr} {cap : Nat} {D : List Dc} (h : DcsAt w A cap D) (b : Below w.heap.size w w') : DcsAt w' A cap D := by
  obtain ⟨h1, h2, h3⟩ := h
  refine ⟨h1, h2, fun hn => ?_⟩
  obtain ⟨x, hx, hb, hc⟩ := h3 hn
  refine ⟨x, hx, Nat.lt_of_lt_of_le hb b.size, fun i hi => ⟨?_, ?_⟩⟩
  · exact (b.cell (by rw [block_add]; exact hb)).trans (hc i hi).1
  · exact (b.cell (p := ⟨(x.add (i * 2)).block, (x.add (i * 2)).off + 1, none⟩) (by show (x.add (i * 2)).block < _; rw [block_add]; exact hb)).trans (hc i hi).2
theorem UssAt.below {w w' : World} {A : Option Addr} {cap : Nat} {U : List (Bool × Bs)} (h : UssAt w A cap U) (b : Below w.heap.size w w') : UssAt w' A cap U := by
  obtain ⟨h1, h2, h3⟩ := h
  refine ⟨h1, h2, fun hn => ?_⟩
  obtain ⟨x, hx, hb, hc⟩ := h3 hn
  refine ⟨x, hx, Nat.lt_of_lt_of_le hb b.size, fun i hi => ⟨?_, ?_⟩⟩
  · exact (b.cell (by rw [block_add]; exact hb)).trans (hc i hi).1
  · exact (b.cell (p := ⟨(x.add (i * 2)).block, (x.add (i * 2)).off + 1, none⟩) (by show (x.add (i * 2)).block < _; rw [block_add]; exact hb)).trans (hc i hi).2
theorem strB_list (s : ByteArray) : strB s.data.toList = s := by simp [strB]
/-- a list out of what stands at each place -/
theorem list_of {α : Type} (z : α) (n : Nat) (P : Nat → α → Prop) (h : ∀ i, i < n → ∃ a, P i a) : ∃ L : List α, L.length = n ∧ ∀ i, i < n → P i (L.getD i z) := by
  induction n with
  | zero => exact ⟨[], rfl, fun i hi => absurd hi (Nat.not_lt_zero _)⟩
  | succ n ih =>
    obtain ⟨L, hl, hL⟩ := ih (fun i hi => h i (by omega))
    obtain ⟨a, ha⟩ := h n (by omega)
    refine ⟨L ++ [a], by simp [hl], fun i hi => ?_⟩
    rcases Nat.lt_or_ge i n with h1 | h1
    · have := hL i h1
      rwa [List.getD_eq_getElem?_getD, List.getElem?_append_left (by omega), ← List.getD_eq_getElem?_getD]
    · obtain rfl : i = n := by omega
      rw [List.getD_eq_getElem?_getD, List.getElem?_append_right (by omega), hl]
      simpa using ha
set_option maxRecDepth 100000 in
theorem dcs_of {H : Type} {enc : TypeId × Value → H} {w : World} {base : Nat} {spare : Nat → Bool} {held : Bool} {a : Option Addr} {len cap : Nat} {d : DataW H} {ps : List MemPlace}
    (h : DataW.Trod enc Tryd.prog w base spare held 22 (.slice a len cap) d ps) : ∃ D : List Dc, len = D.length ∧ DcsAt w a cap D := by
  obtain ⟨fuel, hf⟩ := h
  have hC : Tryd.prog.cellsOf 30 = 2 := by kernel_rfl
  have k9 : Tryd.prog.cellsOf 9 = 1 := by kernel_rfl
  have k3 : Tryd.prog.cellsOf 3 = 1 := by kernel_rfl
  rcases Go.Deep.open_slice Tryd.underlying22 hf with ⟨hcs, _⟩ | ⟨x, len', cap', m, n, D, Pl, hcs, hb, hl, hm, hmm, _, hi⟩
  · simp [Value.cells] at hcs
    obtain ⟨rfl, rfl, rfl⟩ := hcs
    exact ⟨[], rfl, Nat.le_refl _, Nat.zero_le _, fun h => absurd h (Nat.not_lt_zero _)⟩
  · simp [Value.cells] at hcs
    obtain ⟨rfl, rfl, rfl⟩ := hcs
    have hlm : len ≤ m := by rw [hmm]; split <;> omega
    rw [hC] at hi
    have key : ∀ i, i < len → ∃ t : Dc, w.cell? (x.add (i * 2)) = some (.string (strB t.1)) ∧ w.cell? ⟨(x.add (i * 2)).block, (x.add (i * 2)).off + 1, none⟩ = some (.int .i64 t.2) := by
      intro i hil
      obtain ⟨cs', hc, ht⟩ := hi i (by omega)
      obtain ⟨_, hcl, hat⟩ := World.cells?_some hc
      obtain ⟨xs, n', _, _, _, _, hfs⟩ := DataW.trod_struct Tryd.underlying30 ht
      match cs', hcl with
      | [y0, y1], _ =>
        have f0 : DataW.trod enc Tryd.prog w base spare held n' 9 (([y0, y1].drop 0).take (Tryd.prog.cellsOf 9)) = xs[0]? := hfs 0 _ rfl
        have f1 : DataW.trod enc Tryd.prog w base spare held n' 3 (([y0, y1].drop 1).take (Tryd.prog.cellsOf 3)) = xs[1]? := hfs 1 _ rfl
        simp only [k9, k3, List.drop_zero, List.drop_succ_cons, List.take_succ_cons, List.take_zero] at f0 f1
        have some_of : ∀ j, j < 2 → ∃ y, xs[j]? = some y := fun j hj => ⟨xs[j]'(by simp_all), List.getElem?_eq_getElem _⟩
        obtain ⟨r0, q0⟩ := some_of 0 (by decide)
        obtain ⟨r1, q1⟩ := some_of 1 (by decide)
        obtain ⟨v0, e0, _, _⟩ := DataW.trod_string Tryd.underlying9 (f0.trans q0)
        obtain ⟨v1, e1, _, _⟩ := DataW.trod_int Tryd.underlying3 (f1.trans q1)
        simp only [List.cons.injEq, and_true] at e0 e1
        subst e0 e1
        have h0 := hat 0 (by decide)
        have h1 := hat 1 (by decide)
        simp only [List.getElem?_cons_succ, List.getElem?_cons_zero] at h0 h1
        have ad : ∀ n, (x.add (i * 2)).add (n + 1) = ⟨(x.add (i * 2)).block, (x.add (i * 2)).off + (n + 1), none⟩ := fun n => by generalize x.add (i * 2) = y; unfold Addr.add; simp
        rw [ad 0] at h1
        have e00 : (x.add (i * 2)).add 0 = x.add (i * 2) := by simp [Addr.add]
        rw [e00] at h0
        exact ⟨(v0.data.toList, v1), by simp only [strB_list]; exact h0, h1⟩
    obtain ⟨L, hL, hk⟩ := list_of dz0 len _ key
    subst hL
    refine ⟨L, rfl, hl, hm, fun hn => ⟨x, rfl, ?_, hk⟩⟩
    have := block_of_cell (hk 0 hn).1
    rwa [block_add] at this
set_option maxRecDepth 100000 in
theorem uss_of {H : Type} {enc : TypeId × Value → H} {w : World} {base : Nat} {spare : Nat → Bool} {held : Bool} {a : Option Addr} {len cap : Nat} {d : DataW H} {ps : List MemPlace}
    (h : DataW.Trod enc Tryd.prog w base spare held 23 (.slice a len cap) d ps) : ∃ U : List (Bool × Bs), len = U.length ∧ UssAt w a cap U := by
  obtain ⟨fuel, hf⟩ := h
  have hC : Tryd.prog.cellsOf 33 = 2 := by kernel_rfl
  have k9 : Tryd.prog.cellsOf 9 = 1 := by kernel_rfl
  have k4 : Tryd.prog.cellsOf 4 = 1 := by kernel_rfl
  rcases Go.Deep.open_slice Tryd.underlying23 hf with ⟨hcs, _⟩ | ⟨x, len', cap', m, n, D, Pl, hcs, hb, hl, hm, hmm, _, hi⟩
  · simp [Value.cells] at hcs
    obtain ⟨rfl, rfl, rfl⟩ := hcs
    exact ⟨[], rfl, Nat.le_refl _, Nat.zero_le _, fun h => absurd h (Nat.not_lt_zero _)⟩
  · simp [Value.cells] at hcs
    obtain ⟨rfl, rfl, rfl⟩ := hcs
    have hlm : len ≤ m := by rw [hmm]; split <;> omega
    rw [hC] at hi
    have key : ∀ i, i < len → ∃ t : Bool × Bs, w.cell? (x.add (i * 2)) = some (.string (strB t.2)) ∧ w.cell? ⟨(x.add (i * 2)).block, (x.add (i * 2)).off + 1, none⟩ = some (.bool t.1) := by
      intro i hil
      obtain ⟨cs', hc, ht⟩ := hi i (by omega)
      obtain ⟨_, hcl, hat⟩ := World.cells?_some hc
      obtain ⟨xs, n', _, _, _, _, hfs⟩ := DataW.trod_struct Tryd.underlying33 ht
      match cs', hcl with
      | [y0, y1], _ =>
        have f0 : DataW.trod enc Tryd.prog w base spare held n' 9 (([y0, y1].drop 0).take (Tryd.prog.cellsOf 9)) = xs[0]? := hfs 0 _ rfl
        have f1 : DataW.trod enc Tryd.prog w base spare held n' 4 (([y0, y1].drop 1).take (Tryd.prog.cellsOf 4)) = xs[1]? := hfs 1 _ rfl
        simp only [k9, k4, List.drop_zero, List.drop_succ_cons, List.take_succ_cons, List.take_zero] at f0 f1
        have some_of : ∀ j, j < 2 → ∃ y, xs[j]? = some y := fun j hj => ⟨xs[j]'(by simp_all), List.getElem?_eq_getElem _⟩
        obtain ⟨r0, q0⟩ := some_of 0 (by decide)
        obtain ⟨r1, q1⟩ := some_of 1 (by decide)
        obtain ⟨v0, e0, _, _⟩ := DataW.trod_string Tryd.underlying9 (f0.trans q0)
        obtain ⟨v1, e1, _⟩ := DataW.trod_bool Tryd.underlying4 (f1.trans q1)
        simp only [List.cons.injEq, and_true] at e0 e1
        subst e0 e1
        have h0 := hat 0 (by decide)
        have h1 := hat 1 (by decide)
        simp only [List.getElem?_cons_succ, List.getElem?_cons_zero] at h0 h1
        have ad : ∀ n, (x.add (i * 2)).add (n + 1) = ⟨(x.add (i * 2)).block, (x.add (i * 2)).off + (n + 1), none⟩ := fun n => by generalize x.add (i * 2) = y; unfold Addr.add; simp
        rw [ad 0] at h1
        have e00 : (x.add (i * 2)).add 0 = x.add (i * 2) := by simp [Addr.add]
        rw [e00] at h0
        exact ⟨(v1, v0.data.toList), by simp only [strB_list]; exact h0, h1⟩
    obtain ⟨L, hL, hk⟩ := list_of us0 len _ key
    subst hL
    refine ⟨L, rfl, hl, hm, fun hn => ⟨x, rfl, ?_, hk⟩⟩
    have := block_of_cell (hk 0 hn).1
    rwa [block_add] at this
end Go.Proofs.YtkacplcilkogpaaDoor.Mm
