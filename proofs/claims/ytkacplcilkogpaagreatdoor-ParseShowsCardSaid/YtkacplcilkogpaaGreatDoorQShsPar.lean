/- A node that a statement is given. -/
import Derived.Test.YtkacplcilkogpaaGreatDoorQShC
import Derived.Deep.Slices
import Derived.Deep.Fields
import Derived.MakeChecks
namespace Go.Proofs.YtkacplcilkogpaaGreatDoor.Mm
open Go.ChangeShapes Go.WideShapes Go.ChangeAt Go.RowKit
set_option linter.unusedVariables false
set_option linter.unusedSimpArgs false

theorem list_ofS {α : Type} (z : α) (n : Nat) (P : Nat → α → Prop) (h : ∀ i, i < n → ∃ a, P i a) : ∃ L : List α, L.length = n ∧ ∀ i, i < n → P i (L.getD i z) := by
  induction n with
  | zero => exact ⟨[], rfl, fun i hi => absurd hi (Nat.not_lt_zero _)⟩
  | succ n ih =>
    obtain ⟨L, hl, hL⟩ := ih (fun i hi => h i (by omega))
    obtain ⟨a, ha⟩ := h n (by omega)
    refine ⟨L ++ [a], by simp [hl], fun i hi => ?_⟩
    rcases Nat.lt_or_ge i n with h1 | h1
    · have := hL i h1
      rwa [List.getD_eq_getElem?_getD, List.getElem?_append_left (by omega), ← List.getD_eq_getElem?_getD]
    · obtain rfl : i = n := by omega
      rw [List.getD_eq_getElem?_getD, List.getElem?_append_right (by omega), hl]
      simpa using ha
theorem strB_listS (s : ByteArray) : strB s.data.toList = s := by simp [strB]
/-- numbers that a statement is given -/
theorem ints_ofS {H : Type} {enc : TypeId × Value → H} {w : World} {base : Nat} {spare : Nat → Bool} {held : Bool} {fuel : Nat} {y : Value} {x : DataW H × List MemPlace}
    (hf : DataW.trod enc Tryz.prog w base spare held fuel 33 [y] = some x) : ∃ (l : List Int) (A : Option Addr) (cap : Nat), y = .slice A l.length cap ∧ ∀ j, j < l.length → ∃ z, A = some z ∧ w.cell? (z.add j) = some (.int .i64 (l.getD j 0)) := by
  have k3 : Tryz.prog.cellsOf 3 = 1 := by kernel_rfl
  obtain ⟨d, ps⟩ := x
  rcases Go.Deep.open_slice Tryz.underlying33 hf with ⟨hcs, _⟩ | ⟨z, len, cap, m, n, D, Pl, hcs, hb, hl, hm, hmm, _, hi⟩
  · simp only [List.cons.injEq, and_true] at hcs
    exact ⟨[], none, 0, hcs, fun j hj => absurd hj (Nat.not_lt_zero _)⟩
  · simp only [List.cons.injEq, and_true] at hcs
    have hlm : len ≤ m := by rw [hmm]; split <;> omega
    rw [k3] at hi
    have key : ∀ j, j < len → ∃ v : Int, w.cell? (z.add j) = some (.int .i64 v) := by
      intro j hj
      obtain ⟨cs', hc, ht⟩ := hi j (by omega)
      obtain ⟨_, hcl, hat⟩ := World.cells?_some hc
      match cs', hcl with
      | [y0], _ =>
        obtain ⟨v0, e0, _, _⟩ := DataW.trod_int Tryz.underlying3 ht
        simp only [List.cons.injEq, and_true] at e0
        subst e0
        have h0 := hat 0 (by decide)
        simp only [List.getElem?_cons_zero, Nat.mul_one] at h0
        have e00 : (z.add j).add 0 = z.add j := by simp [Addr.add]
        rw [e00] at h0
        exact ⟨v0, h0⟩
    obtain ⟨L, hL, hk⟩ := list_ofS 0 len _ key
    subst hL
    exact ⟨L, some z, cap, hcs, fun j hj => ⟨z, rfl, hk j hj⟩⟩
set_option maxRecDepth 100000 in
theorem nd_of {H : Type} {enc : TypeId × Value → H} {w : World} {r : Reach} {b0 base : Nat} {spare : Nat → Bool} {held : Bool} {v : Value} {d : DataW H} {ps : List MemPlace}
    (hv : Value.okWide Tryz.prog w r b0 35 v) (h : DataW.Trod enc Tryz.prog w base spare held 35 v d ps) : ∃ p : NdR × Value, v = ndA p.1 p.2 ∧ (LsW w p ∧ 0 ≤ p.1.v ∧ p.1.v ≤ 4294967295) := by
  have hC : Tryz.prog.cellsOf 35 = 7 := by kernel_rfl
  have kI : Tryz.prog.cellsOf 3 = 1 := by kernel_rfl
  have kS : Tryz.prog.cellsOf 9 = 1 := by kernel_rfl
  have kU : Tryz.prog.cellsOf 32 = 1 := by kernel_rfl
  have kL : Tryz.prog.cellsOf 33 = 1 := by kernel_rfl
  obtain ⟨cs, rfl, hsz⟩ := okWide_struct Tryz.underlying35 hv
  rw [hC] at hsz
  obtain ⟨l⟩ := cs
  obtain ⟨fuel, hf⟩ := h
  obtain ⟨xs, n, _, hx, _, hlen, hg⟩ := DataW.trod_struct Tryz.underlying35 hf
  match l, hsz with
  | [y0, y1, y2, y3, y4, y5, y6], _ =>
    have f0 : DataW.trod enc Tryz.prog w base spare held n 3 (([y0, y1, y2, y3, y4, y5, y6].drop 0).take (Tryz.prog.cellsOf 3)) = xs[0]? := hg 0 _ rfl
    have f1 : DataW.trod enc Tryz.prog w base spare held n 3 (([y0, y1, y2, y3, y4, y5, y6].drop 1).take (Tryz.prog.cellsOf 3)) = xs[1]? := hg 1 _ rfl
    have f2 : DataW.trod enc Tryz.prog w base spare held n 3 (([y0, y1, y2, y3, y4, y5, y6].drop 2).take (Tryz.prog.cellsOf 3)) = xs[2]? := hg 2 _ rfl
    have f3 : DataW.trod enc Tryz.prog w base spare held n 3 (([y0, y1, y2, y3, y4, y5, y6].drop 3).take (Tryz.prog.cellsOf 3)) = xs[3]? := hg 3 _ rfl
    have f4 : DataW.trod enc Tryz.prog w base spare held n 9 (([y0, y1, y2, y3, y4, y5, y6].drop 4).take (Tryz.prog.cellsOf 9)) = xs[4]? := hg 4 _ rfl
    have f5 : DataW.trod enc Tryz.prog w base spare held n 32 (([y0, y1, y2, y3, y4, y5, y6].drop 5).take (Tryz.prog.cellsOf 32)) = xs[5]? := hg 5 _ rfl
    have f6 : DataW.trod enc Tryz.prog w base spare held n 33 (([y0, y1, y2, y3, y4, y5, y6].drop 6).take (Tryz.prog.cellsOf 33)) = xs[6]? := hg 6 _ rfl
    simp only [kI, kS, kU, kL, List.drop_zero, List.drop_succ_cons, List.take_succ_cons, List.take_zero] at f0 f1 f2 f3 f4 f5 f6
    have hx7 : xs.length = 7 := hlen
    have some_of : ∀ j, j < 7 → ∃ y, xs[j]? = some y := fun j hj => ⟨xs[j]'(by omega), List.getElem?_eq_getElem _⟩
    obtain ⟨q0, e0⟩ := some_of 0 (by decide)
    obtain ⟨q1, e1⟩ := some_of 1 (by decide)
    obtain ⟨q2, e2⟩ := some_of 2 (by decide)
    obtain ⟨q3, e3⟩ := some_of 3 (by decide)
    obtain ⟨q4, e4⟩ := some_of 4 (by decide)
    obtain ⟨q5, e5⟩ := some_of 5 (by decide)
    obtain ⟨q6, e6⟩ := some_of 6 (by decide)
    obtain ⟨v0, p0, _, _⟩ := DataW.trod_int Tryz.underlying3 (f0.trans e0)
    obtain ⟨v1, p1, _, _⟩ := DataW.trod_int Tryz.underlying3 (f1.trans e1)
    obtain ⟨v2, p2, _, _⟩ := DataW.trod_int Tryz.underlying3 (f2.trans e2)
    obtain ⟨v3, p3, _, _⟩ := DataW.trod_int Tryz.underlying3 (f3.trans e3)
    obtain ⟨v4, p4, _, _⟩ := DataW.trod_string Tryz.underlying9 (f4.trans e4)
    obtain ⟨v5, p5, _, g5⟩ := DataW.trod_int Tryz.underlying32 (f5.trans e5)
    obtain ⟨L, A, cap, p6, hcell⟩ := ints_ofS (f6.trans e6)
    simp only [List.cons.injEq, and_true] at p0 p1 p2 p3 p4 p5
    subst p0 p1 p2 p3 p4 p5 p6
    have hb := bounds_u32 g5
    refine ⟨(⟨v0, v1, v2, v3, v4.data.toList, v5, L⟩, .slice A L.length cap), ?_, ⟨A, cap, rfl, hcell⟩, hb.1, by simp only; omega⟩
    unfold ndA ndC
    simp only [strB_listS]
end Go.Proofs.YtkacplcilkogpaaGreatDoor.Mm
