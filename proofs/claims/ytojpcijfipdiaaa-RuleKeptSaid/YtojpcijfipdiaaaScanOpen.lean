/- A row of instructions that a statement is given. -/
import Derived.Test.YtojpcijfipdiaaaScanRow
import Derived.Deep.Slices
import Derived.Deep.Fields
import Derived.ChangeSame
namespace Go.Proofs.Ytojpcijfipdiaaa.Mm
open Go.ChangeShapes Go.WideShapes Go.ChangeAt Go.RowKit
set_option linter.unusedVariables false

theorem u32_bd {n : Int} (h : (Lit.int .u32 n).wf = true) : 0 ≤ n ∧ n < 4294967296 := by
  have := bounds_u32 h
  omega
/-- one function of many choices -/
theorem row_made {w : World} {x : Addr} {len cap : Nat} (hl : len ≤ cap) (hm : cap ≤ maxLen) (key : ∀ i, i < len → ∃ t : InsV, t.Wf ∧ InsAt w (x.add (i * 4)) t) : ∃ l : List InsV, len = l.length ∧ InsRow w (some x) cap l := by
  classical
  obtain ⟨f, hf⟩ : ∃ f : Nat → InsV, ∀ i, i < len → (f i).Wf ∧ InsAt w (x.add (i * 4)) (f i) := by
    refine ⟨fun i => if h : i < len then Classical.choose (key i h) else insD, fun i hi => ?_⟩
    simp only [dif_pos hi]
    exact Classical.choose_spec (key i hi)
  refine ⟨(List.range len).map f, by simp, by simpa using hl, hm, fun y hy => ?_, fun hn => ⟨x, rfl, ?_, fun i hi => ?_⟩⟩
  · obtain ⟨i, hi, rfl⟩ := List.mem_map.1 hy
    exact (hf i (List.mem_range.1 hi)).1
  · have h0 : 0 < len := by
      rcases Nat.eq_zero_or_pos len with h | h
      · subst h; exact absurd rfl hn
      · exact h
    have := block_of_cell (hf 0 h0).2.c0
    rwa [block_add] at this
  · have hi' : i < len := by simpa using hi
    have e : ((List.range len).map f).getD i insD = f i := by simp [List.getD, hi']
    rw [e]
    exact (hf i hi').2

set_option maxRecDepth 100000 in
theorem insrow_of {H : Type} {enc : TypeId × Value → H} {w : World} {base : Nat} {spare : Nat → Bool} {held : Bool} {a : Option Addr} {len cap : Nat} {d : DataW H} {ps : List MemPlace}
    (h : DataW.Trod enc Try.prog w base spare held 33 (.slice a len cap) d ps) : ∃ l : List InsV, len = l.length ∧ InsRow w a cap l := by
  obtain ⟨fuel, hf⟩ := h
  have hC : Try.prog.cellsOf 36 = 4 := by kernel_rfl
  have k3 : Try.prog.cellsOf 3 = 1 := by kernel_rfl
  have k4 : Try.prog.cellsOf 34 = 1 := by kernel_rfl
  rcases Go.Deep.open_slice Try.underlying33 hf with ⟨hcs, _⟩ | ⟨x, len', cap', m, n, D, Pl, hcs, hb, hl, hm, hmm, _, hi⟩
  · simp [Value.cells] at hcs
    obtain ⟨rfl, rfl, rfl⟩ := hcs
    exact ⟨[], rfl, insRow_nil w⟩
  · simp [Value.cells] at hcs
    obtain ⟨rfl, rfl, rfl⟩ := hcs
    have hlm : len ≤ m := by rw [hmm]; split <;> omega
    rw [hC] at hi
    refine row_made hl hm (fun i hil => ?_)
    obtain ⟨cs', hc, ht⟩ := hi i (by omega)
    obtain ⟨_, hcl, hat⟩ := World.cells?_some hc
    obtain ⟨xs, n', _, _, _, _, hfs⟩ := DataW.trod_struct Try.underlying36 ht
    match cs', hcl with
    | [y0, y1, y2, y3], _ =>
      have f0 : DataW.trod enc Try.prog w base spare held n' 3 (([y0, y1, y2, y3].drop 0).take (Try.prog.cellsOf 3)) = xs[0]? := hfs 0 _ rfl
      have f1 : DataW.trod enc Try.prog w base spare held n' 3 (([y0, y1, y2, y3].drop 1).take (Try.prog.cellsOf 3)) = xs[1]? := hfs 1 _ rfl
      have f2 : DataW.trod enc Try.prog w base spare held n' 3 (([y0, y1, y2, y3].drop 2).take (Try.prog.cellsOf 3)) = xs[2]? := hfs 2 _ rfl
      have f3 : DataW.trod enc Try.prog w base spare held n' 34 (([y0, y1, y2, y3].drop 3).take (Try.prog.cellsOf 34)) = xs[3]? := hfs 3 _ rfl
      simp only [k3, k4, List.drop_zero, List.drop_succ_cons, List.take_succ_cons, List.take_zero] at f0 f1 f2 f3
      have some_of : ∀ j, j < 4 → ∃ y, xs[j]? = some y := fun j hj => ⟨xs[j]'(by simp_all), List.getElem?_eq_getElem _⟩
      obtain ⟨r0, q0⟩ := some_of 0 (by decide)
      obtain ⟨r1, q1⟩ := some_of 1 (by decide)
      obtain ⟨r2, q2⟩ := some_of 2 (by decide)
      obtain ⟨r3, q3⟩ := some_of 3 (by decide)
      obtain ⟨v0, e0, _, g0⟩ := DataW.trod_int Try.underlying3 (f0.trans q0)
      obtain ⟨v1, e1, _, g1⟩ := DataW.trod_int Try.underlying3 (f1.trans q1)
      obtain ⟨v2, e2, _, g2⟩ := DataW.trod_int Try.underlying3 (f2.trans q2)
      obtain ⟨v3, e3, _, g3⟩ := DataW.trod_int Try.underlying34 (f3.trans q3)
      simp only [List.cons.injEq, and_true] at e0 e1 e2 e3
      subst e0 e1 e2 e3
      have h0 := hat 0 (by decide)
      have h1 := hat 1 (by decide)
      have h2 := hat 2 (by decide)
      have h3 := hat 3 (by decide)
      simp only [List.getElem?_cons_succ, List.getElem?_cons_zero] at h0 h1 h2 h3
      have ad : ∀ n, (x.add (i * 4)).add (n + 1) = ⟨(x.add (i * 4)).block, (x.add (i * 4)).off + (n + 1), none⟩ := fun n => by generalize x.add (i * 4) = y; unfold Addr.add; simp
      rw [ad 0] at h1
      rw [ad 1] at h2
      rw [ad 2] at h3
      have e00 : (x.add (i * 4)).add 0 = x.add (i * 4) := by simp [Addr.add]
      rw [e00] at h0
      exact ⟨⟨v0, v1, v2, v3⟩, ⟨bounds_i64 g0, bounds_i64 g1, bounds_i64 g2, u32_bd g3⟩, ⟨h0, h1, h2, h3⟩⟩
end Go.Proofs.Ytojpcijfipdiaaa.Mm
