/- A processor handed over by value, opened. -/
import Derived.Test.YtjfhoaahohinhaaBaM
import Derived.Test.YtjfhoaahohinhaaStA
import Derived.OpenShut
import Derived.ChangeArms
import Derived.ProofKit
import Derived.WideShapes
namespace Go.Proofs.Ytjfhoaahohinhaa.Mm
open Go.ChangeShapes Go.WideShapes Go.ChangeAt Go.RowKit
set_option linter.unusedVariables false
set_option maxRecDepth 10000

set_option maxRecDepth 100000 in
theorem cpu_of {H : Type} {enc : TypeId × Value → H} {w : World} {r : Reach} {b0 base : Nat} {spare : Nat → Bool} {held : Bool} {v : Value} {d : DataW H} {ps : List MemPlace}
    (hv : Value.okWide Try.prog w r b0 25 v) (h : DataW.Trod enc Try.prog w base spare held 25 v d ps) : ∃ c : Cp, v = c.val ∧ c.Ok := by
  have hC : Try.prog.cellsOf 25 = 11 := by kernel_rfl
  have hA : Try.prog.cellsOf 23 = 8 := by kernel_rfl
  have hU : Try.prog.cellsOf 22 = 1 := by kernel_rfl
  obtain ⟨cs, rfl, hsz⟩ := okWide_struct Try.underlying25 hv
  rw [hC] at hsz
  obtain ⟨l⟩ := cs
  obtain ⟨fuel, hf⟩ := h
  obtain ⟨xs, n, _, hx, _, hlen, hg⟩ := DataW.trod_struct Try.underlying25 hf
  match l, hsz with
  | [y0, y1, y2, y3, y4, y5, y6, y7, y8, y9, y10], _ =>
    have f0 : DataW.trod enc Try.prog w base spare held n 22 (([y0, y1, y2, y3, y4, y5, y6, y7, y8, y9, y10].drop 0).take (Try.prog.cellsOf 22)) = xs[0]? := hg 0 _ rfl
    have f1 : DataW.trod enc Try.prog w base spare held n 23 (([y0, y1, y2, y3, y4, y5, y6, y7, y8, y9, y10].drop 1).take (Try.prog.cellsOf 23)) = xs[1]? := hg 1 _ rfl
    have f2 : DataW.trod enc Try.prog w base spare held n 22 (([y0, y1, y2, y3, y4, y5, y6, y7, y8, y9, y10].drop 9).take (Try.prog.cellsOf 22)) = xs[2]? := hg 2 _ rfl
    have f3 : DataW.trod enc Try.prog w base spare held n 22 (([y0, y1, y2, y3, y4, y5, y6, y7, y8, y9, y10].drop 10).take (Try.prog.cellsOf 22)) = xs[3]? := hg 3 _ rfl
    simp only [hA, hU, List.drop_zero, List.drop_succ_cons, List.take_succ_cons, List.take_zero] at f0 f1 f2 f3
    have hx4 : xs.length = 4 := hlen
    have some_of : ∀ j, j < 4 → ∃ y, xs[j]? = some y := fun j hj => ⟨xs[j]'(by omega), List.getElem?_eq_getElem _⟩
    obtain ⟨q0, e0⟩ := some_of 0 (by decide)
    obtain ⟨q1, e1⟩ := some_of 1 (by decide)
    obtain ⟨q2, e2⟩ := some_of 2 (by decide)
    obtain ⟨q3, e3⟩ := some_of 3 (by decide)
    obtain ⟨pc, p0, _, g0⟩ := DataW.trod_int Try.underlying22 (f0.trans e0)
    obtain ⟨b, p2, _, g2⟩ := DataW.trod_int Try.underlying22 (f2.trans e2)
    obtain ⟨s, p3, _, g3⟩ := DataW.trod_int Try.underlying22 (f3.trans e3)
    obtain ⟨zs, m, _, _, _, hl8, ha⟩ := DataW.trod_array Try.underlying23 (f1.trans e1)
    have some8 : ∀ j, j < 8 → ∃ y, zs[j]? = some y := fun j hj => ⟨zs[j]'(by omega), List.getElem?_eq_getElem _⟩
    have reg : ∀ (j : Nat) (y : Value), j < 8 → ([y1, y2, y3, y4, y5, y6, y7, y8].drop j).take 1 = [y] → ∃ k : Int, y = .int .u32 k ∧ U32 k := by
      intro j y hj hy
      obtain ⟨q, hq⟩ := some8 j hj
      have := ha j hj
      rw [hU, Nat.mul_one, hy] at this
      obtain ⟨k, p, _, g⟩ := DataW.trod_int Try.underlying22 (this.trans hq)
      simp only [List.cons.injEq, and_true] at p
      exact ⟨k, p, by have := bounds_u32 g; exact ⟨this.1, by omega⟩⟩
    obtain ⟨r0, rfl, z0⟩ := reg 0 y1 (by decide) rfl
    obtain ⟨r1, rfl, z1⟩ := reg 1 y2 (by decide) rfl
    obtain ⟨r2, rfl, z2⟩ := reg 2 y3 (by decide) rfl
    obtain ⟨r3, rfl, z3⟩ := reg 3 y4 (by decide) rfl
    obtain ⟨r4, rfl, z4⟩ := reg 4 y5 (by decide) rfl
    obtain ⟨r5, rfl, z5⟩ := reg 5 y6 (by decide) rfl
    obtain ⟨r6, rfl, z6⟩ := reg 6 y7 (by decide) rfl
    obtain ⟨r7, rfl, z7⟩ := reg 7 y8 (by decide) rfl
    simp only [List.cons.injEq, and_true] at p0 p2 p3
    subst p0 p2 p3
    have u0 := bounds_u32 g0
    have u2 := bounds_u32 g2
    have u3 := bounds_u32 g3
    have v0 : U32 pc := ⟨u0.1, by omega⟩
    have v2 : U32 b := ⟨u2.1, by omega⟩
    have v3 : U32 s := ⟨u3.1, by omega⟩
    refine ⟨⟨pc, [r0, r1, r2, r3, r4, r5, r6, r7], b, s⟩, rfl, ⟨v0, rfl, fun x hx => ?_, v2, v3⟩⟩
    simp only [List.mem_cons, List.not_mem_nil, or_false] at hx
    rcases hx with rfl | rfl | rfl | rfl | rfl | rfl | rfl | rfl <;> assumption
end Go.Proofs.Ytjfhoaahohinhaa.Mm
