/- Eight registers handed over by value, opened; the statement VerifySafe over them. -/
import Derived.Test.YtinehmagkdgiiaaVerSafe2
import Derived.OpenShut
import Derived.ChangeArms
import Derived.ProofKit
import Derived.WideShapes
namespace Go.Proofs.Ytinehmagkdgiiaa.Mm
open Go.ChangeShapes Go.WideShapes Go.ChangeAt Go.RowKit
set_option linter.unusedVariables false

def regsV (r : List Int) : Value := .agg (r.map (Value.int .u32)).toArray
set_option maxRecDepth 100000 in
theorem regs_of {H : Type} {enc : TypeId × Value → H} {w : World} {r : Reach} {b0 base : Nat} {spare : Nat → Bool} {held : Bool} {v : Value} {d : DataW H} {ps : List MemPlace}
    (hv : Value.okWide Try.prog w r b0 37 v) (h : DataW.Trod enc Try.prog w base spare held 37 v d ps) : ∃ l : List Int, v = regsV l ∧ l.length = 8 ∧ ∀ x ∈ l, U32 x := by
  have hA : Try.prog.cellsOf 37 = 8 := by kernel_rfl
  have hU : Try.prog.cellsOf 36 = 1 := by kernel_rfl
  obtain ⟨cs, rfl, hsz⟩ : ∃ cs, v = .agg cs ∧ cs.size = 8 := by
    simp only [Value.okWide, Try.underlying37] at hv
    obtain ⟨cs, h1, h2, _⟩ := hv
    exact ⟨cs, h1, h2.trans hA⟩
  obtain ⟨l⟩ := cs
  obtain ⟨fuel, hf⟩ := h
  obtain ⟨zs, m, _, _, _, hl8, ha⟩ := DataW.trod_array Try.underlying37 hf
  match l, hsz with
  | [y1, y2, y3, y4, y5, y6, y7, y8], _ =>
    have some8 : ∀ j, j < 8 → ∃ y, zs[j]? = some y := fun j hj => ⟨zs[j]'(by omega), List.getElem?_eq_getElem _⟩
    have reg : ∀ (j : Nat) (y : Value), j < 8 → ([y1, y2, y3, y4, y5, y6, y7, y8].drop j).take 1 = [y] → ∃ k : Int, y = .int .u32 k ∧ U32 k := by
      intro j y hj hy
      obtain ⟨q, hq⟩ := some8 j hj
      have := ha j hj
      change DataW.trod enc Try.prog w base spare held m 36 (([y1, y2, y3, y4, y5, y6, y7, y8].drop (j * Try.prog.cellsOf 36)).take (Try.prog.cellsOf 36)) = zs[j]? at this
      rw [hU, Nat.mul_one, hy] at this
      obtain ⟨k, p, _, g⟩ := DataW.trod_int Try.underlying36 (this.trans hq)
      simp only [List.cons.injEq, and_true] at p
      exact ⟨k, p, by have := bounds_u32 g; exact ⟨this.1, by omega⟩⟩
    obtain ⟨r0, rfl, z0⟩ := reg 0 y1 (by decide) rfl
    obtain ⟨r1, rfl, z1⟩ := reg 1 y2 (by decide) rfl
    obtain ⟨r2, rfl, z2⟩ := reg 2 y3 (by decide) rfl
    obtain ⟨r3, rfl, z3⟩ := reg 3 y4 (by decide) rfl
    obtain ⟨r4, rfl, z4⟩ := reg 4 y5 (by decide) rfl
    obtain ⟨r5, rfl, z5⟩ := reg 5 y6 (by decide) rfl
    obtain ⟨r6, rfl, z6⟩ := reg 6 y7 (by decide) rfl
    obtain ⟨r7, rfl, z7⟩ := reg 7 y8 (by decide) rfl
    refine ⟨[r0, r1, r2, r3, r4, r5, r6, r7], rfl, rfl, fun x hx => ?_⟩
    simp only [List.mem_cons, List.not_mem_nil, or_false] at hx
    rcases hx with rfl | rfl | rfl | rfl | rfl | rfl | rfl | rfl <;> assumption
theorem vsafe_regs (AW : Hid AwC) (VC : Hid CodeC) (VF : Hid FitsC) (A : Option Addr) (cap : Nat) (code : List Int) (l : List Int) (lg pl : Int) (w : World) (r : RowAt w A cap code) (hr : l.length = 8 ∧ ∀ x ∈ l, U32 x) (hl : (Lit.int .u8 lg).wf = true) (hp : (Lit.int .u8 pl).wf = true) :
    Calls Try.prog 4 #[.slice A code.length cap, regsV l, .int .u8 lg, .int .u8 pl] w fun e w' => e = .returned (.bool true) ∧ Below w.heap.size w w' := by
  obtain ⟨h8, hu⟩ := hr
  match l, h8 with
  | [r0, r1, r2, r3, r4, r5, r6, r7], _ => exact vsafe AW VC VF A cap code r0 r1 r2 r3 r4 r5 r6 r7 hu lg pl w r hl hp
end Go.Proofs.Ytinehmagkdgiiaa.Mm
