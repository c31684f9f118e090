/- What may stand where: the program's own small functions, and the document's. -/
import Derived.Test.YtojpcijfipdiaaaRuleMath
import Derived.Test.YtojpcijfipdiaaaRuleSet
import Derived.Test.YtojpcijfipdiaaaScanRow
import Derived.Test.YtojpcijfipdiaaaIsaForms
namespace Go.Proofs.Ytojpcijfipdiaaa.Mm
open Go.ChangeShapes Go.WideShapes Go.ChangeAt Go.RowKit
set_option linter.unusedVariables false

theorem pair_load {a b : InsV} (h : (b.op == 15) = true) : pairB a b = (a.op == 17 && a.a == b.b) := by
  unfold pairB; rw [if_pos (by simpa using h)]
theorem pair_store {a b : InsV} (h : (b.op == 15) = false) (h1 : (b.op == 16) = true) : pairB a b = (a.op == 17 && a.a == b.a) := by
  unfold pairB; rw [if_neg (by simpa using h), if_pos (by simpa using h1)]
theorem pair_jr {a b : InsV} (h : (b.op == 15) = false) (h1 : (b.op == 16) = false) : pairB a b = (b.op == 21 && (a.op == 18 && a.a == b.a)) := by
  unfold pairB; rw [if_neg (by simpa using h), if_neg (by simpa using h1)]
/-- the ways of two instructions -/
theorem pair_ways (a b : InsV) :
    ((b.op == 15) = true ∧ (a.op == 17) = false ∧ pairB a b = false) ∨ ((b.op == 15) = true ∧ (a.op == 17) = true ∧ pairB a b = (a.a == b.b)) ∨
    ((b.op == 15) = false ∧ (b.op == 16) = true ∧ (a.op == 17) = false ∧ pairB a b = false) ∨ ((b.op == 15) = false ∧ (b.op == 16) = true ∧ (a.op == 17) = true ∧ pairB a b = (a.a == b.a)) ∨
    ((b.op == 15) = false ∧ (b.op == 16) = false ∧ (b.op == 21) = true ∧ (a.op == 18) = false ∧ pairB a b = false) ∨
    ((b.op == 15) = false ∧ (b.op == 16) = false ∧ (b.op == 21) = true ∧ (a.op == 18) = true ∧ pairB a b = (a.a == b.a)) ∨
    ((b.op == 15) = false ∧ (b.op == 16) = false ∧ (b.op == 21) = false ∧ pairB a b = false) := by
  cases h : b.op == 15
  · cases h1 : b.op == 16
    · cases h2 : b.op == 21
      · simp [pair_jr h h1, h2]
      · cases h3 : a.op == 18 <;> simp [pair_jr h h1, h2, h3]
    · cases h3 : a.op == 17 <;> simp [pair_store h h1, h3]
  · cases h3 : a.op == 17 <;> simp [pair_load h, h3]

theorem masks_any (a b : InsV) (w : World) : Calls Try.prog 22 #[a.agg, b.agg] w fun e w' => e = .returned (.bool (pairB a b)) ∧ Below w.heap.size w w' := by
  have HW := pair_ways a b
  generalize pairB a b = q at *
  obtain ⟨o, x, y, z⟩ := a
  obtain ⟨o', x', y', z'⟩ := b
  unfold InsV.agg
  dsimp only at HW ⊢
  rcases HW with ⟨h1, h2, rfl⟩ | ⟨h1, h2, rfl⟩ | ⟨h1, h2, h3, rfl⟩ | ⟨h1, h2, h3, rfl⟩ | ⟨h1, h2, h3, h4, rfl⟩ | ⟨h1, h2, h3, h4, rfl⟩ | ⟨h1, h2, h3, rfl⟩
  all_goals
    go_enter Try.func22, Try.ntmps22
    go_wp2
    go_ret
    exact ⟨rfl, bel_al (bel_al (Below.refl _ _) _) _⟩

theorem rPair_any (a b : InsV) (w : World) : Calls Try.prog 17 #[a.agg, b.agg] w fun e w' => e = .returned (.bool (pairB a b)) ∧ Below w.heap.size w w' := by
  have HW := pair_ways a b
  generalize pairB a b = q at *
  obtain ⟨o, x, y, z⟩ := a
  obtain ⟨o', x', y', z'⟩ := b
  unfold InsV.agg
  dsimp only at HW ⊢
  rcases HW with ⟨h1, h2, rfl⟩ | ⟨h1, h2, rfl⟩ | ⟨h1, h2, h3, rfl⟩ | ⟨h1, h2, h3, rfl⟩ | ⟨h1, h2, h3, h4, rfl⟩ | ⟨h1, h2, h3, h4, rfl⟩ | ⟨h1, h2, h3, rfl⟩
  all_goals
    go_enter Try.func17, Try.ntmps17
    go_wp2
    go_ret
    exact ⟨rfl, bel_al (bel_al (Below.refl _ _) _) _⟩

def aloneB (x : InsV) : Bool := !useB x && !gateB x
theorem alone_ways (x : InsV) :
    ((x.op == 15) = true ∧ aloneB x = false) ∨ ((x.op == 15) = false ∧ (x.op == 16) = true ∧ aloneB x = false) ∨ ((x.op == 15) = false ∧ (x.op == 16) = false ∧ (x.op == 21) = true ∧ aloneB x = false) ∨
    ((x.op == 15) = false ∧ (x.op == 16) = false ∧ (x.op == 21) = false ∧ (x.op == 22) = true ∧ aloneB x = decide (x.imm ≤ 4)) ∨
    ((x.op == 15) = false ∧ (x.op == 16) = false ∧ (x.op == 21) = false ∧ (x.op == 22) = false ∧ aloneB x = true) := by
  unfold aloneB useB gateB
  cases h : x.op == 15
  · cases h1 : x.op == 16
    · cases h2 : x.op == 21
      · cases h3 : x.op == 22
        · simp
        · simp; by_cases h4 : x.imm ≤ 4
          · simp [h4]
          · simp [h4]; omega
      · simp
    · simp
  · simp
theorem alone_any (x : InsV) (w : World) : Calls Try.prog 16 #[x.agg] w fun e w' => e = .returned (.bool (aloneB x)) ∧ Below w.heap.size w w' := by
  have HW := alone_ways x
  generalize aloneB x = q at *
  obtain ⟨o, y, z, n⟩ := x
  unfold InsV.agg
  dsimp only at HW ⊢
  rcases HW with ⟨h1, rfl⟩ | ⟨h1, h2, rfl⟩ | ⟨h1, h2, h3, rfl⟩ | ⟨h1, h2, h3, h4, rfl⟩ | ⟨h1, h2, h3, h4, rfl⟩
  all_goals
    go_enter Try.func16, Try.ntmps16
    go_wp2
    go_ret
    exact ⟨rfl, bel_al (Below.refl _ _) _⟩
end Go.Proofs.Ytojpcijfipdiaaa.Mm
