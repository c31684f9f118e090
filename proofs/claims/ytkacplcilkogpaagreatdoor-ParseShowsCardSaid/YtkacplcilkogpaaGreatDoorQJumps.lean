/- A goto loop whose first pass is one of its passes: the body is walked once. -/
import Derived.Test.YtkacplcilkogpaaGreatDoorQBaM
import Derived.ScopeJumps
namespace Go.Proofs.YtkacplcilkogpaaGreatDoor.Mm
open Go.RowKit
set_option linter.unusedVariables false

theorem wp_scope_once {P : Program} {c body : Code} {Q : Exit → Act → World → Prop} {a : Act} {w : World} (l : Nat) (J : Act → World → Prop) (μ : Act → World → Nat) (hf : findLabel c l = some (Code.skip.seq body))
    (first : (∀ a w, J a w → body.wp P (Exit.jump l J Q) a w) → c.wp P (Exit.jump l J Q) a w)
    (pass : ∀ a w, J a w → body.wp P (Exit.jump l (fun a' w' => J a' w' ∧ μ a' w' < μ a w) Q) a w) : (Code.scope c).wp P Q a w := by
  refine wp_scope_jumps l J μ hf (first fun a w hJ => ?_) (fun a w hJ => wp_seq (wp_skip (pass a w hJ)))
  intro b k cs
  obtain ⟨e, a', w', hq, harr⟩ := pass a w hJ b k cs
  refine ⟨e, a', w', ?_, harr⟩
  cases e <;> simp only [Exit.jump] at hq ⊢ <;> first | exact hq | exact ⟨hq.1, hq.2.1⟩
end Go.Proofs.YtkacplcilkogpaaGreatDoor.Mm
