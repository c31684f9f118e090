/- Where jumps go: the document's own. -/
import Derived.Test.YthjllbagmbknbaaGoalOf
import Derived.Test.YthjllbagmbknbaaRuB
import Derived.Test.YthjllbagmbknbaaRefAWalks
namespace Go.Proofs.Ythjllbagmbknbaa.Mm
open Go.ChangeShapes Go.WideShapes Go.ChangeAt Go.RowKit
set_option linter.unusedVariables false

theorem jmp_ways (x : InsV) : ((x.op == 19) = true ∧ jmpB x = true) ∨ ((x.op == 19) = false ∧ (x.op == 20) = true ∧ jmpB x = true) ∨ ((x.op == 19) = false ∧ (x.op == 20) = false ∧ jmpB x = false) := by
  unfold jmpB
  cases h : x.op == 19
  · cases h1 : x.op == 20 <;> simp
  · simp
theorem rJump_any (x : InsV) (w : World) : Calls Try.prog 11 #[x.agg] w fun e w' => e = .returned (.bool (jmpB x)) ∧ Below w.heap.size w w' := by
  have HW := jmp_ways x
  generalize jmpB x = q at *
  obtain ⟨o, y, z, n⟩ := x
  unfold InsV.agg
  dsimp only at HW ⊢
  rcases HW with ⟨h1, rfl⟩ | ⟨h1, h2, rfl⟩ | ⟨h1, h2, rfl⟩
  all_goals
    go_enter Try.func11, Try.ntmps11
    go_wp2
    go_ret
    exact ⟨rfl, bel_al (Below.refl _ _) _⟩
theorem rgoal (o : Int) (p : Nat) (a b n : Int) (s t : Int) (g1 : IntKind.i64.wrap ((p : Int) + s) = (p : Int) + s) (g2 : IntKind.i64.wrap ((p : Int) + s + t) = (p : Int) + s + t)
    (C2 : Hid (∀ w : World, Calls Try.prog 23 #[.int .i64 o] w fun e w' => e = .returned (.int .i64 s) ∧ w = w'))
    (C3 : Hid (∀ w : World, Calls Try.prog 24 #[.int .u32 n] w fun e w' => e = .returned (.int .i64 t) ∧ w = w')) (w : World) :
    Calls Try.prog 12 #[.int .i64 p, .agg #[.int .i64 o, .int .i64 a, .int .i64 b, .int .u32 n]] w fun e w' => e = .returned (.int .i64 ((p : Int) + s + t)) ∧ Below w.heap.size w w' := by
  have X1 := Lib.hid (Ins4.new w ⟨o, a, b, n⟩)
  have B1 := Lib.hid (bel_al (Below.refl w.heap.size w) (.cells #[.int .i64 o, .int .i64 a, .int .i64 b, .int .u32 n] 37))
  go_enter Try.func12, Try.ntmps12
  go_wp2_with fail
  generalize hw : w.alloc (.cells #[.int .i64 o, .int .i64 a, .int .i64 b, .int .u32 n] 37) = w1 at *
  generalize hg : w.heap.size = g at *
  have HG := Lib.hid hg
  clear hg
  have K := Lib.hid (OfR.mk (w := w1) X1.out (Below.refl _ _))
  go_region_held3 (fun w' => (w'.cell? ⟨g, 0, none⟩ = some (.int .i64 o) ∧ w'.cell? ⟨g, 3, none⟩ = some (.int .u32 n)) ∧ OfR w1 g ⟨o, a, b, n⟩ w')
    (first | exact OfR.s K.out | exact OfR.s (OfR.below K.out (below_drew1 (Below.refl _ _))) | exact of_keep ‹_ ∧ OfR _ _ _ _› hb | exact of_keep0 ‹_ ∧ OfR _ _ _ _› hb)
    (first | (go_at_call 23; (with_reducible refine (C2.out _).mono ?_); rintro e w' ⟨rfl, hb⟩) | (go_at_call 24; (with_reducible refine (C3.out _).mono ?_); rintro e w' ⟨rfl, hb⟩))
  rename_i hh
  obtain ⟨_, K2⟩ := hh
  clear hw
  go_wp2
  go_ret
  have hz := B1.out.size
  refine ⟨rfl, ?_⟩
  rw [HG.out]
  exact B1.out.trans (K2.2.mono (by have := HG.out; omega))
theorem rGoal_any (p : Nat) (hp : p ≤ 100000) (x : InsV) (hx : x.Wf) (w : World) : Calls Try.prog 12 #[.int .i64 p, x.agg] w fun e w' => e = .returned (.int .i64 (goalV (p, x))) ∧ Below w.heap.size w w' := by
  have h1 := size_bd x.op
  have h2 := sign_bd x.imm
  exact rgoal x.op p x.a x.b x.imm (Go.Proofs.Ythjllbagmbknbaa.szO x.op) (wrap32 x.imm) (IntWalk.i64_in _ (by omega)) (IntWalk.i64_in _ (by omega)) (Lib.hid (fun w' => Go.Proofs.Ythjllbagmbknbaa.rSize_any x.op w')) (Lib.hid (fun w' => Go.Proofs.Ythjllbagmbknbaa.rsign_any x.imm hx.2.2.2.1 hx.2.2.2.2 w')) w
end Go.Proofs.Ythjllbagmbknbaa.Mm
