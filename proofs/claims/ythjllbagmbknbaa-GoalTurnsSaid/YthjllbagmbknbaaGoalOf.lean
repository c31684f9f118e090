/- A jump's goal: the program's own. -/
import Derived.Test.YthjllbagmbknbaaGoalMath
import Derived.Test.YthjllbagmbknbaaRuB
import Derived.Test.YthjllbagmbknbaaWordWalks
namespace Go.Proofs.Ythjllbagmbknbaa.Mm
open Go.ChangeShapes Go.WideShapes Go.ChangeAt Go.RowKit
set_option linter.unusedVariables false

/-- an instruction's four cells, in every world behind -/
def OfR (w : World) (g : Nat) (x : InsV) (w' : World) : Prop := Ins4 w' g x ∧ Below w.heap.size w w'
def OfS (w : World) (g : Nat) (x : InsV) (w' : World) : Prop := (w'.cell? ⟨g, 0, none⟩ = some (.int .i64 x.op) ∧ w'.cell? ⟨g, 3, none⟩ = some (.int .u32 x.imm)) ∧ OfR w g x w'
theorem OfR.mk {w : World} {g : Nat} {o a b n : Int} (h : Ins4 w g ⟨o, a, b, n⟩) (hb : Below w.heap.size w w) : OfR w g ⟨o, a, b, n⟩ w := ⟨h, hb⟩
theorem OfR.s {w w' : World} {g : Nat} {x : InsV} (k : OfR w g x w') : OfS w g x w' := ⟨⟨k.1.at.c0, k.1.at.c3⟩, k⟩
theorem OfR.below {w a w' : World} {g : Nat} {x : InsV} (k : OfR w g x a) (hb : Below a.heap.size a w') : OfR w g x w' := ⟨k.1.below hb, bel_then k.2 hb⟩
theorem of_keep {w a w' : World} {g : Nat} {x : InsV} {X : Prop} (k : X ∧ OfR w g x a) (hb : Below a.heap.size a w') : OfS w g x w' := (k.2.below hb).s
theorem of_keep0 {w a w' : World} {g : Nat} {x : InsV} {X : Prop} (k : X ∧ OfR w g x a) (hb : a = w') : OfS w g x w' := by subst hb; exact k.2.s

theorem jmp_or {x : InsV} (h : jmpB x = true) : x.op = 19 ∨ x.op = 20 := by
  unfold jmpB at h
  simpa using h
theorem jmp_nor {x : InsV} (h : jmpB x = false) : (x.op != 19) = true ∧ (x.op != 20) = true := by
  unfold jmpB at h
  simpa using h

set_option maxHeartbeats 4000000 in
theorem Of_no (p : Nat) (x : InsV) (h : jmpB x = false) (w : World) : Calls Try.prog 18 #[.int .i64 p, x.agg] w fun e w' => e = .returned (.tuple #[.int .i64 0, .bool false]) ∧ Below w.heap.size w w' := by
  obtain ⟨h1, h2⟩ := jmp_nor h
  obtain ⟨o, y, z, n⟩ := x
  unfold InsV.agg
  dsimp only at h1 h2 ⊢
  clear h
  go_enter Try.func18, Try.ntmps18
  go_wp2
  go_ret2
  exact ⟨rfl, bel_al (Below.refl _ _) _⟩

set_option maxHeartbeats 1000000 in
theorem of_yes (o : Int) (ho : o = 19 ∨ o = 20) (p : Nat) (a b n : Int) (s t : Int) (g1 : IntKind.i64.wrap ((p : Int) + s) = (p : Int) + s) (g2 : IntKind.i64.wrap ((p : Int) + s + t) = (p : Int) + s + t)
    (C1 : Hid (∀ w : World, Calls Try.prog 29 #[.agg #[.int .i64 o, .int .i64 a, .int .i64 b, .int .u32 n]] w fun e w' => e = .returned (.bool true) ∧ Below w.heap.size w w'))
    (C2 : Hid (∀ w : World, Calls Try.prog 30 #[.int .i64 o] w fun e w' => e = .returned (.int .i64 s) ∧ Below w.heap.size w w'))
    (C3 : Hid (∀ w : World, Calls Try.prog 31 #[.int .u32 n] w fun e w' => e = .returned (.int .i64 t) ∧ w = w')) (w : World) :
    Calls Try.prog 18 #[.int .i64 p, .agg #[.int .i64 o, .int .i64 a, .int .i64 b, .int .u32 n]] w fun e w' => e = .returned (.tuple #[.int .i64 ((p : Int) + s + t), .bool true]) ∧ Below w.heap.size w w' := by
  have X0 := Lib.hid (Ins4.new w ⟨o, a, b, n⟩)
  have B0 := Lib.hid (bel_al (Below.refl w.heap.size w) (.cells #[.int .i64 o, .int .i64 a, .int .i64 b, .int .u32 n] 37))
  rcases ho with rfl | rfl
  · go_enter Try.func18, Try.ntmps18
    go_wp2_with fail
    refine (C1.out _).mono ?_; rintro e w1 ⟨rfl, hb1⟩
    have X1 := Lib.hid (X0.out.below hb1)
    have B1 := Lib.hid (bel_then B0.out hb1)
    clear hb1 X0 B0
    generalize hg : w.heap.size = g at *
    have HG := Lib.hid hg
    clear hg
    have K := Lib.hid (OfR.mk (w := w1) X1.out (Below.refl _ _))
    go_wp2_with fail
    go_region_held3 (fun w' => (w'.cell? ⟨g, 0, none⟩ = some (.int .i64 19) ∧ w'.cell? ⟨g, 3, none⟩ = some (.int .u32 n)) ∧ OfR w1 g ⟨19, a, b, n⟩ w')
      (first | exact OfR.s K.out | exact OfR.s (OfR.below K.out (below_drew1 (Below.refl _ _))) | exact of_keep ‹_ ∧ OfR _ _ _ _› hb | exact of_keep0 ‹_ ∧ OfR _ _ _ _› hb)
      (first | (go_at_call 30; (with_reducible refine (C2.out _).mono ?_); rintro e w' ⟨rfl, hb⟩) | (go_at_call 31; (with_reducible refine (C3.out _).mono ?_); rintro e w' ⟨rfl, hb⟩))
    rename_i hh
    obtain ⟨_, K2⟩ := hh
    go_wp2
    go_ret2
    have B2 := B1.out
    rw [← HG.out] at B2
    exact ⟨rfl, bel_then B2 K2.2⟩
  · go_enter Try.func18, Try.ntmps18
    go_wp2_with fail
    refine (C1.out _).mono ?_; rintro e w1 ⟨rfl, hb1⟩
    have X1 := Lib.hid (X0.out.below hb1)
    have B1 := Lib.hid (bel_then B0.out hb1)
    clear hb1 X0 B0
    generalize hg : w.heap.size = g at *
    have HG := Lib.hid hg
    clear hg
    have K := Lib.hid (OfR.mk (w := w1) X1.out (Below.refl _ _))
    go_wp2_with fail
    go_region_held3 (fun w' => (w'.cell? ⟨g, 0, none⟩ = some (.int .i64 20) ∧ w'.cell? ⟨g, 3, none⟩ = some (.int .u32 n)) ∧ OfR w1 g ⟨20, a, b, n⟩ w')
      (first | exact OfR.s K.out | exact OfR.s (OfR.below K.out (below_drew1 (Below.refl _ _))) | exact of_keep ‹_ ∧ OfR _ _ _ _› hb | exact of_keep0 ‹_ ∧ OfR _ _ _ _› hb)
      (first | (go_at_call 30; (with_reducible refine (C2.out _).mono ?_); rintro e w' ⟨rfl, hb⟩) | (go_at_call 31; (with_reducible refine (C3.out _).mono ?_); rintro e w' ⟨rfl, hb⟩))
    rename_i hh
    obtain ⟨_, K2⟩ := hh
    go_wp2
    go_ret2
    have B2 := B1.out
    rw [← HG.out] at B2
    exact ⟨rfl, bel_then B2 K2.2⟩

theorem Of_yes (p : Nat) (hp : p ≤ 100000) (x : InsV) (hx : x.Ok) (h : jmpB x = true) (w : World) : Calls Try.prog 18 #[.int .i64 p, x.agg] w fun e w' => e = .returned (.tuple #[.int .i64 (goalV (p, x)), .bool true]) ∧ Below w.heap.size w w' := by
  have h1 := size_bd x.op
  have h2 := sign_bd x.imm
  exact of_yes x.op (jmp_or h) p x.a x.b x.imm _ _ (IntWalk.i64_in _ (by omega)) (IntWalk.i64_in _ (by omega)) (Lib.hid (right_ok hx)) (Lib.hid (fun w' => Go.Proofs.Ythjllbagmbknbaa.Size_any x.op w')) (Lib.hid (fun w' => Go.Proofs.Ythjllbagmbknbaa.sign_any x.imm w')) w

theorem Of_any (p : Nat) (hp : p ≤ 100000) (x : InsV) (hx : x.Ok) (w : World) : Calls Try.prog 18 #[.int .i64 p, x.agg] w fun e w' => e = .returned (.tuple #[.int .i64 (if jmpB x = true then goalV (p, x) else 0), .bool (jmpB x)]) ∧ Below w.heap.size w w' := by
  cases h : jmpB x
  · exact Of_no p x h w
  · exact Of_yes p hp x hx h w
end Go.Proofs.Ythjllbagmbknbaa.Mm
