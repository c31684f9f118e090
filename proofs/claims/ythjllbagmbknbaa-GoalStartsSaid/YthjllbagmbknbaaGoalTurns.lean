/- The document's example of a jump's goal, and the statement GoalTurns, walked. -/
import Derived.Test.YthjllbagmbknbaaGoalOf
namespace Go.Proofs.Ythjllbagmbknbaa.Mm
open Go.ChangeShapes Go.WideShapes Go.ChangeAt Go.RowKit
set_option linter.unusedVariables false
theorem turn_19 (p : Nat) : goalV (p, ⟨19, 0, 0, 0⟩) = (p : Int) + 5 ∧ goalV (p, ⟨19, 0, 0, 4294967291⟩) = (p : Int) ∧ jmpB ⟨19, 0, 0, 0⟩ = true ∧ jmpB ⟨19, 0, 0, 4294967291⟩ = true := by
  unfold goalV
  rw [show Go.Proofs.Ythjllbagmbknbaa.szO 19 = 5 by decide, show wrap32 0 = 0 by unfold wrap32; omega, show wrap32 4294967291 = -5 by unfold wrap32; omega]
  exact ⟨by omega, by omega, by decide, by decide⟩
theorem turn_20 (p : Nat) : goalV (p, ⟨20, 0, 0, 0⟩) = (p : Int) + 6 ∧ goalV (p, ⟨20, 0, 0, 4294967290⟩) = (p : Int) ∧ jmpB ⟨20, 0, 0, 0⟩ = true ∧ jmpB ⟨20, 0, 0, 4294967290⟩ = true := by
  unfold goalV
  rw [show Go.Proofs.Ythjllbagmbknbaa.szO 20 = 6 by decide, show wrap32 0 = 0 by unfold wrap32; omega, show wrap32 4294967290 = -6 by unfold wrap32; omega]
  exact ⟨by omega, by omega, by decide, by decide⟩
theorem of_jmp (p : Nat) (hp : p ≤ 100000) (x : InsV) (hx : x.Ok) (h : jmpB x = true) (g : Int) (hg : goalV (p, x) = g) (w : World) : Calls Try.prog 18 #[.int .i64 p, x.agg] w fun e w' => e = .returned (.tuple #[.int .i64 g, .bool true]) ∧ Below w.heap.size w w' := by
  subst hg
  exact Of_yes p hp x hx h w

theorem awake_any (w : World) : Calls Try.prog 7 #[] w fun e w' => e = .returned (.bool true) ∧ Below w.heap.size w w' := by
  have C := Lib.hid (fun w' => of_jmp 0 (by omega) ⟨19, 0, 0, 4294967291⟩ ⟨by decide, by decide, by decide⟩ (turn_19 0).2.2.2 0 (turn_19 0).2.1 w')
  unfold InsV.agg at C
  dsimp only at C
  go_enter Try.func7, Try.ntmps7
  go_wp2_with fail
  refine (C.out _).mono ?_; rintro e w1 ⟨rfl, hb1⟩
  go_wp2
  go_ret
  exact ⟨rfl, hb1⟩

theorem turns_one (o : Int) (sz im : Int) (j : Bool) (hj : (o = 19 ∧ sz = 5 ∧ im = 4294967291 ∧ j = false) ∨ (o = 20 ∧ sz = 6 ∧ im = 4294967290 ∧ j = true)) (p : Nat) (hp : p ≤ 65535)
    (C1 : Hid (∀ w : World, Calls Try.prog 18 #[.int .i64 p, .agg #[.int .i64 o, .int .i64 0, .int .i64 0, .int .u32 0]] w fun e w' => e = .returned (.tuple #[.int .i64 ((p : Int) + sz), .bool true]) ∧ Below w.heap.size w w'))
    (C2 : Hid (∀ w : World, Calls Try.prog 18 #[.int .i64 p, .agg #[.int .i64 o, .int .i64 0, .int .i64 0, .int .u32 im]] w fun e w' => e = .returned (.tuple #[.int .i64 (p : Int), .bool true]) ∧ Below w.heap.size w w')) (w : World) :
    Calls Try.prog 6 #[.int .u16 p, .bool j] w fun e w' => e = .returned (.bool true) ∧ Below w.heap.size w w' := by
  have k0 : IntKind.i64.wrap (p : Int) = p := IntWalk.i64_in _ (by omega)
  rcases hj with ⟨rfl, rfl, rfl, rfl⟩ | ⟨rfl, rfl, rfl, rfl⟩
  · have k1 : IntKind.i64.wrap ((p : Int) + 5) = (p : Int) + 5 := IntWalk.i64_in _ (by omega)
    have X := Lib.hid (Go.Proofs.Ythjllbagmbknbaa.Res.new w (.int .i64 19) (.int .i64 0) (.int .i64 0) (.int .u32 0) 37)
    have B := Lib.hid (bel_al (Below.refl w.heap.size w) (.cells #[.int .i64 19, .int .i64 0, .int .i64 0, .int .u32 0] 37))
    go_enter Try.func6, Try.ntmps6
    go_wp2_with fail
    refine (C1.out _).mono ?_; rintro e w1 ⟨rfl, hb1⟩
    obtain ⟨h0, ⟨p0, p1, p2, p3⟩, _, _, _, f3⟩ := X.out.below hb1
    have B1 := Lib.hid (bel_then B.out hb1)
    have B2 := Lib.hid (B1.out.setCell (p := ⟨w.heap.size, 3, none⟩) (Nat.le_refl _) (.int .u32 4294967291))
    clear hb1 X B
    go_wp2_with fail
    refine (C2.out _).mono ?_; rintro e w2 ⟨rfl, hb2⟩
    have B3 := Lib.hid (bel_then B2.out hb2)
    clear hb2
    go_wp2_with fail
    refine (awake_any _).mono ?_; rintro e w3 ⟨rfl, hb3⟩
    have B4 := Lib.hid (bel_then B3.out hb3)
    clear hb3
    go_wp2
    go_ret
    exact ⟨rfl, B4.out⟩
  · have k1 : IntKind.i64.wrap ((p : Int) + 6) = (p : Int) + 6 := IntWalk.i64_in _ (by omega)
    have X := Lib.hid (Go.Proofs.Ythjllbagmbknbaa.Res.new w (.int .i64 20) (.int .i64 0) (.int .i64 0) (.int .u32 0) 37)
    have B := Lib.hid (bel_al (Below.refl w.heap.size w) (.cells #[.int .i64 20, .int .i64 0, .int .i64 0, .int .u32 0] 37))
    go_enter Try.func6, Try.ntmps6
    go_wp2_with fail
    refine (C1.out _).mono ?_; rintro e w1 ⟨rfl, hb1⟩
    obtain ⟨h0, ⟨p0, p1, p2, p3⟩, _, _, _, f3⟩ := X.out.below hb1
    have B1 := Lib.hid (bel_then B.out hb1)
    have B2 := Lib.hid (B1.out.setCell (p := ⟨w.heap.size, 3, none⟩) (Nat.le_refl _) (.int .u32 4294967290))
    clear hb1 X B
    go_wp2_with fail
    refine (C2.out _).mono ?_; rintro e w2 ⟨rfl, hb2⟩
    have B3 := Lib.hid (bel_then B2.out hb2)
    clear hb2
    go_wp2_with fail
    refine (awake_any _).mono ?_; rintro e w3 ⟨rfl, hb3⟩
    have B4 := Lib.hid (bel_then B3.out hb3)
    clear hb3
    go_wp2
    go_ret
    exact ⟨rfl, B4.out⟩

theorem goalTurns_walk (a : Int) (j : Bool) (w : World) (h : (Lit.int .u16 a).wf = true) : Calls Try.prog 6 #[.int .u16 a, .bool j] w fun e w' => e = .returned (.bool true) ∧ Below w.heap.size w w' := by
  have hb : 0 ≤ a ∧ a ≤ 65535 := by
    have : IntKind.u16.min ≤ a ∧ a ≤ IntKind.u16.max := by simpa [Lit.wf] using h
    rwa [show IntKind.u16.min = 0 by decide, show IntKind.u16.max = 65535 by decide] at this
  obtain ⟨p, rfl⟩ : ∃ p : Nat, a = p := ⟨a.toNat, by omega⟩
  have hp : p ≤ 65535 := by omega
  cases j
  · exact turns_one 19 5 4294967291 false (.inl ⟨rfl, rfl, rfl, rfl⟩) p hp (Lib.hid (of_jmp p (by omega) ⟨19, 0, 0, 0⟩ ⟨by decide, by decide, by decide⟩ (turn_19 p).2.2.1 _ (turn_19 p).1)) (Lib.hid (of_jmp p (by omega) ⟨19, 0, 0, 4294967291⟩ ⟨by decide, by decide, by decide⟩ (turn_19 p).2.2.2 _ (turn_19 p).2.1)) w
  · exact turns_one 20 6 4294967290 true (.inr ⟨rfl, rfl, rfl, rfl⟩) p hp (Lib.hid (of_jmp p (by omega) ⟨20, 0, 0, 0⟩ ⟨by decide, by decide, by decide⟩ (turn_20 p).2.2.1 _ (turn_20 p).1)) (Lib.hid (of_jmp p (by omega) ⟨20, 0, 0, 4294967290⟩ ⟨by decide, by decide, by decide⟩ (turn_20 p).2.2.2 _ (turn_20 p).2.1)) w
end Go.Proofs.Ythjllbagmbknbaa.Mm
