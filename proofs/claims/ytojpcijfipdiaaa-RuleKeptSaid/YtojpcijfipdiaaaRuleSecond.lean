/- What may stand where: whether two are a pair. -/
import Derived.Test.YtojpcijfipdiaaaRuleWalk
import Derived.Test.YtojpcijfipdiaaaScanAdd
namespace Go.Proofs.Ytojpcijfipdiaaa.Mm
open Go.ChangeShapes Go.WideShapes Go.ChangeAt Go.RowKit
set_option linter.unusedVariables false

theorem right_ok {x : InsV} (h : x.Ok) (w : World) : Calls Try.prog 23 #[.agg #[.int .i64 x.op, .int .i64 x.a, .int .i64 x.b, .int .u32 x.imm]] w fun e w' => e = .returned (.bool true) ∧ Below w.heap.size w w' := by
  have := Go.Proofs.Ytojpcijfipdiaaa.Right_any x.op x.a x.b x.imm h.2.1 h.2.2 w
  rwa [show Go.Proofs.Ytojpcijfipdiaaa.rightB x.op x.a x.b x.imm = true from h.1] at this
theorem Second_any (a b : InsV) (ha : a.Ok) (hb : b.Ok) (w : World) : Calls Try.prog 13 #[a.agg, b.agg] w fun e w' => e = .returned (.bool (pairB a b)) ∧ Below w.heap.size w w' := by
  have C := Lib.hid (masks_any a b)
  have R1 := Lib.hid (right_ok ha)
  have R2 := Lib.hid (right_ok hb)
  have X1 := Lib.hid ((Ins4.new w a).alloc (.cells #[.int .i64 b.op, .int .i64 b.a, .int .i64 b.b, .int .u32 b.imm] 36))
  have X2 := Lib.hid (ins4_new1 w (.cells #[.int .i64 a.op, .int .i64 a.a, .int .i64 a.b, .int .u32 a.imm] 36) b)
  have Z := Lib.hid (bel_al (bel_al (Below.refl w.heap.size w) (.cells #[.int .i64 a.op, .int .i64 a.a, .int .i64 a.b, .int .u32 a.imm] 36)) (.cells #[.int .i64 b.op, .int .i64 b.a, .int .i64 b.b, .int .u32 b.imm] 36))
  unfold InsV.agg at C ⊢
  cases hq : pairB a b
  · rw [hq] at C
    clear hq
    go_enter Try.func13, Try.ntmps13
    go_wp2_with fail
    refine (C.out _).mono ?_; rintro e w1 ⟨rfl, hb1⟩
    have B1 := Lib.hid (bel_then Z.out hb1)
    clear hb1
    go_wp2
    go_ret
    exact ⟨rfl, B1.out⟩
  · rw [hq] at C
    clear hq
    go_enter Try.func13, Try.ntmps13
    go_wp2_with fail
    refine (C.out _).mono ?_; rintro e w1 ⟨rfl, hb1⟩
    have B1 := Lib.hid (bel_then Z.out hb1)
    have Y1 := (X1.out.below hb1).at
    have Y2 := Lib.hid (X2.out.below hb1)
    obtain ⟨p0, p1, p2, p3⟩ := Y1
    clear hb1
    go_wp2_with fail
    refine (R1.out _).mono ?_; rintro e w2 ⟨rfl, hb2⟩
    have B2 := Lib.hid (bel_then B1.out hb2)
    obtain ⟨q0, q1, q2, q3⟩ := (Y2.out.below hb2).at
    clear hb2 p0 p1 p2 p3
    go_wp2_with fail
    refine (R2.out _).mono ?_; rintro e w3 ⟨rfl, hb3⟩
    have B3 := Lib.hid (bel_then B2.out hb3)
    clear hb3
    go_wp2
    go_ret
    exact ⟨rfl, B3.out⟩
end Go.Proofs.Ytojpcijfipdiaaa.Mm
