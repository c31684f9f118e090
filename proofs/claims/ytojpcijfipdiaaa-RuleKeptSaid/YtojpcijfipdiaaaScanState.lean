/- The world of scan.read while it collects: the results' cells, the two boxed slices and the rows they own, the captured code. -/
import Derived.Test.YtojpcijfipdiaaaScanIter
import Derived.Test.YtojpcijfipdiaaaScanReg
namespace Go.Proofs.Ytojpcijfipdiaaa.Mm
open Go.ChangeShapes Go.WideShapes Go.ChangeAt Go.RowKit
set_option linter.unusedVariables false

theorem boxed_kept {A B : World} {b : Nat} {t : TypeId} {v : Value} (h : Boxed A b t v) {row : Option Nat} (hg : A.grownBy B row) (hr : ∀ r, row = some r → ∃ o : Obj, A.heap[r]? = some o ∧ o.isCells = false) : Boxed B b t v :=
  h.kept hg (fun e => by obtain ⟨o, ho, hc⟩ := hr b e.symm; rw [show A.heap[b]? = _ from h] at ho; cases ho; cases hc)
theorem own_kept {A B : World} {base size n : Nat} {e : TypeId} {v : Value} {xs : List Value} (h : A.ownsRow base e size v n xs) {row : Option Nat} (hg : A.grownBy B row) (hr : ∀ r, row = some r → ∃ o : Obj, A.heap[r]? = some o ∧ o.isCells = false) : B.ownsRow base e size v n xs := by
  refine h.kept hg ?_
  rcases h.2 with ⟨rfl, _⟩ | ⟨g, cap, cur, rfl, _, hgb, _⟩
  · exact .inl rfl
  · refine .inr fun e' => ?_
    obtain ⟨o, ho, hc⟩ := hr g (by simpa [Value.ownBlock] using e'.symm)
    rw [hgb] at ho; cases ho; cases hc
theorem boxed_other {W : World} {b b' : Nat} {t : TypeId} {v : Value} (h : Boxed W b t v) (hne : b ≠ b') (u : Value) : Boxed (W.setCell ⟨b', 0, none⟩ u) b t v :=
  h.kept (grownBy_setCell' W b' u) (fun e => hne (by injection e))
theorem own_box {W : World} {base size n b : Nat} {e t : TypeId} {v u u' : Value} {xs : List Value} (h : W.ownsRow base e size v n xs) (hb : Boxed W b t u) (hne : t ≠ e) : (W.setCell ⟨b, 0, none⟩ u').ownsRow base e size v n xs :=
  h.kept (grownBy_setCell' W b u') (.inr (hb.not_row hne h).symm)

/-- the state: s: where the call's own blocks begin; what the boxes hold (u1, u2), the rows (v1, v2) -/
structure RdT (s : Nat) (cv : Value) (u1 u2 v1 v2 : Value) (n1 n2 : Nat) (A : List Int) (B : List InsV) (W : World) : Prop where
  r0 : Boxed W s 39 (.slice none 0 0)
  r1 : Boxed W (s + 1) 33 (.slice none 0 0)
  r2 : Boxed W (s + 2) 25 (.int .i64 0)
  b1 : Boxed W (s + 3) 39 u1
  b2 : Boxed W (s + 4) 33 u2
  code : Boxed W (s + 5) 22 cv
  o1 : W.ownsRow s 3 1 v1 n1 (A.map (Value.int .i64))
  o2 : W.ownsRow s 36 4 v2 n2 (B.flatMap insC)

section
variable {s n1 n2 : Nat} {cv u1 u2 v1 v2 : Value} {A : List Int} {B : List InsV} {W W' : World}
theorem RdT.own (h : RdT s cv u1 u2 v1 v2 n1 n2 A B W) {row : Option Nat} (hg : W.grownBy W' row) (hr : ∀ r, row = some r → ∃ o : Obj, W.heap[r]? = some o ∧ o.isCells = false) : RdT s cv u1 u2 v1 v2 n1 n2 A B W' :=
  ⟨boxed_kept h.r0 hg hr, boxed_kept h.r1 hg hr, boxed_kept h.r2 hg hr, boxed_kept h.b1 hg hr, boxed_kept h.b2 hg hr, boxed_kept h.code hg hr, own_kept h.o1 hg hr, own_kept h.o2 hg hr⟩
theorem grown_below {w w' : World} (b : Below w.heap.size w w') : w.grownBy w' none := ⟨b.os, b.tape, b.output, b.size, fun k hk _ => b.block k hk⟩
theorem RdT.below (h : RdT s cv u1 u2 v1 v2 n1 n2 A B W) (b : Below W.heap.size W W') : RdT s cv u1 u2 v1 v2 n1 n2 A B W' := h.own (grown_below b) (fun r e => by cases e)
theorem RdT.alloc (h : RdT s cv u1 u2 v1 v2 n1 n2 A B W) (o : Obj) : RdT s cv u1 u2 v1 v2 n1 n2 A B (W.alloc o) := h.own (World.grownBy_alloc W o none) (fun r e => by cases e)
theorem RdT.drew (h : RdT s cv u1 u2 v1 v2 n1 n2 A B W) : RdT s cv u1 u2 v1 v2 n1 n2 A B W.drew := h.below (Below.refl _ _).drew
theorem RdT.size (h : RdT s cv u1 u2 v1 v2 n1 n2 A B W) : s + 5 < W.heap.size := h.code.lt
/-- a number more -/
theorem RdT.app1 (h : RdT s cv u1 u2 v1 v2 n1 n2 A B W) {v1' : Value} {n1' : Nat} {A' : List Int} (hg : W.grownBy W' v1.ownBlock) (o : W'.ownsRow s 3 1 v1' n1' (A'.map (Value.int .i64))) : RdT s cv u1 u2 v1' v2 n1' n2 A' B W' :=
  ⟨h.r0.kept hg (h.r0.not_row (by decide) h.o1), h.r1.kept hg (h.r1.not_row (by decide) h.o1), h.r2.kept hg (h.r2.not_row (by decide) h.o1), h.b1.kept hg (h.b1.not_row (by decide) h.o1), h.b2.kept hg (h.b2.not_row (by decide) h.o1), h.code.kept hg (h.code.not_row (by decide) h.o1), o, own_apart h.o2 h.o1 (by decide) hg⟩
/-- an instruction more -/
theorem RdT.app2 (h : RdT s cv u1 u2 v1 v2 n1 n2 A B W) {v2' : Value} {n2' : Nat} {B' : List InsV} (hg : W.grownBy W' v2.ownBlock) (o : W'.ownsRow s 36 4 v2' n2' (B'.flatMap insC)) : RdT s cv u1 u2 v1 v2' n1 n2' A B' W' :=
  ⟨h.r0.kept hg (h.r0.not_row (by decide) h.o2), h.r1.kept hg (h.r1.not_row (by decide) h.o2), h.r2.kept hg (h.r2.not_row (by decide) h.o2), h.b1.kept hg (h.b1.not_row (by decide) h.o2), h.b2.kept hg (h.b2.not_row (by decide) h.o2), h.code.kept hg (h.code.not_row (by decide) h.o2), own_apart h.o1 h.o2 (by decide) hg, o⟩
theorem RdT.put1 (h : RdT s cv u1 u2 v1 v2 n1 n2 A B W) (u : Value) : RdT s cv u u2 v1 v2 n1 n2 A B (W.setCell ⟨s + 3, 0, none⟩ u) :=
  ⟨boxed_other h.r0 (by omega) _, boxed_other h.r1 (by omega) _, boxed_other h.r2 (by omega) _, h.b1.set u, boxed_other h.b2 (by omega) _, boxed_other h.code (by omega) _, own_box h.o1 h.b1 (by decide), own_box h.o2 h.b1 (by decide)⟩
theorem RdT.put2 (h : RdT s cv u1 u2 v1 v2 n1 n2 A B W) (u : Value) : RdT s cv u1 u v1 v2 n1 n2 A B (W.setCell ⟨s + 4, 0, none⟩ u) :=
  ⟨boxed_other h.r0 (by omega) _, boxed_other h.r1 (by omega) _, boxed_other h.r2 (by omega) _, boxed_other h.b1 (by omega) _, h.b2.set u, boxed_other h.code (by omega) _, own_box h.o1 h.b2 (by decide), own_box h.o2 h.b2 (by decide)⟩
theorem row_cells {base e size n : Nat} {v : Value} {xs : List Value} (h : W.ownsRow base e size v n xs) : ∀ j o, v.ownBlock = some j → W.heap[j]? = some o → o.isCells = true := by
  intro j o hj ho
  rcases h.2 with ⟨rfl, _⟩ | ⟨g, cap, cur, rfl, _, hgb, _⟩
  · simp [Value.ownBlock] at hj
  · simp [Value.ownBlock] at hj
    subst hj
    rw [hgb] at ho; cases ho; rfl
end
/-- a block of four cells -/
def Ins4 (W : World) (g : Nat) (y : InsV) : Prop := W.heap[g]? = some (.cells #[.int .i64 y.op, .int .i64 y.a, .int .i64 y.b, .int .u32 y.imm] 36 (0, 0))
theorem Ins4.new (W : World) (y : InsV) : Ins4 (W.alloc (.cells #[.int .i64 y.op, .int .i64 y.a, .int .i64 y.b, .int .u32 y.imm] 36)) W.heap.size y := World.alloc_heap_new W _
theorem Ins4.hasB {W : World} {g : Nat} {y : InsV} (h : Ins4 W g y) : HasB W g 36 (insC y) := h
theorem Ins4.at {W : World} {g : Nat} {y : InsV} (h : Ins4 W g y) : InsAt W ⟨g, 0, none⟩ y := ⟨h.hasB.cell 0, h.hasB.cell 1, h.hasB.cell 2, h.hasB.cell 3⟩
theorem Ins4.below {W W' : World} {g : Nat} {y : InsV} (h : Ins4 W g y) (b : Below W.heap.size W W') : Ins4 W' g y := (b.block _ h.hasB.lt).trans h
/-- another row's append leaves it -/
theorem Ins4.app {W W' : World} {g : Nat} {y : InsV} (h : Ins4 W g y) {base size n : Nat} {v : Value} {xs : List Value} (o : W.ownsRow base 3 size v n xs) (hg : W.grownBy W' v.ownBlock) : Ins4 W' g y := by
  refine (hg.block g h.hasB.lt ?_).trans h
  intro e
  rcases o.2 with ⟨rfl, _⟩ | ⟨g2, cap, cur, rfl, _, hgb, _⟩
  · simp [Value.ownBlock] at e
  · simp [Value.ownBlock] at e
    subst e
    have := h
    unfold Ins4 at this
    rw [hgb] at this
    simp at this
/-- nothing that is no cells has changed -/
theorem keeps_app {W W' : World} {base e size n : Nat} {v : Value} {xs : List Value} (h : W.ownsRow base e size v n xs) (hg : W.grownBy W' v.ownBlock) : KeepsOthers W W' :=
  KeepsOthers.of_grownBy hg (fun j o ej hj => row_cells h j o ej hj)
theorem keeps_below {W W' : World} (b : Below W.heap.size W W') : KeepsOthers W W' := ⟨b.size, fun k o hk _ => (b.block k (Array.getElem?_eq_some_iff.1 hk).1).trans hk⟩
end Go.Proofs.Ytojpcijfipdiaaa.Mm
