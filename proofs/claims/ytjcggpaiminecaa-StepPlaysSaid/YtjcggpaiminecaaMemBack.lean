/- The statement MemBack, walked. -/
import Derived.Test.YtjcggpaiminecaaMemApart
namespace Go.Proofs.Ytjcggpaiminecaa.Mm
open Go.ChangeShapes Go.WideShapes Go.ChangeAt Go.RowKit
set_option linter.unusedVariables false

/-- the same world, but for draws -/
structure Sm (w w' : World) : Prop where
  heap : w'.heap = w.heap
  os : w'.os = w.os
  tape : w'.tape = w.tape
  output : w'.output = w.output
theorem Sm.refl (w : World) : Sm w w := ⟨rfl, rfl, rfl, rfl⟩
theorem Sm.drewN {w w' : World} (h : Sm w w') (n : Nat) : Sm w (w'.drewN n) := ⟨h.heap, h.os, h.tape, h.output⟩
theorem Sm.drew {w w' : World} (h : Sm w w') : Sm w w'.drew := ⟨h.heap, h.os, h.tape, h.output⟩
theorem Sm.below {B : Nat} {w0 w w' : World} (h : Sm w w') (b : Below B w0 w) : Below B w0 w' := ⟨h.os.trans b.os, h.tape.trans b.tape, h.output.trans b.output, by rw [h.heap]; exact b.size, fun k hk => by rw [h.heap]; exact b.block k hk⟩
theorem Sm.bel {w w' : World} (h : Sm w w') : Below w.heap.size w w' := h.below (Below.refl _ _)
theorem Sm.has {w w' : World} {g : Nat} {t : TypeId} {cs : List Value} (h : Sm w w') (b : HasB w g t cs) : HasB w' g t cs := b.same (by rw [h.heap])
theorem Sm.cell {w w' : World} (h : Sm w w') (a : Addr) : w'.cell? a = w.cell? a := by unfold World.cell?; rw [h.heap]
theorem Sm.row {w w' : World} {A : Option Addr} {cap : Nat} {l : List Int} (h : Sm w w') (r : RowAt w A cap l) : RowAt w' A cap l := r.below h.bel

theorem getD_u8 {w : World} {g : Nat} {B : List Int} (hb : HasB w g 5 (B.map (Value.int .u8))) (i : Nat) (hi : i < B.length) : w.cell? ⟨g, i, none⟩ = some (.int .u8 (B.getD i 0)) := by
  rw [hb.cell, List.getElem?_map, List.getElem?_eq_getElem hi, Option.map_some]
  simp [List.getD, List.getElem?_eq_getElem hi]

/-- so many bytes have been looked at -/
def BackRel (w7 : World) (i : Value) (w' : World) : Prop := ∃ j : Nat, j ≤ 512 ∧ i = .int .i64 j ∧ Sm w7 w'
end Go.Proofs.Ytjcggpaiminecaa.Mm
