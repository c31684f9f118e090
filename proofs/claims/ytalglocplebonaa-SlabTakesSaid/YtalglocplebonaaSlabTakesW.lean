/- The statement SlabTakes, walked: the walk over contracts, with the contracts of the landed package put in. -/
import Derived.Test.YtalglocplebonaaSlabDrop
import Derived.Test.YtalglocplebonaaSlabTakes
namespace Go.Proofs.Ytalglocplebonaa.Mm
open Go.ChangeShapes Go.WideShapes Go.ChangeAt Go.RowKit
set_option linter.unusedVariables false

theorem slabTakes_walk (A : Option Addr) (ca : Nat) (l : List Int) (D : Option Addr) (cd : Nat) (d : List Int) (N : Int) (w : World) (rA : RowAt w A ca l) (rD : RowAt w D cd d) (hN : (Lit.int .u16 N).wf = true) :
    Calls Try.prog 4 #[.slice A l.length ca, .slice D d.length cd, .int .u16 N] w fun e w' => e = .returned (.bool true) ∧ Below w.heap.size w w' :=
  vtakes (Lib.hid (awake_slab take_code)) (Lib.hid take_code) (Lib.hid right_code) (Lib.hid add_code) (Lib.hid drop_code) A ca l D cd d N w rA rD hN
end Go.Proofs.Ytalglocplebonaa.Mm
