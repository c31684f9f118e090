/- The statement SlabOrder, walked: the walk over contracts, with the contracts of the landed package put in. -/
import Derived.Test.YtalglocplebonaaSlabDrop
import Derived.Test.YtalglocplebonaaSlabOrder
namespace Go.Proofs.Ytalglocplebonaa.Mm
open Go.ChangeShapes Go.WideShapes Go.ChangeAt Go.RowKit
set_option linter.unusedVariables false

theorem slabOrder_walk (B : Option Addr) (cb : Nat) (l : List Int) (w : World) (rB : RowAt w B cb l) :
    Calls Try.prog 8 #[.slice B l.length cb] w fun e w' => e = .returned (.bool true) ∧ Below w.heap.size w w' :=
  vorder (Lib.hid (awake_slab take_code)) (Lib.hid take_code) (Lib.hid right_code) (Lib.hid add_code) (Lib.hid drop_code) B cb l w rB
end Go.Proofs.Ytalglocplebonaa.Mm
