/- The statement SlabFull, walked: the walk over contracts, with the contracts of the landed package put in. -/
import Derived.Test.YtalglocplebonaaSlabDrop
import Derived.Test.YtalglocplebonaaSlabFull
namespace Go.Proofs.Ytalglocplebonaa.Mm
open Go.ChangeShapes Go.WideShapes Go.ChangeAt Go.RowKit
set_option linter.unusedVariables false

theorem slabFull_walk (g n : Int) (w : World) (hg : (Lit.int .u8 g).wf = true) (hn : (Lit.int .u16 n).wf = true) :
    Calls Try.prog 7 #[.int .u8 g, .int .u16 n] w fun e w' => e = .returned (.bool true) ∧ Below w.heap.size w w' :=
  vfullW (Lib.hid (awake_slab take_code)) (Lib.hid take_code) (Lib.hid right_code) (Lib.hid add_code) g n hg hn w
end Go.Proofs.Ytalglocplebonaa.Mm
