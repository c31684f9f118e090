/- The statement SlabAdds, walked: the walk over contracts, with the contracts of the landed package put in. -/
import Derived.Test.YtalglocplebonaaSlabDrop
import Derived.Test.YtalglocplebonaaSlabAdds
namespace Go.Proofs.Ytalglocplebonaa.Mm
open Go.ChangeShapes Go.WideShapes Go.ChangeAt Go.RowKit
set_option linter.unusedVariables false

theorem slabAdds_walk (A : Option Addr) (n ca : Nat) (x0 x1 : Int) (w : World) (rA : ∃ L : List Rg, n = L.length ∧ RgRow w A ca L) (h0 : (Lit.int .i64 x0).wf = true) (h1 : (Lit.int .i64 x1).wf = true) :
    Calls Try.prog 6 #[.slice A n ca, .agg #[.int .i64 x0, .int .i64 x1]] w fun e w' => e = .returned (.bool true) ∧ Below w.heap.size w w' :=
  vadds (Lib.hid (awake_slab take_code)) (Lib.hid add_code) (Lib.hid drop_code) A ca n (x0, x1) ⟨bounds_i64 h0, bounds_i64 h1⟩ w rA
end Go.Proofs.Ytalglocplebonaa.Mm
