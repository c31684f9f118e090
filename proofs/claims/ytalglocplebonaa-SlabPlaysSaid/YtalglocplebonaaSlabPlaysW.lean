/- The statement SlabPlays, walked: the walk over contracts, with the contracts of the landed package put in. -/
import Derived.Test.YtalglocplebonaaSlabDrop
import Derived.Test.YtalglocplebonaaSlabPlays
namespace Go.Proofs.Ytalglocplebonaa.Mm
open Go.ChangeShapes Go.WideShapes Go.ChangeAt Go.RowKit
set_option linter.unusedVariables false

theorem slabPlays_walk (A : Option Addr) (n ca : Nat) (m s : Int) (w : World) (rA : ∃ L : List Rg, n = L.length ∧ RgRow w A ca L) (hm : (Lit.int .i64 m).wf = true) (hs : (Lit.int .i64 s).wf = true) :
    Calls Try.prog 3 #[.slice A n ca, .int .i64 m, .int .i64 s] w fun e w' => e = .returned (.bool true) ∧ Below w.heap.size w w' :=
  vplays11 (Lib.hid (awake_slab take_code)) (Lib.hid take_code) (Lib.hid right_code) A ca n m s hm hs w rA
end Go.Proofs.Ytalglocplebonaa.Mm
