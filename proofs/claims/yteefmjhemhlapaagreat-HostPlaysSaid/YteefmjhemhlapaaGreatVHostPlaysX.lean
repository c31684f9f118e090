/- HostPlays, its parameters in their order. -/
import Derived.Test.YteefmjhemhlapaaGreatVHostPlays
namespace Go.Proofs.YteefmjhemhlapaaGreat.Mm
open Go.ChangeShapes Go.WideShapes Go.ChangeAt Go.RowKit
theorem hostPlays_in_order (A : Option Addr) (n cap : Nat) (A' : Option Addr) (m cap' : Nat) (sz : Int) (w : World) (rA : RowsB w A n cap) (rB : AcsAt w A' m cap') (wv : (Lit.int .u8 sz).wf = true) :
    Calls Tryz.prog 3 #[.slice A n cap, .slice A' m cap', .int .u8 sz] w fun e w' => e = .returned (.bool true) ∧ Below w.heap.size w w' :=
  hostPlays_walk A A' n cap m cap' sz w rA rB wv
end Go.Proofs.YteefmjhemhlapaaGreat.Mm
