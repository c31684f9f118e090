/- The statement VerifyTurned, walked: the walk over contracts, with the contracts of the landed package put in. -/
import Derived.Test.YtinehmagkdgiiaaVerCode
import Derived.Test.YtinehmagkdgiiaaVerParts
namespace Go.Proofs.Ytinehmagkdgiiaa.Mm
open Go.ChangeShapes Go.WideShapes Go.ChangeAt Go.RowKit

theorem verifyTurned_walk (A : Option Addr) (cap : Nat) (code : List Int) (a b : Int) (w : World) (r : RowAt w A cap code) (wa : (Lit.int .u16 a).wf = true) (wb : (Lit.int .u8 b).wf = true) :
    Calls Try.prog 8 #[.slice A code.length cap, .int .u16 a, .int .u8 b] w fun e w' => e = .returned (.bool true) ∧ Below w.heap.size w w' :=
  vturned (Lib.hid awC) (Lib.hid codeC) A cap code a b w r wa wb
end Go.Proofs.Ytinehmagkdgiiaa.Mm
