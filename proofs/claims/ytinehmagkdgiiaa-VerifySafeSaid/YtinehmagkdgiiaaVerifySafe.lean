/- The statement VerifySafe, walked: the walk over contracts, with the contracts of the landed package put in. -/
import Derived.Test.YtinehmagkdgiiaaVerCode
import Derived.Test.YtinehmagkdgiiaaVerRegs
namespace Go.Proofs.Ytinehmagkdgiiaa.Mm
open Go.ChangeShapes Go.WideShapes Go.ChangeAt Go.RowKit

theorem verifySafe_walk (A : Option Addr) (cap : Nat) (code : List Int) (l : List Int) (lg pl : Int) (w : World) (r : RowAt w A cap code) (hr : l.length = 8 ∧ ∀ x ∈ l, U32 x) (hl : (Lit.int .u8 lg).wf = true) (hp : (Lit.int .u8 pl).wf = true) :
    Calls Try.prog 4 #[.slice A code.length cap, regsV l, .int .u8 lg, .int .u8 pl] w fun e w' => e = .returned (.bool true) ∧ Below w.heap.size w w' :=
  vsafe_regs (Lib.hid awC) (Lib.hid codeC) (Lib.hid fitsC) A cap code l lg pl w r hr hl hp
end Go.Proofs.Ytinehmagkdgiiaa.Mm
