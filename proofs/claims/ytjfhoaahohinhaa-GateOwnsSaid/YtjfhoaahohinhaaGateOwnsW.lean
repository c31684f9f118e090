/- The statement GateOwns, walked: the walk over contracts, with the contracts of the landed package put in. -/
import Derived.Test.YtjfhoaahohinhaaGateCode
import Derived.Test.YtjfhoaahohinhaaGateOwns
namespace Go.Proofs.Ytjfhoaahohinhaa.Mm
open Go.ChangeShapes Go.WideShapes Go.ChangeAt Go.RowKit
set_option linter.unusedVariables false

theorem gateOwns_walk (c : Cp) (at_ n : Int) (A : Option Addr) (cap : Nat) (l : List Int) (w : World) (oc : c.Ok) (wa : (Lit.int .u32 at_).wf = true) (wn : (Lit.int .u32 n).wf = true) (rA : RowAt w A cap l) :
    Calls Try.prog 3 #[c.val, .int .u32 at_, .int .u32 n, .slice A l.length cap] w fun e w' => e = .returned (.bool true) ∧ Below w.heap.size w w' :=
  vowns (Lib.hid (awake_gate do_code)) (Lib.hid do_code) (Lib.hid owns_code) c at_ n A cap l w oc wa wn rA
end Go.Proofs.Ytjfhoaahohinhaa.Mm
