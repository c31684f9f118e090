/- The statement GateText, walked: the walk over contracts, with the contracts of the landed package put in. -/
import Derived.Test.YtjfhoaahohinhaaGateCode
import Derived.Test.YtjfhoaahohinhaaGateTextCode
import Derived.Test.YtjfhoaahohinhaaGateText
namespace Go.Proofs.Ytjfhoaahohinhaa.Mm
open Go.ChangeShapes Go.WideShapes Go.ChangeAt Go.RowKit
set_option linter.unusedVariables false

theorem gateText_walk (A : Option Addr) (n cap : Nat) (w : World) (rA : ∃ L : List Ev, n = L.length ∧ EvRow w A cap L) :
    Calls Try.prog 4 #[.slice A n cap] w fun e w' => e = .returned (.bool true) ∧ Below w.heap.size w w' :=
  vtext (Lib.hid (awake_gate do_code)) (Lib.hid text_code) A n cap w rA
end Go.Proofs.Ytjfhoaahohinhaa.Mm
