/- The statement GateTold, walked: the walk over contracts, with the contracts of the landed package put in. -/
import Derived.Test.YtjfhoaahohinhaaGateCode
import Derived.Test.YtjfhoaahohinhaaGateTold
namespace Go.Proofs.Ytjfhoaahohinhaa.Mm
open Go.ChangeShapes Go.WideShapes Go.ChangeAt Go.RowKit
set_option linter.unusedVariables false

theorem gateTold_walk (A : Option Addr) (n ca : Nat) (q : Int) (w : World) (rA : ∃ l : List Int, n = l.length ∧ KRow .u32 w A ca l) (wq : (Lit.int .u8 q).wf = true) :
    Calls Try.prog 5 #[.slice A n ca, .int .u8 q] w fun e w' => e = .returned (.bool true) ∧ Below w.heap.size w w' :=
  vtold (Lib.hid (awake_gate do_code)) (Lib.hid do_code) A n ca q w rA wq
end Go.Proofs.Ytjfhoaahohinhaa.Mm
