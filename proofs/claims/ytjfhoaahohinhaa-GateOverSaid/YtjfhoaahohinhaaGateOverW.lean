/- The statement GateOver, walked: the walk over contracts, with the contracts of the landed package put in. -/
import Derived.Test.YtjfhoaahohinhaaGateCode
import Derived.Test.YtjfhoaahohinhaaGateOver
namespace Go.Proofs.Ytjfhoaahohinhaa.Mm
open Go.ChangeShapes Go.WideShapes Go.ChangeAt Go.RowKit
set_option linter.unusedVariables false

theorem gateOver_walk (v : Int) (A : Option Addr) (n ca : Nat) (w : World) (wv : (Lit.int .u32 v).wf = true) (rA : ∃ l : List Int, n = l.length ∧ KRow .i64 w A ca l) :
    Calls Try.prog 6 #[.int .u32 v, .slice A n ca] w fun e w' => e = .returned (.bool true) ∧ Below w.heap.size w w' :=
  vover (Lib.hid (awake_gate do_code)) (Lib.hid do_code) v A n ca w wv rA
end Go.Proofs.Ytjfhoaahohinhaa.Mm
