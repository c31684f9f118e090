/- The statement VerifyPlays, walked: the walk over contracts, with the contracts of the landed package put in. -/
import Derived.Test.YtinehmagkdgiiaaVerCode
import Derived.Test.YtinehmagkdgiiaaVerPlays
namespace Go.Proofs.Ytinehmagkdgiiaa.Mm
open Go.ChangeShapes Go.WideShapes Go.ChangeAt Go.RowKit

theorem verifyPlays_walk (A : Option Addr) (ca : Nat) (C : List Int) (B : Option Addr) (cb : Nat) (D : List Int) (n s : Int) (w : World) (rA : RowAt w A ca C) (rB : RowAt w B cb D) (hn : (Lit.int .i64 n).wf = true) (hs : (Lit.int .i64 s).wf = true) :
    Calls Try.prog 3 #[.slice A C.length ca, .slice B D.length cb, .int .i64 n, .int .i64 s] w fun e w' => e = .returned (.bool true) ∧ Below w.heap.size w w' :=
  vplays (Lib.hid awC) (Lib.hid codeC) (Lib.hid fitsC) (Lib.hid imageC) A ca C B cb D n s w rA rB hn hs
end Go.Proofs.Ytinehmagkdgiiaa.Mm
