/- The statement VerifyImages, walked: the walk over contracts, with the contracts of the landed package put in. -/
import Derived.Test.YtinehmagkdgiiaaVerCode
namespace Go.Proofs.Ytinehmagkdgiiaa.Mm
open Go.ChangeShapes Go.WideShapes Go.ChangeAt Go.RowKit

theorem verifyImages_walk (A : Option Addr) (ca : Nat) (C : List Int) (B : Option Addr) (cb : Nat) (D : List Int) (w : World) (rA : RowAt w A ca C) (rB : RowAt w B cb D) :
    Calls Try.prog 6 #[.slice A C.length ca, .slice B D.length cb] w fun e w' => e = .returned (.bool true) ∧ Below w.heap.size w w' :=
  vimages (Lib.hid awC) (Lib.hid codeC) (Lib.hid imageC) A ca C B cb D w rA rB
end Go.Proofs.Ytinehmagkdgiiaa.Mm
