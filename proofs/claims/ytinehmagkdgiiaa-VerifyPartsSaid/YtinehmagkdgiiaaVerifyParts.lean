/- The statement VerifyParts, walked: the walk over contracts, with the contracts of the landed package put in. -/
import Derived.Test.YtinehmagkdgiiaaVerCode
import Derived.Test.YtinehmagkdgiiaaVerParts
namespace Go.Proofs.Ytinehmagkdgiiaa.Mm
open Go.ChangeShapes Go.WideShapes Go.ChangeAt Go.RowKit

theorem verifyParts_walk (A : Option Addr) (c : Nat) (a : List Int) (B : Option Addr) (d : Nat) (b : List Int) (w : World) (ra : RowAt w A c a) (rb : RowAt w B d b) :
    Calls Try.prog 7 #[.slice A a.length c, .slice B b.length d] w fun e w' => e = .returned (.bool true) ∧ Below w.heap.size w w' :=
  vparts (Lib.hid awC) (Lib.hid codeC) A c a B d b w ra rb
end Go.Proofs.Ytinehmagkdgiiaa.Mm
