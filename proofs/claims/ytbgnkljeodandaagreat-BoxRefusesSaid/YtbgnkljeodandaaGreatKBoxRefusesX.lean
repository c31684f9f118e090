/- The statement BoxRefuses, walked: the walk over contracts, with the contracts of the landed package put in. -/
import Derived.Test.YtbgnkljeodandaaGreatKBoxCode
import Derived.Test.YtbgnkljeodandaaGreatKRow
import Derived.Test.YtbgnkljeodandaaGreatKBoxRefusesW
import Derived.Test.YtbgnkljeodandaaGreatKVerRef
namespace Go.Proofs.YtbgnkljeodandaaGreat.Mm
open Go.ChangeShapes Go.WideShapes Go.ChangeAt Go.RowKit
set_option linter.unusedVariables false

theorem boxRefuses_walk (A0 : Option Addr) (ca : Nat) (C : List Int) (D0 : Option Addr) (cd : Nat) (D : List Int) (b s : Int) (w : World) (rA : RowAt w A0 ca C) (rD : RowAt w D0 cd D) (hb : (Lit.int .i64 b).wf = true) (hs : (Lit.int .i64 s).wf = true) :
    Calls Tryz.prog 6 #[.slice A0 C.length ca, .slice D0 D.length cd, .int .i64 b, .int .i64 s] w fun e w' => e = .returned (.bool true) ∧ Below w.heap.size w w' :=
  vrefuses (Lib.hid awB_code) (Lib.hid newC) (Lib.hid rCode_any) A0 ca C D0 cd D b s w rA rD hb hs
end Go.Proofs.YtbgnkljeodandaaGreat.Mm
