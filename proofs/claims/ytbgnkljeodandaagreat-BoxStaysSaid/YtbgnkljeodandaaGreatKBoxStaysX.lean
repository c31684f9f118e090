/- The statement BoxStays, walked: the walk over contracts, with the contracts of the landed package put in. -/
import Derived.Test.YtbgnkljeodandaaGreatKBoxCode
import Derived.Test.YtbgnkljeodandaaGreatKRow
import Derived.Test.YtbgnkljeodandaaGreatKBoxStays
namespace Go.Proofs.YtbgnkljeodandaaGreat.Mm
open Go.ChangeShapes Go.WideShapes Go.ChangeAt Go.RowKit
set_option linter.unusedVariables false

theorem boxStays_walk (A0 : Option Addr) (ca : Nat) (C : List Int) (D0 : Option Addr) (cd : Nat) (D : List Int) (n : Int) (w : World) (rA : RowAt w A0 ca C) (rD : RowAt w D0 cd D) (hn : (Lit.int .u8 n).wf = true) :
    Calls Tryz.prog 4 #[.slice A0 C.length ca, .slice D0 D.length cd, .int .u8 n] w fun e w' => e = .returned (.bool true) ∧ Below w.heap.size w w' :=
  vstays (Lib.hid awB_code) (Lib.hid newC) (Lib.hid sliceC_code) (Lib.hid clearC) A0 ca C D0 cd D n w rA rD hn
end Go.Proofs.YtbgnkljeodandaaGreat.Mm
