/- The statement BoxParts, walked: the walk over contracts, with the contracts of the landed package put in. -/
import Derived.Test.YtbgnkljeodandaaGreatKBoxCode
import Derived.Test.YtbgnkljeodandaaGreatKRow
import Derived.Test.YtbgnkljeodandaaGreatKBoxParts
namespace Go.Proofs.YtbgnkljeodandaaGreat.Mm
open Go.ChangeShapes Go.WideShapes Go.ChangeAt Go.RowKit
set_option linter.unusedVariables false

theorem boxParts_walk (A0 : Option Addr) (ca : Nat) (C : List Int) (D0 : Option Addr) (cd : Nat) (D : List Int) (R0 : Option Addr) (rl cr : Nat) (u v : Int) (w : World) (rA : RowAt w A0 ca C) (rD : RowAt w D0 cd D) (rR : ∃ R : List Int, rl = R.length ∧ KRow .u32 w R0 cr R) (hu : (Lit.int .u8 u).wf = true) (hv : (Lit.int .u8 v).wf = true) :
    Calls Tryz.prog 5 #[.slice A0 C.length ca, .slice D0 D.length cd, .slice R0 rl cr, .int .u8 u, .int .u8 v] w fun e w' => e = .returned (.bool true) ∧ Below w.heap.size w w' :=
  vparts13 (Lib.hid awB_code) (Lib.hid newC) (Lib.hid sliceC_code) A0 ca C D0 cd D R0 rl cr u v w rA rD rR hu hv
end Go.Proofs.YtbgnkljeodandaaGreat.Mm
