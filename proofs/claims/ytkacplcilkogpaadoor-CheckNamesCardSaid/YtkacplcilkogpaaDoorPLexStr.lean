/- Texts put together; what Read answers, in the forms that the statements use. -/
import Derived.Test.YtkacplcilkogpaaDoorPLxB
namespace Go.Proofs.YtkacplcilkogpaaDoor.Mm
open Go.ChangeShapes Go.WideShapes Go.ChangeAt Go.RowKit
set_option linter.unusedVariables false

theorem strB_app (a b : Bs) : strB a ++ strB b = strB (a ++ b) := by
  apply ByteArray.ext
  simp [strB, ByteArray.data_append]
end Go.Proofs.YtkacplcilkogpaaDoor.Mm
