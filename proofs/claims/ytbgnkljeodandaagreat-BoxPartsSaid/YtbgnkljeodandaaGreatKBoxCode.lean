/- The landed package box meets what the walks ask of it. -/
import Derived.Test.YtbgnkljeodandaaGreatKBxN
import Derived.Test.YtbgnkljeodandaaGreatKBxC
import Derived.Test.YtbgnkljeodandaaGreatKBxS
namespace Go.Proofs.YtbgnkljeodandaaGreat.Mm
open Go.ChangeShapes Go.WideShapes Go.ChangeAt Go.RowKit
set_option linter.unusedVariables false

theorem sliceC2_code : SliceC2 := slice_code (Lib.hid do_code2)
theorem sliceC_code : SliceC := sliceC_of sliceC2_code
theorem awB_code : AwB := awake_box newC sliceC_code
end Go.Proofs.YtbgnkljeodandaaGreat.Mm
