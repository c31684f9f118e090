/- Merged by wip/tools/regroup: ScanPadW, ScanPad2, ScanOpen, ScanFits, ScanTwice, ScanParts. -/
import Derived.Test.YtjmbaiijmhkdpaaGreatDScB
import Derived.Test.YtjmbaiijmhkdpaaGreatDIsA
import Derived.Test.YtjmbaiijmhkdpaaGreatDIsB
import Derived.Test.YtjmbaiijmhkdpaaGreatDScA
import Derived.Lib.AppendStr
import Derived.Deep.Slices
import Derived.Deep.Fields
import Derived.ChangeSame
namespace Go.Proofs.YtjmbaiijmhkdpaaGreat.Mm
open Go.ChangeShapes Go.WideShapes Go.ChangeAt Go.RowKit
set_option linter.unusedVariables false
set_option maxRecDepth 10000
theorem app_byte {L M : List Int} (h : Bytes L) (k : Bytes M) : Bytes (L ++ M) := fun x hx => (List.mem_append.1 hx).elim (h x) (k x)
end Go.Proofs.YtjmbaiijmhkdpaaGreat.Mm
namespace Go.Proofs.YtjmbaiijmhkdpaaGreat.Mm
open Go.ChangeShapes Go.WideShapes Go.ChangeAt Go.RowKit
set_option linter.unusedVariables false
set_option maxRecDepth 10000
end Go.Proofs.YtjmbaiijmhkdpaaGreat.Mm
namespace Go.Proofs.YtjmbaiijmhkdpaaGreat.Mm
open Go.ChangeShapes Go.WideShapes Go.ChangeAt Go.RowKit
set_option linter.unusedVariables false
set_option maxRecDepth 10000
theorem u32_bd {n : Int} (h : (Lit.int .u32 n).wf = true) : 0 ≤ n ∧ n < 4294967296 := by
  have := bounds_u32 h
  omega
end Go.Proofs.YtjmbaiijmhkdpaaGreat.Mm
namespace Go.Proofs.YtjmbaiijmhkdpaaGreat.Mm
open Go.ChangeShapes Go.WideShapes Go.ChangeAt Go.RowKit
set_option linter.unusedVariables false
set_option maxRecDepth 10000
end Go.Proofs.YtjmbaiijmhkdpaaGreat.Mm
namespace Go.Proofs.YtjmbaiijmhkdpaaGreat.Mm
open Go.ChangeShapes Go.WideShapes Go.ChangeAt Go.RowKit
set_option linter.unusedVariables false
set_option maxRecDepth 10000
end Go.Proofs.YtjmbaiijmhkdpaaGreat.Mm
namespace Go.Proofs.YtjmbaiijmhkdpaaGreat.Mm
open Go.ChangeShapes Go.WideShapes Go.ChangeAt Go.RowKit
set_option linter.unusedVariables false
set_option maxRecDepth 10000
end Go.Proofs.YtjmbaiijmhkdpaaGreat.Mm
