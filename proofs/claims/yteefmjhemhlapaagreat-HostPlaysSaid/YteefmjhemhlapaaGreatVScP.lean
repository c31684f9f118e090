/- Merged by wip/tools/regroup: ScanPadW, ScanPad2, ScanOpen, ScanFits, ScanTwice, ScanParts. -/
import Derived.Test.YteefmjhemhlapaaGreatVScB
import Derived.Test.YteefmjhemhlapaaGreatVIsA
import Derived.Test.YteefmjhemhlapaaGreatVIsB
import Derived.Test.YteefmjhemhlapaaGreatVScA
import Derived.Lib.AppendStr
import Derived.Deep.Slices
import Derived.Deep.Fields
import Derived.ChangeSame
namespace Go.Proofs.YteefmjhemhlapaaGreat.Mm
open Go.ChangeShapes Go.WideShapes Go.ChangeAt Go.RowKit
set_option linter.unusedVariables false
set_option maxRecDepth 10000
theorem app_byte {L M:List Int} (h:Bytes L) (k:Bytes M):Bytes (L ++ M):=fun x hx=>(List.mem_append.1 hx).elim (h x) (k x)
end Go.Proofs.YteefmjhemhlapaaGreat.Mm
namespace Go.Proofs.YteefmjhemhlapaaGreat.Mm
open Go.ChangeShapes Go.WideShapes Go.ChangeAt Go.RowKit
set_option linter.unusedVariables false
set_option maxRecDepth 10000
end Go.Proofs.YteefmjhemhlapaaGreat.Mm
namespace Go.Proofs.YteefmjhemhlapaaGreat.Mm
open Go.ChangeShapes Go.WideShapes Go.ChangeAt Go.RowKit
set_option linter.unusedVariables false
set_option maxRecDepth 10000
theorem u32_bd {n:Int} (h:(Lit.int .u32 n).wf=true):0≤n∧n < 4294967296:=by
  have:=bounds_u32 h
  omega
end Go.Proofs.YteefmjhemhlapaaGreat.Mm
namespace Go.Proofs.YteefmjhemhlapaaGreat.Mm
open Go.ChangeShapes Go.WideShapes Go.ChangeAt Go.RowKit
set_option linter.unusedVariables false
set_option maxRecDepth 10000
end Go.Proofs.YteefmjhemhlapaaGreat.Mm
namespace Go.Proofs.YteefmjhemhlapaaGreat.Mm
open Go.ChangeShapes Go.WideShapes Go.ChangeAt Go.RowKit
set_option linter.unusedVariables false
set_option maxRecDepth 10000
end Go.Proofs.YteefmjhemhlapaaGreat.Mm
namespace Go.Proofs.YteefmjhemhlapaaGreat.Mm
open Go.ChangeShapes Go.WideShapes Go.ChangeAt Go.RowKit
set_option linter.unusedVariables false
set_option maxRecDepth 10000
end Go.Proofs.YteefmjhemhlapaaGreat.Mm
