/- What the calls of the document's own answers for layer 1 come to (Sign, Of, bit, Bits, Do). -/
import Derived.Test.YteefmjhemhlapaaGreatVWordWalks
import Derived.Lib.Hide
namespace Go.Proofs.YteefmjhemhlapaaGreat
open Go.ChangeShapes Go.WideShapes Go.ChangeAt Go.RowKit
set_option linter.unusedVariables false
set_option maxRecDepth 10000
theorem rsign_any (a:Int) (h0:0≤a) (h1:a < 4294967296) (w:World):Calls Tryz.prog 83 #[.int .u32 a] w fun e w'=>e=.returned (.int .i64 (wrap32 a))∧w=w':=by
  by_cases h:2147483648≤a
  · have e:=wrap32_hi a h h1
    have E:=Lib.hid e;clear e
    go_enter Tryz.func83,Tryz.ntmps83
    go_wp2
    go_ret
    exact ⟨ret_int E.out.symm,rfl⟩
  · have e:=wrap32_lo a h0 (by omega)
    have E:=Lib.hid e;clear e
    go_enter Tryz.func83,Tryz.ntmps83
    go_wp2
    go_ret
    exact ⟨ret_int E.out.symm,rfl⟩
end Go.Proofs.YteefmjhemhlapaaGreat
