/- The statements WordParts, WordBack and WordShifts, walked: each returns true, and touches no memory. -/
import Derived.Test.YtjcggpaiminecaaWordWalks
import Derived.Test.YtjcggpaiminecaaWordLawMath
import Derived.Lib.Hide
namespace Go.Proofs.Ytjcggpaiminecaa
open Go.ChangeShapes Go.WideShapes Go.ChangeAt Go.RowKit
set_option linter.unusedVariables false

theorem do_is (op a b v : Int) (k : Bool) (hv : doV op a b = v) (hk : doK op b = k) (h0 : 0 ≤ a) (h1 : a < 4294967296) (h2 : 0 ≤ b) (h3 : b < 4294967296) (w : World) :
    Calls Try.prog 53 #[.int .i64 op, .int .u32 a, .int .u32 b] w fun e w' => e = .returned (.tuple #[.int .u32 v, .bool k]) ∧ w = w' := by
  subst hv hk; exact do_any op a b h0 h1 h2 h3 w

end Go.Proofs.Ytjcggpaiminecaa
