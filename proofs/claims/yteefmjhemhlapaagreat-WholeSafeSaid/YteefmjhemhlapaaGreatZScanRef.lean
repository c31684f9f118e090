/- The document's own Scan. -/
import Derived.Test.YteefmjhemhlapaaGreatZScB
import Derived.Test.YteefmjhemhlapaaGreatZIsR
namespace Go.Proofs.YteefmjhemhlapaaGreat.Mm
open Go.ChangeShapes Go.WideShapes Go.ChangeAt Go.RowKit
set_option linter.unusedVariables false
set_option maxRecDepth 10000
theorem own_below {A B : World} {base size n : Nat} {e : TypeId} {v : Value} {xs : List Value} (h : A.ownsRow base e size v n xs) (b : Below A.heap.size A B) : B.ownsRow base e size v n xs := own_kept h (grown_below b) (fun r e => by cases e)
theorem own_al {A : World} {base size n : Nat} {e : TypeId} {v : Value} {xs : List Value} (h : A.ownsRow base e size v n xs) (o : Obj) : (A.alloc o).ownsRow base e size v n xs := own_below h ((Below.refl _ _).alloc (Nat.le_refl _) o)
end Go.Proofs.YteefmjhemhlapaaGreat.Mm
