/- The statement VerifyInside, walked: the walk over contracts, with the contracts of the landed package put in. -/
import Derived.Test.YtinehmagkdgiiaaVerCode
namespace Go.Proofs.Ytinehmagkdgiiaa.Mm
open Go.ChangeShapes Go.WideShapes Go.ChangeAt Go.RowKit

theorem verifyInside_walk (b s a : Int) (w : World) (hb : (Lit.int .u32 b).wf = true) (hs : (Lit.int .u32 s).wf = true) (ha : (Lit.int .u32 a).wf = true) :
    Calls Try.prog 5 #[.int .u32 b, .int .u32 s, .int .u32 a] w fun e w' => e = .returned (.bool true) ∧ Below w.heap.size w w' :=
  vinside (Lib.hid awC) (Lib.hid insideC) b s a ⟨(bounds_u32 hb).1, by have := (bounds_u32 hb).2; omega⟩ ⟨(bounds_u32 hs).1, by have := (bounds_u32 hs).2; omega⟩ ⟨(bounds_u32 ha).1, by have := (bounds_u32 ha).2; omega⟩ w
end Go.Proofs.Ytinehmagkdgiiaa.Mm
