/-
  No cell of these rows narrows 'for every input' (looked for: loops, veiled, ifaces, maps, wideKeys, modest, calm, conditions, laid).
  DERIVED. THE GIVEN ROWS OF THIS SEAT. 6 by the template 'for every input the law returns true; each argument reads behind the call as it read before'; 0 by the template 'total and deterministic' (their statements: YtalglocplebonaaTotals.lean).
  GIVEN WITH THE SEED: the statements are not yours to turn. If you find one false, say at which input.
  Laid BY PROGRAM, IN A SANDBOX (cutbox-rows.mjs): the forced cells as the released guide's own fill.sh prints them over the translation 229eba226bd9e606… (all of the seat's roots in one cut). By AI agents, Wed Nov 11 2026. No macro, syntax, notation, axiom, sorry.
-/
import Derived.Test.YtalglocplebonaaChecked
import GoSem.Claim
import GoSem.ClaimJoined
import GoSem.ClaimMapViews
import Derived.JoinedTies
import Derived.KernelRfl
namespace Go.Proofs.Ytalglocplebonaa
/- THE CELL 'sum', in the pinned program and in every row, IS THE sha256 OF THE DUMP (.gsa) THAT YtalglocplebonaaProg.lean LOADS. Nothing in Lean hashes anything: it is a label: what it is worth is what the hold of that sum in a sandbox is worth. -/
noncomputable def Try.pinned : Pinned := { name := "ytalglocplebonaa", sum := "229eba226bd9e6065eef9534999c8294aa55a9f8a73dbd19b867fcfc2bf432de", checked := Try.checked }
namespace Rows
def none {H : Type} : Left H := { results := [], args := [] }

/-- 'corrallaw11.SlabPlays': WHATEVER THE INPUT: true; the input reads as it did. -/
def slabPlaysSpec : ChangeSpec := { name := "slabPlays", fn := fun _ => fun
  | [d1, d2, d3] => { results := [.lit (.bool true)], args := [d1, d2, d3] }
  | _ => none }
def slabPlaysRow : OpenClaim := { program := "ytalglocplebonaa", sum := "229eba226bd9e6065eef9534999c8294aa55a9f8a73dbd19b867fcfc2bf432de", func := "corral/corrallaw11.SlabPlays", spec := "slabPlays", apart := false }
def SlabPlaysSaid : Prop := slabPlaysRow.holds Try.pinned (OpenSpec.ofChange slabPlaysSpec)

/-- ITS FALSE NEIGHBOUR: 'it returns false'. Refute it at one input. -/
def slabPlaysWrong : ChangeSpec := { name := "slabPlays", fn := fun _ => fun
  | [d1, d2, d3] => { results := [.lit (.bool false)], args := [d1, d2, d3] }
  | _ => none }
def SlabPlaysWrongFalsely : Prop := slabPlaysRow.holds Try.pinned (OpenSpec.ofChange slabPlaysWrong)

/-- 'corrallaw11.SlabTakes': WHATEVER THE INPUT: true; the input reads as it did. -/
def slabTakesSpec : ChangeSpec := { name := "slabTakes", fn := fun _ => fun
  | [d1, d2, d3] => { results := [.lit (.bool true)], args := [d1, d2, d3] }
  | _ => none }
def slabTakesRow : OpenClaim := { program := "ytalglocplebonaa", sum := "229eba226bd9e6065eef9534999c8294aa55a9f8a73dbd19b867fcfc2bf432de", func := "corral/corrallaw11.SlabTakes", spec := "slabTakes", unfollowed := true, recurses := true, apart := false }
def SlabTakesSaid : Prop := slabTakesRow.holds Try.pinned (OpenSpec.ofChange slabTakesSpec)

/-- ITS FALSE NEIGHBOUR: 'it returns false'. Refute it at one input. -/
def slabTakesWrong : ChangeSpec := { name := "slabTakes", fn := fun _ => fun
  | [d1, d2, d3] => { results := [.lit (.bool false)], args := [d1, d2, d3] }
  | _ => none }
def SlabTakesWrongFalsely : Prop := slabTakesRow.holds Try.pinned (OpenSpec.ofChange slabTakesWrong)

/-- 'corrallaw11.SlabApart': WHATEVER THE INPUT: true; the input reads as it did. -/
def slabApartSpec : ChangeSpec := { name := "slabApart", fn := fun _ => fun
  | [d1, d2] => { results := [.lit (.bool true)], args := [d1, d2] }
  | _ => none }
def slabApartRow : OpenClaim := { program := "ytalglocplebonaa", sum := "229eba226bd9e6065eef9534999c8294aa55a9f8a73dbd19b867fcfc2bf432de", func := "corral/corrallaw11.SlabApart", spec := "slabApart", apart := false }
def SlabApartSaid : Prop := slabApartRow.holds Try.pinned (OpenSpec.ofChange slabApartSpec)

/-- ITS FALSE NEIGHBOUR: 'it returns false'. Refute it at one input. -/
def slabApartWrong : ChangeSpec := { name := "slabApart", fn := fun _ => fun
  | [d1, d2] => { results := [.lit (.bool false)], args := [d1, d2] }
  | _ => none }
def SlabApartWrongFalsely : Prop := slabApartRow.holds Try.pinned (OpenSpec.ofChange slabApartWrong)

/-- 'corrallaw11.SlabAdds': WHATEVER THE INPUT: true; the input reads as it did. -/
def slabAddsSpec : ChangeSpec := { name := "slabAdds", fn := fun _ => fun
  | [d1, d2] => { results := [.lit (.bool true)], args := [d1, d2] }
  | _ => none }
def slabAddsRow : OpenClaim := { program := "ytalglocplebonaa", sum := "229eba226bd9e6065eef9534999c8294aa55a9f8a73dbd19b867fcfc2bf432de", func := "corral/corrallaw11.SlabAdds", spec := "slabAdds", unfollowed := true, recurses := true, apart := false }
def SlabAddsSaid : Prop := slabAddsRow.holds Try.pinned (OpenSpec.ofChange slabAddsSpec)

/-- ITS FALSE NEIGHBOUR: 'it returns false'. Refute it at one input. -/
def slabAddsWrong : ChangeSpec := { name := "slabAdds", fn := fun _ => fun
  | [d1, d2] => { results := [.lit (.bool false)], args := [d1, d2] }
  | _ => none }
def SlabAddsWrongFalsely : Prop := slabAddsRow.holds Try.pinned (OpenSpec.ofChange slabAddsWrong)

/-- 'corrallaw11.SlabFull': WHATEVER THE INPUT: true; the input reads as it did. -/
def slabFullSpec : ChangeSpec := { name := "slabFull", fn := fun _ => fun
  | [d1, d2] => { results := [.lit (.bool true)], args := [d1, d2] }
  | _ => none }
def slabFullRow : OpenClaim := { program := "ytalglocplebonaa", sum := "229eba226bd9e6065eef9534999c8294aa55a9f8a73dbd19b867fcfc2bf432de", func := "corral/corrallaw11.SlabFull", spec := "slabFull", apart := false }
def SlabFullSaid : Prop := slabFullRow.holds Try.pinned (OpenSpec.ofChange slabFullSpec)

/-- ITS FALSE NEIGHBOUR: 'it returns false'. Refute it at one input. -/
def slabFullWrong : ChangeSpec := { name := "slabFull", fn := fun _ => fun
  | [d1, d2] => { results := [.lit (.bool false)], args := [d1, d2] }
  | _ => none }
def SlabFullWrongFalsely : Prop := slabFullRow.holds Try.pinned (OpenSpec.ofChange slabFullWrong)

/-- 'corrallaw11.SlabOrder': WHATEVER THE INPUT: true; the input reads as it did. -/
def slabOrderSpec : ChangeSpec := { name := "slabOrder", fn := fun _ => fun
  | [d] => { results := [.lit (.bool true)], args := [d] }
  | _ => none }
def slabOrderRow : OpenClaim := { program := "ytalglocplebonaa", sum := "229eba226bd9e6065eef9534999c8294aa55a9f8a73dbd19b867fcfc2bf432de", func := "corral/corrallaw11.SlabOrder", spec := "slabOrder", unfollowed := true, recurses := true, apart := false }
def SlabOrderSaid : Prop := slabOrderRow.holds Try.pinned (OpenSpec.ofChange slabOrderSpec)

/-- ITS FALSE NEIGHBOUR: 'it returns false'. Refute it at one input. -/
def slabOrderWrong : ChangeSpec := { name := "slabOrder", fn := fun _ => fun
  | [d] => { results := [.lit (.bool false)], args := [d] }
  | _ => none }
def SlabOrderWrongFalsely : Prop := slabOrderRow.holds Try.pinned (OpenSpec.ofChange slabOrderWrong)

/- THE SECOND FORM. 'bulk': how many values and letters a reading holds, each counted each time it is reached (what is shared counts as often as it is met; a slice's spare places count too). A statement '..UptoSaid' is the law's where the arguments, and the package variables that the reading takes, are together of bulk at most 1048576: NARROWER than '..Said'. Prove '..Said' where nothing that the law and all that it calls make is longer than what came in: it says more and counts as full. Else prove '..UptoSaid'. A law counts once. -/
mutual
def uptoBulk {H : Type} : DataW H → Nat
  | .lit (.string bytes) => bytes.length + 1
  | .lit _ => 1
  | .nil => 1
  | .ptr d => uptoBulk d + 1
  | .slice elems spare => uptoBulkAll elems + uptoBulkAll spare + 1
  | .agg parts => uptoBulkAll parts + 1
  | .iface _ d => uptoBulk d + 1
  | .map entries => uptoBulkEntries entries + 1
  | .held _ => 1
def uptoBulkAll {H : Type} : List (DataW H) → Nat
  | [] => 0
  | d :: r => uptoBulk d + uptoBulkAll r
def uptoBulkEntries {H : Type} : List (Lit × DataW H) → Nat
  | [] => 0
  | x :: r => uptoBulkEntry x + uptoBulkEntries r
def uptoBulkEntry {H : Type} : Lit × DataW H → Nat
  | (.string bytes, d) => bytes.length + uptoBulk d + 1
  | (_, d) => uptoBulk d + 1
 end
def uptoSmall : (H : Type) → List (DataW H) → Bool := fun _ ds => decide (uptoBulkAll ds ≤ 1048576)
def OpenSpec.upto (s : _root_.Go.ChangeSpec) : _root_.Go.OpenSpec := { _root_.Go.OpenSpec.ofChange s with cond := some uptoSmall }

/-- 'corrallaw11.SlabPlays', WHERE WHAT IT READS IS OF BULK AT MOST 1048576: true; the input reads as it did. -/
def slabPlaysUptoRow : OpenClaim := { program := "ytalglocplebonaa", sum := "229eba226bd9e6065eef9534999c8294aa55a9f8a73dbd19b867fcfc2bf432de", func := "corral/corrallaw11.SlabPlays", spec := "slabPlays", apart := false, narrowed := true }
def SlabPlaysUptoSaid : Prop := slabPlaysUptoRow.holds Try.pinned (OpenSpec.upto slabPlaysSpec)

/-- 'corrallaw11.SlabTakes', WHERE WHAT IT READS IS OF BULK AT MOST 1048576: true; the input reads as it did. -/
def slabTakesUptoRow : OpenClaim := { program := "ytalglocplebonaa", sum := "229eba226bd9e6065eef9534999c8294aa55a9f8a73dbd19b867fcfc2bf432de", func := "corral/corrallaw11.SlabTakes", spec := "slabTakes", unfollowed := true, recurses := true, apart := false, narrowed := true }
def SlabTakesUptoSaid : Prop := slabTakesUptoRow.holds Try.pinned (OpenSpec.upto slabTakesSpec)

/-- 'corrallaw11.SlabApart', WHERE WHAT IT READS IS OF BULK AT MOST 1048576: true; the input reads as it did. -/
def slabApartUptoRow : OpenClaim := { program := "ytalglocplebonaa", sum := "229eba226bd9e6065eef9534999c8294aa55a9f8a73dbd19b867fcfc2bf432de", func := "corral/corrallaw11.SlabApart", spec := "slabApart", apart := false, narrowed := true }
def SlabApartUptoSaid : Prop := slabApartUptoRow.holds Try.pinned (OpenSpec.upto slabApartSpec)

/-- 'corrallaw11.SlabAdds', WHERE WHAT IT READS IS OF BULK AT MOST 1048576: true; the input reads as it did. -/
def slabAddsUptoRow : OpenClaim := { program := "ytalglocplebonaa", sum := "229eba226bd9e6065eef9534999c8294aa55a9f8a73dbd19b867fcfc2bf432de", func := "corral/corrallaw11.SlabAdds", spec := "slabAdds", unfollowed := true, recurses := true, apart := false, narrowed := true }
def SlabAddsUptoSaid : Prop := slabAddsUptoRow.holds Try.pinned (OpenSpec.upto slabAddsSpec)

/-- 'corrallaw11.SlabFull', WHERE WHAT IT READS IS OF BULK AT MOST 1048576: true; the input reads as it did. -/
def slabFullUptoRow : OpenClaim := { program := "ytalglocplebonaa", sum := "229eba226bd9e6065eef9534999c8294aa55a9f8a73dbd19b867fcfc2bf432de", func := "corral/corrallaw11.SlabFull", spec := "slabFull", apart := false, narrowed := true }
def SlabFullUptoSaid : Prop := slabFullUptoRow.holds Try.pinned (OpenSpec.upto slabFullSpec)

/-- 'corrallaw11.SlabOrder', WHERE WHAT IT READS IS OF BULK AT MOST 1048576: true; the input reads as it did. -/
def slabOrderUptoRow : OpenClaim := { program := "ytalglocplebonaa", sum := "229eba226bd9e6065eef9534999c8294aa55a9f8a73dbd19b867fcfc2bf432de", func := "corral/corrallaw11.SlabOrder", spec := "slabOrder", unfollowed := true, recurses := true, apart := false, narrowed := true }
def SlabOrderUptoSaid : Prop := slabOrderUptoRow.holds Try.pinned (OpenSpec.upto slabOrderSpec)

end Rows
end Go.Proofs.Ytalglocplebonaa
