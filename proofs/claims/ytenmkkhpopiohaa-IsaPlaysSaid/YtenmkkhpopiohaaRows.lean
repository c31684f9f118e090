/-
  No cell of these rows narrows 'for every input' (looked for: loops, veiled, ifaces, maps, wideKeys, modest, calm, conditions, laid).
  DERIVED. THE GIVEN ROWS OF THIS SEAT. 6 by the template 'for every input the law returns true; each argument reads behind the call as it read before'; 0 by the template 'total and deterministic' (their statements: YtenmkkhpopiohaaTotals.lean).
  GIVEN WITH THE SEED: the statements are not yours to turn. If you find one false, say at which input.
  Laid BY PROGRAM, IN A SANDBOX (cutbox-rows.mjs): the forced cells as the released guide's own fill.sh prints them over the translation ffc894b99dedcd21… (all of the seat's roots in one cut). By AI agents, Wed Nov 11 2026. No macro, syntax, notation, axiom, sorry.
-/
import Derived.Test.YtenmkkhpopiohaaChecked
import GoSem.Claim
import GoSem.ClaimJoined
import GoSem.ClaimMapViews
import Derived.JoinedTies
import Derived.KernelRfl
namespace Go.Proofs.Ytenmkkhpopiohaa
/- THE CELL 'sum', in the pinned program and in every row, IS THE sha256 OF THE DUMP (.gsa) THAT YtenmkkhpopiohaaProg.lean LOADS. Nothing in Lean hashes anything: it is a label: what it is worth is what the hold of that sum in a sandbox is worth. -/
noncomputable def Try.pinned : Pinned := { name := "ytenmkkhpopiohaa", sum := "ffc894b99dedcd217c5e5b3fe64a837d5ec66c2e53367671b7c609a0e415265a", checked := Try.checked }
namespace Rows
def none {H : Type} : Left H := { results := [], args := [] }

/-- 'corrallaw02.IsaBack': WHATEVER THE INPUT: true; the input reads as it did. -/
def isaBackSpec : ChangeSpec := { name := "isaBack", fn := fun _ => fun
  | [d1, d2, d3] => { results := [.lit (.bool true)], args := [d1, d2, d3] }
  | _ => none }
def isaBackRow : OpenClaim := { program := "ytenmkkhpopiohaa", sum := "ffc894b99dedcd217c5e5b3fe64a837d5ec66c2e53367671b7c609a0e415265a", func := "corral/corrallaw02.IsaBack", spec := "isaBack", apart := false }
def IsaBackSaid : Prop := isaBackRow.holds Try.pinned (OpenSpec.ofChange isaBackSpec)

/-- ITS FALSE NEIGHBOUR: 'it returns false'. Refute it at one input. -/
def isaBackWrong : ChangeSpec := { name := "isaBack", fn := fun _ => fun
  | [d1, d2, d3] => { results := [.lit (.bool false)], args := [d1, d2, d3] }
  | _ => none }
def IsaBackWrongFalsely : Prop := isaBackRow.holds Try.pinned (OpenSpec.ofChange isaBackWrong)

/-- 'corrallaw02.IsaOnly': WHATEVER THE INPUT: true; the input reads as it did. -/
def isaOnlySpec : ChangeSpec := { name := "isaOnly", fn := fun _ => fun
  | [d1, d2] => { results := [.lit (.bool true)], args := [d1, d2] }
  | _ => none }
def isaOnlyRow : OpenClaim := { program := "ytenmkkhpopiohaa", sum := "ffc894b99dedcd217c5e5b3fe64a837d5ec66c2e53367671b7c609a0e415265a", func := "corral/corrallaw02.IsaOnly", spec := "isaOnly", apart := false }
def IsaOnlySaid : Prop := isaOnlyRow.holds Try.pinned (OpenSpec.ofChange isaOnlySpec)

/-- ITS FALSE NEIGHBOUR: 'it returns false'. Refute it at one input. -/
def isaOnlyWrong : ChangeSpec := { name := "isaOnly", fn := fun _ => fun
  | [d1, d2] => { results := [.lit (.bool false)], args := [d1, d2] }
  | _ => none }
def IsaOnlyWrongFalsely : Prop := isaOnlyRow.holds Try.pinned (OpenSpec.ofChange isaOnlyWrong)

/-- 'corrallaw02.IsaPlays': WHATEVER THE INPUT: true; the input reads as it did. -/
def isaPlaysSpec : ChangeSpec := { name := "isaPlays", fn := fun _ => fun
  | [d1, d2, d3] => { results := [.lit (.bool true)], args := [d1, d2, d3] }
  | _ => none }
def isaPlaysRow : OpenClaim := { program := "ytenmkkhpopiohaa", sum := "ffc894b99dedcd217c5e5b3fe64a837d5ec66c2e53367671b7c609a0e415265a", func := "corral/corrallaw02.IsaPlays", spec := "isaPlays", apart := false }
def IsaPlaysSaid : Prop := isaPlaysRow.holds Try.pinned (OpenSpec.ofChange isaPlaysSpec)

/-- ITS FALSE NEIGHBOUR: 'it returns false'. Refute it at one input. -/
def isaPlaysWrong : ChangeSpec := { name := "isaPlays", fn := fun _ => fun
  | [d1, d2, d3] => { results := [.lit (.bool false)], args := [d1, d2, d3] }
  | _ => none }
def IsaPlaysWrongFalsely : Prop := isaPlaysRow.holds Try.pinned (OpenSpec.ofChange isaPlaysWrong)

/-- 'corrallaw02.IsaUnlike': WHATEVER THE INPUT: true; the input reads as it did. -/
def isaUnlikeSpec : ChangeSpec := { name := "isaUnlike", fn := fun _ => fun
  | [d1, d2] => { results := [.lit (.bool true)], args := [d1, d2] }
  | _ => none }
def isaUnlikeRow : OpenClaim := { program := "ytenmkkhpopiohaa", sum := "ffc894b99dedcd217c5e5b3fe64a837d5ec66c2e53367671b7c609a0e415265a", func := "corral/corrallaw02.IsaUnlike", spec := "isaUnlike", apart := false }
def IsaUnlikeSaid : Prop := isaUnlikeRow.holds Try.pinned (OpenSpec.ofChange isaUnlikeSpec)

/-- ITS FALSE NEIGHBOUR: 'it returns false'. Refute it at one input. -/
def isaUnlikeWrong : ChangeSpec := { name := "isaUnlike", fn := fun _ => fun
  | [d1, d2] => { results := [.lit (.bool false)], args := [d1, d2] }
  | _ => none }
def IsaUnlikeWrongFalsely : Prop := isaUnlikeRow.holds Try.pinned (OpenSpec.ofChange isaUnlikeWrong)

/-- 'corrallaw02.IsaSizes': WHATEVER THE INPUT: true; the input reads as it did. -/
def isaSizesSpec : ChangeSpec := { name := "isaSizes", fn := fun _ => fun
  | [d1, d2, d3] => { results := [.lit (.bool true)], args := [d1, d2, d3] }
  | _ => none }
def isaSizesRow : OpenClaim := { program := "ytenmkkhpopiohaa", sum := "ffc894b99dedcd217c5e5b3fe64a837d5ec66c2e53367671b7c609a0e415265a", func := "corral/corrallaw02.IsaSizes", spec := "isaSizes", apart := false }
def IsaSizesSaid : Prop := isaSizesRow.holds Try.pinned (OpenSpec.ofChange isaSizesSpec)

/-- ITS FALSE NEIGHBOUR: 'it returns false'. Refute it at one input. -/
def isaSizesWrong : ChangeSpec := { name := "isaSizes", fn := fun _ => fun
  | [d1, d2, d3] => { results := [.lit (.bool false)], args := [d1, d2, d3] }
  | _ => none }
def IsaSizesWrongFalsely : Prop := isaSizesRow.holds Try.pinned (OpenSpec.ofChange isaSizesWrong)

/-- 'corrallaw02.IsaFirst': WHATEVER THE INPUT: true; the input reads as it did. -/
def isaFirstSpec : ChangeSpec := { name := "isaFirst", fn := fun _ => fun
  | [d1, d2] => { results := [.lit (.bool true)], args := [d1, d2] }
  | _ => none }
def isaFirstRow : OpenClaim := { program := "ytenmkkhpopiohaa", sum := "ffc894b99dedcd217c5e5b3fe64a837d5ec66c2e53367671b7c609a0e415265a", func := "corral/corrallaw02.IsaFirst", spec := "isaFirst", apart := false }
def IsaFirstSaid : Prop := isaFirstRow.holds Try.pinned (OpenSpec.ofChange isaFirstSpec)

/-- ITS FALSE NEIGHBOUR: 'it returns false'. Refute it at one input. -/
def isaFirstWrong : ChangeSpec := { name := "isaFirst", fn := fun _ => fun
  | [d1, d2] => { results := [.lit (.bool false)], args := [d1, d2] }
  | _ => none }
def IsaFirstWrongFalsely : Prop := isaFirstRow.holds Try.pinned (OpenSpec.ofChange isaFirstWrong)

/- THE SECOND FORM. 'bulk': how many values and letters a reading holds, each counted each time it is reached (what is shared counts as often as it is met; a slice's spare places count too). A statement '..UptoSaid' is the law's where the arguments, and the package variables that the reading takes, are together of bulk at most 1048576: NARROWER than '..Said'. Prove '..Said' where nothing that the law and all that it calls make is longer than what came in: it says more and counts as full. Else prove '..UptoSaid'. A law counts once. -/
mutual
def uptoBulk {H : Type} : DataW H → Nat
  | .lit (.string bytes) => bytes.length + 1
  | .lit _ => 1
  | .nil => 1
  | .ptr d => uptoBulk d + 1
  | .slice elems spare => uptoBulkAll elems + uptoBulkAll spare + 1
  | .agg parts => uptoBulkAll parts + 1
  | .iface _ d => uptoBulk d + 1
  | .map entries => uptoBulkEntries entries + 1
  | .held _ => 1
def uptoBulkAll {H : Type} : List (DataW H) → Nat
  | [] => 0
  | d :: r => uptoBulk d + uptoBulkAll r
def uptoBulkEntries {H : Type} : List (Lit × DataW H) → Nat
  | [] => 0
  | x :: r => uptoBulkEntry x + uptoBulkEntries r
def uptoBulkEntry {H : Type} : Lit × DataW H → Nat
  | (.string bytes, d) => bytes.length + uptoBulk d + 1
  | (_, d) => uptoBulk d + 1
 end
def uptoSmall : (H : Type) → List (DataW H) → Bool := fun _ ds => decide (uptoBulkAll ds ≤ 1048576)
def OpenSpec.upto (s : _root_.Go.ChangeSpec) : _root_.Go.OpenSpec := { _root_.Go.OpenSpec.ofChange s with cond := some uptoSmall }

/-- 'corrallaw02.IsaBack', WHERE WHAT IT READS IS OF BULK AT MOST 1048576: true; the input reads as it did. -/
def isaBackUptoRow : OpenClaim := { program := "ytenmkkhpopiohaa", sum := "ffc894b99dedcd217c5e5b3fe64a837d5ec66c2e53367671b7c609a0e415265a", func := "corral/corrallaw02.IsaBack", spec := "isaBack", apart := false, narrowed := true }
def IsaBackUptoSaid : Prop := isaBackUptoRow.holds Try.pinned (OpenSpec.upto isaBackSpec)

/-- 'corrallaw02.IsaOnly', WHERE WHAT IT READS IS OF BULK AT MOST 1048576: true; the input reads as it did. -/
def isaOnlyUptoRow : OpenClaim := { program := "ytenmkkhpopiohaa", sum := "ffc894b99dedcd217c5e5b3fe64a837d5ec66c2e53367671b7c609a0e415265a", func := "corral/corrallaw02.IsaOnly", spec := "isaOnly", apart := false, narrowed := true }
def IsaOnlyUptoSaid : Prop := isaOnlyUptoRow.holds Try.pinned (OpenSpec.upto isaOnlySpec)

/-- 'corrallaw02.IsaPlays', WHERE WHAT IT READS IS OF BULK AT MOST 1048576: true; the input reads as it did. -/
def isaPlaysUptoRow : OpenClaim := { program := "ytenmkkhpopiohaa", sum := "ffc894b99dedcd217c5e5b3fe64a837d5ec66c2e53367671b7c609a0e415265a", func := "corral/corrallaw02.IsaPlays", spec := "isaPlays", apart := false, narrowed := true }
def IsaPlaysUptoSaid : Prop := isaPlaysUptoRow.holds Try.pinned (OpenSpec.upto isaPlaysSpec)

/-- 'corrallaw02.IsaUnlike', WHERE WHAT IT READS IS OF BULK AT MOST 1048576: true; the input reads as it did. -/
def isaUnlikeUptoRow : OpenClaim := { program := "ytenmkkhpopiohaa", sum := "ffc894b99dedcd217c5e5b3fe64a837d5ec66c2e53367671b7c609a0e415265a", func := "corral/corrallaw02.IsaUnlike", spec := "isaUnlike", apart := false, narrowed := true }
def IsaUnlikeUptoSaid : Prop := isaUnlikeUptoRow.holds Try.pinned (OpenSpec.upto isaUnlikeSpec)

/-- 'corrallaw02.IsaSizes', WHERE WHAT IT READS IS OF BULK AT MOST 1048576: true; the input reads as it did. -/
def isaSizesUptoRow : OpenClaim := { program := "ytenmkkhpopiohaa", sum := "ffc894b99dedcd217c5e5b3fe64a837d5ec66c2e53367671b7c609a0e415265a", func := "corral/corrallaw02.IsaSizes", spec := "isaSizes", apart := false, narrowed := true }
def IsaSizesUptoSaid : Prop := isaSizesUptoRow.holds Try.pinned (OpenSpec.upto isaSizesSpec)

/-- 'corrallaw02.IsaFirst', WHERE WHAT IT READS IS OF BULK AT MOST 1048576: true; the input reads as it did. -/
def isaFirstUptoRow : OpenClaim := { program := "ytenmkkhpopiohaa", sum := "ffc894b99dedcd217c5e5b3fe64a837d5ec66c2e53367671b7c609a0e415265a", func := "corral/corrallaw02.IsaFirst", spec := "isaFirst", apart := false, narrowed := true }
def IsaFirstUptoSaid : Prop := isaFirstUptoRow.holds Try.pinned (OpenSpec.upto isaFirstSpec)

end Rows
end Go.Proofs.Ytenmkkhpopiohaa
