/-
  No cell of these rows narrows 'for every input' (looked for: loops, veiled, ifaces, maps, wideKeys, modest, calm, conditions, laid).
  DERIVED. THE GIVEN ROWS OF THIS SEAT. 6 by the template 'for every input the law returns true; each argument reads behind the call as it read before'; 0 by the template 'total and deterministic' (their statements: YtcfdebamokcjkaaTotals.lean).
  GIVEN WITH THE SEED: the statements are not yours to turn. If you find one false, say at which input.
  Laid BY PROGRAM, IN A SANDBOX (cutbox-rows.mjs): the forced cells as the released guide's own fill.sh prints them over the translation 37c0e1b882043127… (all of the seat's roots in one cut). By AI agents, Wed Nov 11 2026. No macro, syntax, notation, axiom, sorry.
-/
import Derived.Test.YtcfdebamokcjkaaChecked
import GoSem.Claim
import GoSem.ClaimJoined
import GoSem.ClaimMapViews
import Derived.JoinedTies
import Derived.KernelRfl
namespace Go.Proofs.Ytcfdebamokcjkaa
/- THE CELL 'sum', in the pinned program and in every row, IS THE sha256 OF THE DUMP (.gsa) THAT YtcfdebamokcjkaaProg.lean LOADS. Nothing in Lean hashes anything: it is a label: what it is worth is what the hold of that sum in a sandbox is worth. -/
noncomputable def Try.pinned : Pinned := { name := "ytcfdebamokcjkaa", sum := "37c0e1b8820431271020b342b1856c455a38ceb5aef752841cb0097ae9513465", checked := Try.checked }
namespace Rows
def none {H : Type} : Left H := { results := [], args := [] }

/-- 'corrallaw07.ScanPlays': WHATEVER THE INPUT: true; the input reads as it did. -/
def scanPlaysSpec : ChangeSpec := { name := "scanPlays", fn := fun _ => fun
  | [d] => { results := [.lit (.bool true)], args := [d] }
  | _ => none }
def scanPlaysRow : OpenClaim := { program := "ytcfdebamokcjkaa", sum := "37c0e1b8820431271020b342b1856c455a38ceb5aef752841cb0097ae9513465", func := "corral/corrallaw07.ScanPlays", spec := "scanPlays", unfollowed := true, recurses := true, apart := false }
def ScanPlaysSaid : Prop := scanPlaysRow.holds Try.pinned (OpenSpec.ofChange scanPlaysSpec)

/-- ITS FALSE NEIGHBOUR: 'it returns false'. Refute it at one input. -/
def scanPlaysWrong : ChangeSpec := { name := "scanPlays", fn := fun _ => fun
  | [d] => { results := [.lit (.bool false)], args := [d] }
  | _ => none }
def ScanPlaysWrongFalsely : Prop := scanPlaysRow.holds Try.pinned (OpenSpec.ofChange scanPlaysWrong)

/-- 'corrallaw07.ScanPads': WHATEVER THE INPUT: true; the input reads as it did. -/
def scanPadsSpec : ChangeSpec := { name := "scanPads", fn := fun _ => fun
  | [d] => { results := [.lit (.bool true)], args := [d] }
  | _ => none }
def scanPadsRow : OpenClaim := { program := "ytcfdebamokcjkaa", sum := "37c0e1b8820431271020b342b1856c455a38ceb5aef752841cb0097ae9513465", func := "corral/corrallaw07.ScanPads", spec := "scanPads", unfollowed := true, recurses := true, apart := false }
def ScanPadsSaid : Prop := scanPadsRow.holds Try.pinned (OpenSpec.ofChange scanPadsSpec)

/-- ITS FALSE NEIGHBOUR: 'it returns false'. Refute it at one input. -/
def scanPadsWrong : ChangeSpec := { name := "scanPads", fn := fun _ => fun
  | [d] => { results := [.lit (.bool false)], args := [d] }
  | _ => none }
def ScanPadsWrongFalsely : Prop := scanPadsRow.holds Try.pinned (OpenSpec.ofChange scanPadsWrong)

/-- 'corrallaw07.ScanCovers': WHATEVER THE INPUT: true; the input reads as it did. -/
def scanCoversSpec : ChangeSpec := { name := "scanCovers", fn := fun _ => fun
  | [d] => { results := [.lit (.bool true)], args := [d] }
  | _ => none }
def scanCoversRow : OpenClaim := { program := "ytcfdebamokcjkaa", sum := "37c0e1b8820431271020b342b1856c455a38ceb5aef752841cb0097ae9513465", func := "corral/corrallaw07.ScanCovers", spec := "scanCovers", unfollowed := true, recurses := true, apart := false }
def ScanCoversSaid : Prop := scanCoversRow.holds Try.pinned (OpenSpec.ofChange scanCoversSpec)

/-- ITS FALSE NEIGHBOUR: 'it returns false'. Refute it at one input. -/
def scanCoversWrong : ChangeSpec := { name := "scanCovers", fn := fun _ => fun
  | [d] => { results := [.lit (.bool false)], args := [d] }
  | _ => none }
def ScanCoversWrongFalsely : Prop := scanCoversRow.holds Try.pinned (OpenSpec.ofChange scanCoversWrong)

/-- 'corrallaw07.ScanParts': WHATEVER THE INPUT: true; the input reads as it did. -/
def scanPartsSpec : ChangeSpec := { name := "scanParts", fn := fun _ => fun
  | [d1, d2] => { results := [.lit (.bool true)], args := [d1, d2] }
  | _ => none }
def scanPartsRow : OpenClaim := { program := "ytcfdebamokcjkaa", sum := "37c0e1b8820431271020b342b1856c455a38ceb5aef752841cb0097ae9513465", func := "corral/corrallaw07.ScanParts", spec := "scanParts", unfollowed := true, recurses := true, apart := false }
def ScanPartsSaid : Prop := scanPartsRow.holds Try.pinned (OpenSpec.ofChange scanPartsSpec)

/-- ITS FALSE NEIGHBOUR: 'it returns false'. Refute it at one input. -/
def scanPartsWrong : ChangeSpec := { name := "scanParts", fn := fun _ => fun
  | [d1, d2] => { results := [.lit (.bool false)], args := [d1, d2] }
  | _ => none }
def ScanPartsWrongFalsely : Prop := scanPartsRow.holds Try.pinned (OpenSpec.ofChange scanPartsWrong)

/-- 'corrallaw07.ScanTwice': WHATEVER THE INPUT: true; the input reads as it did. -/
def scanTwiceSpec : ChangeSpec := { name := "scanTwice", fn := fun _ => fun
  | [d] => { results := [.lit (.bool true)], args := [d] }
  | _ => none }
def scanTwiceRow : OpenClaim := { program := "ytcfdebamokcjkaa", sum := "37c0e1b8820431271020b342b1856c455a38ceb5aef752841cb0097ae9513465", func := "corral/corrallaw07.ScanTwice", spec := "scanTwice", unfollowed := true, recurses := true, apart := false }
def ScanTwiceSaid : Prop := scanTwiceRow.holds Try.pinned (OpenSpec.ofChange scanTwiceSpec)

/-- ITS FALSE NEIGHBOUR: 'it returns false'. Refute it at one input. -/
def scanTwiceWrong : ChangeSpec := { name := "scanTwice", fn := fun _ => fun
  | [d] => { results := [.lit (.bool false)], args := [d] }
  | _ => none }
def ScanTwiceWrongFalsely : Prop := scanTwiceRow.holds Try.pinned (OpenSpec.ofChange scanTwiceWrong)

/-- 'corrallaw07.ScanFits': WHATEVER THE INPUT: true; the input reads as it did. -/
def scanFitsSpec : ChangeSpec := { name := "scanFits", fn := fun _ => fun
  | [d] => { results := [.lit (.bool true)], args := [d] }
  | _ => none }
def scanFitsRow : OpenClaim := { program := "ytcfdebamokcjkaa", sum := "37c0e1b8820431271020b342b1856c455a38ceb5aef752841cb0097ae9513465", func := "corral/corrallaw07.ScanFits", spec := "scanFits", unfollowed := true, recurses := true, apart := false }
def ScanFitsSaid : Prop := scanFitsRow.holds Try.pinned (OpenSpec.ofChange scanFitsSpec)

/-- ITS FALSE NEIGHBOUR: 'it returns false'. Refute it at one input. -/
def scanFitsWrong : ChangeSpec := { name := "scanFits", fn := fun _ => fun
  | [d] => { results := [.lit (.bool false)], args := [d] }
  | _ => none }
def ScanFitsWrongFalsely : Prop := scanFitsRow.holds Try.pinned (OpenSpec.ofChange scanFitsWrong)

/- THE SECOND FORM. 'bulk': how many values and letters a reading holds, each counted each time it is reached (what is shared counts as often as it is met; a slice's spare places count too). A statement '..UptoSaid' is the law's where the arguments, and the package variables that the reading takes, are together of bulk at most 1048576: NARROWER than '..Said'. Prove '..Said' where nothing that the law and all that it calls make is longer than what came in: it says more and counts as full. Else prove '..UptoSaid'. A law counts once. -/
mutual
def uptoBulk {H : Type} : DataW H → Nat
  | .lit (.string bytes) => bytes.length + 1
  | .lit _ => 1
  | .nil => 1
  | .ptr d => uptoBulk d + 1
  | .slice elems spare => uptoBulkAll elems + uptoBulkAll spare + 1
  | .agg parts => uptoBulkAll parts + 1
  | .iface _ d => uptoBulk d + 1
  | .map entries => uptoBulkEntries entries + 1
  | .held _ => 1
def uptoBulkAll {H : Type} : List (DataW H) → Nat
  | [] => 0
  | d :: r => uptoBulk d + uptoBulkAll r
def uptoBulkEntries {H : Type} : List (Lit × DataW H) → Nat
  | [] => 0
  | x :: r => uptoBulkEntry x + uptoBulkEntries r
def uptoBulkEntry {H : Type} : Lit × DataW H → Nat
  | (.string bytes, d) => bytes.length + uptoBulk d + 1
  | (_, d) => uptoBulk d + 1
 end
def uptoSmall : (H : Type) → List (DataW H) → Bool := fun _ ds => decide (uptoBulkAll ds ≤ 1048576)
def OpenSpec.upto (s : _root_.Go.ChangeSpec) : _root_.Go.OpenSpec := { _root_.Go.OpenSpec.ofChange s with cond := some uptoSmall }

/-- 'corrallaw07.ScanPlays', WHERE WHAT IT READS IS OF BULK AT MOST 1048576: true; the input reads as it did. -/
def scanPlaysUptoRow : OpenClaim := { program := "ytcfdebamokcjkaa", sum := "37c0e1b8820431271020b342b1856c455a38ceb5aef752841cb0097ae9513465", func := "corral/corrallaw07.ScanPlays", spec := "scanPlays", unfollowed := true, recurses := true, apart := false, narrowed := true }
def ScanPlaysUptoSaid : Prop := scanPlaysUptoRow.holds Try.pinned (OpenSpec.upto scanPlaysSpec)

/-- 'corrallaw07.ScanPads', WHERE WHAT IT READS IS OF BULK AT MOST 1048576: true; the input reads as it did. -/
def scanPadsUptoRow : OpenClaim := { program := "ytcfdebamokcjkaa", sum := "37c0e1b8820431271020b342b1856c455a38ceb5aef752841cb0097ae9513465", func := "corral/corrallaw07.ScanPads", spec := "scanPads", unfollowed := true, recurses := true, apart := false, narrowed := true }
def ScanPadsUptoSaid : Prop := scanPadsUptoRow.holds Try.pinned (OpenSpec.upto scanPadsSpec)

/-- 'corrallaw07.ScanCovers', WHERE WHAT IT READS IS OF BULK AT MOST 1048576: true; the input reads as it did. -/
def scanCoversUptoRow : OpenClaim := { program := "ytcfdebamokcjkaa", sum := "37c0e1b8820431271020b342b1856c455a38ceb5aef752841cb0097ae9513465", func := "corral/corrallaw07.ScanCovers", spec := "scanCovers", unfollowed := true, recurses := true, apart := false, narrowed := true }
def ScanCoversUptoSaid : Prop := scanCoversUptoRow.holds Try.pinned (OpenSpec.upto scanCoversSpec)

/-- 'corrallaw07.ScanParts', WHERE WHAT IT READS IS OF BULK AT MOST 1048576: true; the input reads as it did. -/
def scanPartsUptoRow : OpenClaim := { program := "ytcfdebamokcjkaa", sum := "37c0e1b8820431271020b342b1856c455a38ceb5aef752841cb0097ae9513465", func := "corral/corrallaw07.ScanParts", spec := "scanParts", unfollowed := true, recurses := true, apart := false, narrowed := true }
def ScanPartsUptoSaid : Prop := scanPartsUptoRow.holds Try.pinned (OpenSpec.upto scanPartsSpec)

/-- 'corrallaw07.ScanTwice', WHERE WHAT IT READS IS OF BULK AT MOST 1048576: true; the input reads as it did. -/
def scanTwiceUptoRow : OpenClaim := { program := "ytcfdebamokcjkaa", sum := "37c0e1b8820431271020b342b1856c455a38ceb5aef752841cb0097ae9513465", func := "corral/corrallaw07.ScanTwice", spec := "scanTwice", unfollowed := true, recurses := true, apart := false, narrowed := true }
def ScanTwiceUptoSaid : Prop := scanTwiceUptoRow.holds Try.pinned (OpenSpec.upto scanTwiceSpec)

/-- 'corrallaw07.ScanFits', WHERE WHAT IT READS IS OF BULK AT MOST 1048576: true; the input reads as it did. -/
def scanFitsUptoRow : OpenClaim := { program := "ytcfdebamokcjkaa", sum := "37c0e1b8820431271020b342b1856c455a38ceb5aef752841cb0097ae9513465", func := "corral/corrallaw07.ScanFits", spec := "scanFits", unfollowed := true, recurses := true, apart := false, narrowed := true }
def ScanFitsUptoSaid : Prop := scanFitsUptoRow.holds Try.pinned (OpenSpec.upto scanFitsSpec)

end Rows
end Go.Proofs.Ytcfdebamokcjkaa
