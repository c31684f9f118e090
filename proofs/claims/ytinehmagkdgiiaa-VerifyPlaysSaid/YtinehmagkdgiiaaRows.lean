/-
  No cell of these rows narrows 'for every input' (looked for: loops, veiled, ifaces, maps, wideKeys, modest, calm, conditions, laid).
  DERIVED. THE GIVEN ROWS OF THIS SEAT. 6 by the template 'for every input the law returns true; each argument reads behind the call as it read before'; 0 by the template 'total and deterministic' (their statements: YtinehmagkdgiiaaTotals.lean).
  GIVEN WITH THE SEED: the statements are not yours to turn. If you find one false, say at which input.
  Laid BY PROGRAM, IN A SANDBOX (cutbox-rows.mjs): the forced cells as the released guide's own fill.sh prints them over the translation aea2050aa5a6f063… (all of the seat's roots in one cut). By AI agents, Wed Nov 11 2026. No macro, syntax, notation, axiom, sorry.
-/
import Derived.Test.YtinehmagkdgiiaaChecked
import GoSem.Claim
import GoSem.ClaimJoined
import GoSem.ClaimMapViews
import Derived.JoinedTies
import Derived.KernelRfl
namespace Go.Proofs.Ytinehmagkdgiiaa
/- THE CELL 'sum', in the pinned program and in every row, IS THE sha256 OF THE DUMP (.gsa) THAT YtinehmagkdgiiaaProg.lean LOADS. Nothing in Lean hashes anything: it is a label: what it is worth is what the hold of that sum in a sandbox is worth. -/
noncomputable def Try.pinned : Pinned := { name := "ytinehmagkdgiiaa", sum := "aea2050aa5a6f063a73679e99bae388a3f0a2181ea9271aef1276118e8d7887b", checked := Try.checked }
namespace Rows
def none {H : Type} : Left H := { results := [], args := [] }

/-- 'corrallaw10.VerifyPlays': WHATEVER THE INPUT: true; the input reads as it did. -/
def verifyPlaysSpec : ChangeSpec := { name := "verifyPlays", fn := fun _ => fun
  | [d1, d2, d3, d4] => { results := [.lit (.bool true)], args := [d1, d2, d3, d4] }
  | _ => none }
def verifyPlaysRow : OpenClaim := { program := "ytinehmagkdgiiaa", sum := "aea2050aa5a6f063a73679e99bae388a3f0a2181ea9271aef1276118e8d7887b", func := "corral/corrallaw10.VerifyPlays", spec := "verifyPlays", unfollowed := true, recurses := true, apart := false }
def VerifyPlaysSaid : Prop := verifyPlaysRow.holds Try.pinned (OpenSpec.ofChange verifyPlaysSpec)

/-- ITS FALSE NEIGHBOUR: 'it returns false'. Refute it at one input. -/
def verifyPlaysWrong : ChangeSpec := { name := "verifyPlays", fn := fun _ => fun
  | [d1, d2, d3, d4] => { results := [.lit (.bool false)], args := [d1, d2, d3, d4] }
  | _ => none }
def VerifyPlaysWrongFalsely : Prop := verifyPlaysRow.holds Try.pinned (OpenSpec.ofChange verifyPlaysWrong)

/-- 'corrallaw10.VerifySafe': WHATEVER THE INPUT: true; the input reads as it did. -/
def verifySafeSpec : ChangeSpec := { name := "verifySafe", fn := fun _ => fun
  | [d1, d2, d3, d4] => { results := [.lit (.bool true)], args := [d1, d2, d3, d4] }
  | _ => none }
def verifySafeRow : OpenClaim := { program := "ytinehmagkdgiiaa", sum := "aea2050aa5a6f063a73679e99bae388a3f0a2181ea9271aef1276118e8d7887b", func := "corral/corrallaw10.VerifySafe", spec := "verifySafe", unfollowed := true, recurses := true, apart := false }
def VerifySafeSaid : Prop := verifySafeRow.holds Try.pinned (OpenSpec.ofChange verifySafeSpec)

/-- ITS FALSE NEIGHBOUR: 'it returns false'. Refute it at one input. -/
def verifySafeWrong : ChangeSpec := { name := "verifySafe", fn := fun _ => fun
  | [d1, d2, d3, d4] => { results := [.lit (.bool false)], args := [d1, d2, d3, d4] }
  | _ => none }
def VerifySafeWrongFalsely : Prop := verifySafeRow.holds Try.pinned (OpenSpec.ofChange verifySafeWrong)

/-- 'corrallaw10.VerifyInside': WHATEVER THE INPUT: true; the input reads as it did. -/
def verifyInsideSpec : ChangeSpec := { name := "verifyInside", fn := fun _ => fun
  | [d1, d2, d3] => { results := [.lit (.bool true)], args := [d1, d2, d3] }
  | _ => none }
def verifyInsideRow : OpenClaim := { program := "ytinehmagkdgiiaa", sum := "aea2050aa5a6f063a73679e99bae388a3f0a2181ea9271aef1276118e8d7887b", func := "corral/corrallaw10.VerifyInside", spec := "verifyInside", unfollowed := true, recurses := true, apart := false }
def VerifyInsideSaid : Prop := verifyInsideRow.holds Try.pinned (OpenSpec.ofChange verifyInsideSpec)

/-- ITS FALSE NEIGHBOUR: 'it returns false'. Refute it at one input. -/
def verifyInsideWrong : ChangeSpec := { name := "verifyInside", fn := fun _ => fun
  | [d1, d2, d3] => { results := [.lit (.bool false)], args := [d1, d2, d3] }
  | _ => none }
def VerifyInsideWrongFalsely : Prop := verifyInsideRow.holds Try.pinned (OpenSpec.ofChange verifyInsideWrong)

/-- 'corrallaw10.VerifyImages': WHATEVER THE INPUT: true; the input reads as it did. -/
def verifyImagesSpec : ChangeSpec := { name := "verifyImages", fn := fun _ => fun
  | [d1, d2] => { results := [.lit (.bool true)], args := [d1, d2] }
  | _ => none }
def verifyImagesRow : OpenClaim := { program := "ytinehmagkdgiiaa", sum := "aea2050aa5a6f063a73679e99bae388a3f0a2181ea9271aef1276118e8d7887b", func := "corral/corrallaw10.VerifyImages", spec := "verifyImages", unfollowed := true, recurses := true, apart := false }
def VerifyImagesSaid : Prop := verifyImagesRow.holds Try.pinned (OpenSpec.ofChange verifyImagesSpec)

/-- ITS FALSE NEIGHBOUR: 'it returns false'. Refute it at one input. -/
def verifyImagesWrong : ChangeSpec := { name := "verifyImages", fn := fun _ => fun
  | [d1, d2] => { results := [.lit (.bool false)], args := [d1, d2] }
  | _ => none }
def VerifyImagesWrongFalsely : Prop := verifyImagesRow.holds Try.pinned (OpenSpec.ofChange verifyImagesWrong)

/-- 'corrallaw10.VerifyParts': WHATEVER THE INPUT: true; the input reads as it did. -/
def verifyPartsSpec : ChangeSpec := { name := "verifyParts", fn := fun _ => fun
  | [d1, d2] => { results := [.lit (.bool true)], args := [d1, d2] }
  | _ => none }
def verifyPartsRow : OpenClaim := { program := "ytinehmagkdgiiaa", sum := "aea2050aa5a6f063a73679e99bae388a3f0a2181ea9271aef1276118e8d7887b", func := "corral/corrallaw10.VerifyParts", spec := "verifyParts", unfollowed := true, recurses := true, apart := false }
def VerifyPartsSaid : Prop := verifyPartsRow.holds Try.pinned (OpenSpec.ofChange verifyPartsSpec)

/-- ITS FALSE NEIGHBOUR: 'it returns false'. Refute it at one input. -/
def verifyPartsWrong : ChangeSpec := { name := "verifyParts", fn := fun _ => fun
  | [d1, d2] => { results := [.lit (.bool false)], args := [d1, d2] }
  | _ => none }
def VerifyPartsWrongFalsely : Prop := verifyPartsRow.holds Try.pinned (OpenSpec.ofChange verifyPartsWrong)

/-- 'corrallaw10.VerifyTurned': WHATEVER THE INPUT: true; the input reads as it did. -/
def verifyTurnedSpec : ChangeSpec := { name := "verifyTurned", fn := fun _ => fun
  | [d1, d2, d3] => { results := [.lit (.bool true)], args := [d1, d2, d3] }
  | _ => none }
def verifyTurnedRow : OpenClaim := { program := "ytinehmagkdgiiaa", sum := "aea2050aa5a6f063a73679e99bae388a3f0a2181ea9271aef1276118e8d7887b", func := "corral/corrallaw10.VerifyTurned", spec := "verifyTurned", unfollowed := true, recurses := true, apart := false }
def VerifyTurnedSaid : Prop := verifyTurnedRow.holds Try.pinned (OpenSpec.ofChange verifyTurnedSpec)

/-- ITS FALSE NEIGHBOUR: 'it returns false'. Refute it at one input. -/
def verifyTurnedWrong : ChangeSpec := { name := "verifyTurned", fn := fun _ => fun
  | [d1, d2, d3] => { results := [.lit (.bool false)], args := [d1, d2, d3] }
  | _ => none }
def VerifyTurnedWrongFalsely : Prop := verifyTurnedRow.holds Try.pinned (OpenSpec.ofChange verifyTurnedWrong)

/- THE SECOND FORM. 'bulk': how many values and letters a reading holds, each counted each time it is reached (what is shared counts as often as it is met; a slice's spare places count too). A statement '..UptoSaid' is the law's where the arguments, and the package variables that the reading takes, are together of bulk at most 1048576: NARROWER than '..Said'. Prove '..Said' where nothing that the law and all that it calls make is longer than what came in: it says more and counts as full. Else prove '..UptoSaid'. A law counts once. -/
mutual
def uptoBulk {H : Type} : DataW H → Nat
  | .lit (.string bytes) => bytes.length + 1
  | .lit _ => 1
  | .nil => 1
  | .ptr d => uptoBulk d + 1
  | .slice elems spare => uptoBulkAll elems + uptoBulkAll spare + 1
  | .agg parts => uptoBulkAll parts + 1
  | .iface _ d => uptoBulk d + 1
  | .map entries => uptoBulkEntries entries + 1
  | .held _ => 1
def uptoBulkAll {H : Type} : List (DataW H) → Nat
  | [] => 0
  | d :: r => uptoBulk d + uptoBulkAll r
def uptoBulkEntries {H : Type} : List (Lit × DataW H) → Nat
  | [] => 0
  | x :: r => uptoBulkEntry x + uptoBulkEntries r
def uptoBulkEntry {H : Type} : Lit × DataW H → Nat
  | (.string bytes, d) => bytes.length + uptoBulk d + 1
  | (_, d) => uptoBulk d + 1
 end
def uptoSmall : (H : Type) → List (DataW H) → Bool := fun _ ds => decide (uptoBulkAll ds ≤ 1048576)
def OpenSpec.upto (s : _root_.Go.ChangeSpec) : _root_.Go.OpenSpec := { _root_.Go.OpenSpec.ofChange s with cond := some uptoSmall }

/-- 'corrallaw10.VerifyPlays', WHERE WHAT IT READS IS OF BULK AT MOST 1048576: true; the input reads as it did. -/
def verifyPlaysUptoRow : OpenClaim := { program := "ytinehmagkdgiiaa", sum := "aea2050aa5a6f063a73679e99bae388a3f0a2181ea9271aef1276118e8d7887b", func := "corral/corrallaw10.VerifyPlays", spec := "verifyPlays", unfollowed := true, recurses := true, apart := false, narrowed := true }
def VerifyPlaysUptoSaid : Prop := verifyPlaysUptoRow.holds Try.pinned (OpenSpec.upto verifyPlaysSpec)

/-- 'corrallaw10.VerifySafe', WHERE WHAT IT READS IS OF BULK AT MOST 1048576: true; the input reads as it did. -/
def verifySafeUptoRow : OpenClaim := { program := "ytinehmagkdgiiaa", sum := "aea2050aa5a6f063a73679e99bae388a3f0a2181ea9271aef1276118e8d7887b", func := "corral/corrallaw10.VerifySafe", spec := "verifySafe", unfollowed := true, recurses := true, apart := false, narrowed := true }
def VerifySafeUptoSaid : Prop := verifySafeUptoRow.holds Try.pinned (OpenSpec.upto verifySafeSpec)

/-- 'corrallaw10.VerifyInside', WHERE WHAT IT READS IS OF BULK AT MOST 1048576: true; the input reads as it did. -/
def verifyInsideUptoRow : OpenClaim := { program := "ytinehmagkdgiiaa", sum := "aea2050aa5a6f063a73679e99bae388a3f0a2181ea9271aef1276118e8d7887b", func := "corral/corrallaw10.VerifyInside", spec := "verifyInside", unfollowed := true, recurses := true, apart := false, narrowed := true }
def VerifyInsideUptoSaid : Prop := verifyInsideUptoRow.holds Try.pinned (OpenSpec.upto verifyInsideSpec)

/-- 'corrallaw10.VerifyImages', WHERE WHAT IT READS IS OF BULK AT MOST 1048576: true; the input reads as it did. -/
def verifyImagesUptoRow : OpenClaim := { program := "ytinehmagkdgiiaa", sum := "aea2050aa5a6f063a73679e99bae388a3f0a2181ea9271aef1276118e8d7887b", func := "corral/corrallaw10.VerifyImages", spec := "verifyImages", unfollowed := true, recurses := true, apart := false, narrowed := true }
def VerifyImagesUptoSaid : Prop := verifyImagesUptoRow.holds Try.pinned (OpenSpec.upto verifyImagesSpec)

/-- 'corrallaw10.VerifyParts', WHERE WHAT IT READS IS OF BULK AT MOST 1048576: true; the input reads as it did. -/
def verifyPartsUptoRow : OpenClaim := { program := "ytinehmagkdgiiaa", sum := "aea2050aa5a6f063a73679e99bae388a3f0a2181ea9271aef1276118e8d7887b", func := "corral/corrallaw10.VerifyParts", spec := "verifyParts", unfollowed := true, recurses := true, apart := false, narrowed := true }
def VerifyPartsUptoSaid : Prop := verifyPartsUptoRow.holds Try.pinned (OpenSpec.upto verifyPartsSpec)

/-- 'corrallaw10.VerifyTurned', WHERE WHAT IT READS IS OF BULK AT MOST 1048576: true; the input reads as it did. -/
def verifyTurnedUptoRow : OpenClaim := { program := "ytinehmagkdgiiaa", sum := "aea2050aa5a6f063a73679e99bae388a3f0a2181ea9271aef1276118e8d7887b", func := "corral/corrallaw10.VerifyTurned", spec := "verifyTurned", unfollowed := true, recurses := true, apart := false, narrowed := true }
def VerifyTurnedUptoSaid : Prop := verifyTurnedUptoRow.holds Try.pinned (OpenSpec.upto verifyTurnedSpec)

end Rows
end Go.Proofs.Ytinehmagkdgiiaa
