/-
  No cell of these rows narrows 'for every input' (looked for: loops, veiled, ifaces, maps, wideKeys, modest, calm, conditions, laid).
  DERIVED. THE GIVEN ROWS OF THIS SEAT. 4 by the template 'for every input the law returns true; each argument reads behind the call as it read before'; 0 by the template 'total and deterministic' (their statements: YtojpcijfipdiaaaTotals.lean).
  GIVEN WITH THE SEED: the statements are not yours to turn. If you find one false, say at which input.
  Laid BY PROGRAM, IN A SANDBOX (cutbox-rows.mjs): the forced cells as the released guide's own fill.sh prints them over the translation 516aa2f814fb5bc2… (all of the seat's roots in one cut). By AI agents, Wed Nov 11 2026. No macro, syntax, notation, axiom, sorry.
-/
import Derived.Test.YtojpcijfipdiaaaChecked
import GoSem.Claim
import GoSem.ClaimJoined
import GoSem.ClaimMapViews
import Derived.JoinedTies
import Derived.KernelRfl
namespace Go.Proofs.Ytojpcijfipdiaaa
/- THE CELL 'sum', in the pinned program and in every row, IS THE sha256 OF THE DUMP (.gsa) THAT YtojpcijfipdiaaaProg.lean LOADS. Nothing in Lean hashes anything: it is a label: what it is worth is what the hold of that sum in a sandbox is worth. -/
noncomputable def Try.pinned : Pinned := { name := "ytojpcijfipdiaaa", sum := "516aa2f814fb5bc26890c07f3717bfe0bf3967bf6386e905a827428a62c5b4b5", checked := Try.checked }
namespace Rows
def none {H : Type} : Left H := { results := [], args := [] }

/-- 'corrallaw08.RulePlays': WHATEVER THE INPUT: true; the input reads as it did. -/
def rulePlaysSpec : ChangeSpec := { name := "rulePlays", fn := fun _ => fun
  | [d] => { results := [.lit (.bool true)], args := [d] }
  | _ => none }
def rulePlaysRow : OpenClaim := { program := "ytojpcijfipdiaaa", sum := "516aa2f814fb5bc26890c07f3717bfe0bf3967bf6386e905a827428a62c5b4b5", func := "corral/corrallaw08.RulePlays", spec := "rulePlays", unfollowed := true, recurses := true, apart := false }
def RulePlaysSaid : Prop := rulePlaysRow.holds Try.pinned (OpenSpec.ofChange rulePlaysSpec)

/-- ITS FALSE NEIGHBOUR: 'it returns false'. Refute it at one input. -/
def rulePlaysWrong : ChangeSpec := { name := "rulePlays", fn := fun _ => fun
  | [d] => { results := [.lit (.bool false)], args := [d] }
  | _ => none }
def RulePlaysWrongFalsely : Prop := rulePlaysRow.holds Try.pinned (OpenSpec.ofChange rulePlaysWrong)

/-- 'corrallaw08.RuleFree': WHATEVER THE INPUT: true; the input reads as it did. -/
def ruleFreeSpec : ChangeSpec := { name := "ruleFree", fn := fun _ => fun
  | [d1, d2] => { results := [.lit (.bool true)], args := [d1, d2] }
  | _ => none }
def ruleFreeRow : OpenClaim := { program := "ytojpcijfipdiaaa", sum := "516aa2f814fb5bc26890c07f3717bfe0bf3967bf6386e905a827428a62c5b4b5", func := "corral/corrallaw08.RuleFree", spec := "ruleFree", unfollowed := true, recurses := true, apart := false }
def RuleFreeSaid : Prop := ruleFreeRow.holds Try.pinned (OpenSpec.ofChange ruleFreeSpec)

/-- ITS FALSE NEIGHBOUR: 'it returns false'. Refute it at one input. -/
def ruleFreeWrong : ChangeSpec := { name := "ruleFree", fn := fun _ => fun
  | [d1, d2] => { results := [.lit (.bool false)], args := [d1, d2] }
  | _ => none }
def RuleFreeWrongFalsely : Prop := ruleFreeRow.holds Try.pinned (OpenSpec.ofChange ruleFreeWrong)

/-- 'corrallaw08.RuleKept': WHATEVER THE INPUT: true; the input reads as it did. -/
def ruleKeptSpec : ChangeSpec := { name := "ruleKept", fn := fun _ => fun
  | [d] => { results := [.lit (.bool true)], args := [d] }
  | _ => none }
def ruleKeptRow : OpenClaim := { program := "ytojpcijfipdiaaa", sum := "516aa2f814fb5bc26890c07f3717bfe0bf3967bf6386e905a827428a62c5b4b5", func := "corral/corrallaw08.RuleKept", spec := "ruleKept", unfollowed := true, recurses := true, apart := false }
def RuleKeptSaid : Prop := ruleKeptRow.holds Try.pinned (OpenSpec.ofChange ruleKeptSpec)

/-- ITS FALSE NEIGHBOUR: 'it returns false'. Refute it at one input. -/
def ruleKeptWrong : ChangeSpec := { name := "ruleKept", fn := fun _ => fun
  | [d] => { results := [.lit (.bool false)], args := [d] }
  | _ => none }
def RuleKeptWrongFalsely : Prop := ruleKeptRow.holds Try.pinned (OpenSpec.ofChange ruleKeptWrong)

/-- 'corrallaw08.RuleParts': WHATEVER THE INPUT: true; the input reads as it did. -/
def rulePartsSpec : ChangeSpec := { name := "ruleParts", fn := fun _ => fun
  | [d1, d2] => { results := [.lit (.bool true)], args := [d1, d2] }
  | _ => none }
def rulePartsRow : OpenClaim := { program := "ytojpcijfipdiaaa", sum := "516aa2f814fb5bc26890c07f3717bfe0bf3967bf6386e905a827428a62c5b4b5", func := "corral/corrallaw08.RuleParts", spec := "ruleParts", unfollowed := true, recurses := true, apart := false }
def RulePartsSaid : Prop := rulePartsRow.holds Try.pinned (OpenSpec.ofChange rulePartsSpec)

/-- ITS FALSE NEIGHBOUR: 'it returns false'. Refute it at one input. -/
def rulePartsWrong : ChangeSpec := { name := "ruleParts", fn := fun _ => fun
  | [d1, d2] => { results := [.lit (.bool false)], args := [d1, d2] }
  | _ => none }
def RulePartsWrongFalsely : Prop := rulePartsRow.holds Try.pinned (OpenSpec.ofChange rulePartsWrong)

/- THE SECOND FORM. 'bulk': how many values and letters a reading holds, each counted each time it is reached (what is shared counts as often as it is met; a slice's spare places count too). A statement '..UptoSaid' is the law's where the arguments, and the package variables that the reading takes, are together of bulk at most 1048576: NARROWER than '..Said'. Prove '..Said' where nothing that the law and all that it calls make is longer than what came in: it says more and counts as full. Else prove '..UptoSaid'. A law counts once. -/
mutual
def uptoBulk {H : Type} : DataW H → Nat
  | .lit (.string bytes) => bytes.length + 1
  | .lit _ => 1
  | .nil => 1
  | .ptr d => uptoBulk d + 1
  | .slice elems spare => uptoBulkAll elems + uptoBulkAll spare + 1
  | .agg parts => uptoBulkAll parts + 1
  | .iface _ d => uptoBulk d + 1
  | .map entries => uptoBulkEntries entries + 1
  | .held _ => 1
def uptoBulkAll {H : Type} : List (DataW H) → Nat
  | [] => 0
  | d :: r => uptoBulk d + uptoBulkAll r
def uptoBulkEntries {H : Type} : List (Lit × DataW H) → Nat
  | [] => 0
  | x :: r => uptoBulkEntry x + uptoBulkEntries r
def uptoBulkEntry {H : Type} : Lit × DataW H → Nat
  | (.string bytes, d) => bytes.length + uptoBulk d + 1
  | (_, d) => uptoBulk d + 1
 end
def uptoSmall : (H : Type) → List (DataW H) → Bool := fun _ ds => decide (uptoBulkAll ds ≤ 1048576)
def OpenSpec.upto (s : _root_.Go.ChangeSpec) : _root_.Go.OpenSpec := { _root_.Go.OpenSpec.ofChange s with cond := some uptoSmall }

/-- 'corrallaw08.RulePlays', WHERE WHAT IT READS IS OF BULK AT MOST 1048576: true; the input reads as it did. -/
def rulePlaysUptoRow : OpenClaim := { program := "ytojpcijfipdiaaa", sum := "516aa2f814fb5bc26890c07f3717bfe0bf3967bf6386e905a827428a62c5b4b5", func := "corral/corrallaw08.RulePlays", spec := "rulePlays", unfollowed := true, recurses := true, apart := false, narrowed := true }
def RulePlaysUptoSaid : Prop := rulePlaysUptoRow.holds Try.pinned (OpenSpec.upto rulePlaysSpec)

/-- 'corrallaw08.RuleFree', WHERE WHAT IT READS IS OF BULK AT MOST 1048576: true; the input reads as it did. -/
def ruleFreeUptoRow : OpenClaim := { program := "ytojpcijfipdiaaa", sum := "516aa2f814fb5bc26890c07f3717bfe0bf3967bf6386e905a827428a62c5b4b5", func := "corral/corrallaw08.RuleFree", spec := "ruleFree", unfollowed := true, recurses := true, apart := false, narrowed := true }
def RuleFreeUptoSaid : Prop := ruleFreeUptoRow.holds Try.pinned (OpenSpec.upto ruleFreeSpec)

/-- 'corrallaw08.RuleKept', WHERE WHAT IT READS IS OF BULK AT MOST 1048576: true; the input reads as it did. -/
def ruleKeptUptoRow : OpenClaim := { program := "ytojpcijfipdiaaa", sum := "516aa2f814fb5bc26890c07f3717bfe0bf3967bf6386e905a827428a62c5b4b5", func := "corral/corrallaw08.RuleKept", spec := "ruleKept", unfollowed := true, recurses := true, apart := false, narrowed := true }
def RuleKeptUptoSaid : Prop := ruleKeptUptoRow.holds Try.pinned (OpenSpec.upto ruleKeptSpec)

/-- 'corrallaw08.RuleParts', WHERE WHAT IT READS IS OF BULK AT MOST 1048576: true; the input reads as it did. -/
def rulePartsUptoRow : OpenClaim := { program := "ytojpcijfipdiaaa", sum := "516aa2f814fb5bc26890c07f3717bfe0bf3967bf6386e905a827428a62c5b4b5", func := "corral/corrallaw08.RuleParts", spec := "ruleParts", unfollowed := true, recurses := true, apart := false, narrowed := true }
def RulePartsUptoSaid : Prop := rulePartsUptoRow.holds Try.pinned (OpenSpec.upto rulePartsSpec)

end Rows
end Go.Proofs.Ytojpcijfipdiaaa
