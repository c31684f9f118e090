/-
  No cell of these rows narrows 'for every input' (looked for: loops, veiled, ifaces, maps, wideKeys, modest, calm, conditions, laid).
  DERIVED. THE GIVEN ROWS OF THIS SEAT. 6 by the template 'for every input the law returns true; each argument reads behind the call as it read before'; 0 by the template 'total and deterministic' (their statements: YthmcddecgdegdaaTotals.lean).
  GIVEN WITH THE SEED: the statements are not yours to turn. If you find one false, say at which input.
  Laid BY PROGRAM, IN A SANDBOX (cutbox-rows.mjs): the forced cells as the released guide's own fill.sh prints them over the translation b334ea133e21c409… (all of the seat's roots in one cut). By AI agents, Wed Nov 11 2026. No macro, syntax, notation, axiom, sorry.
-/
import Derived.Test.YthmcddecgdegdaaChecked
import GoSem.Claim
import GoSem.ClaimJoined
import GoSem.ClaimMapViews
import Derived.JoinedTies
import Derived.KernelRfl
namespace Go.Proofs.Ythmcddecgdegdaa
/- THE CELL 'sum', in the pinned program and in every row, IS THE sha256 OF THE DUMP (.gsa) THAT YthmcddecgdegdaaProg.lean LOADS. Nothing in Lean hashes anything: it is a label: what it is worth is what the hold of that sum in a sandbox is worth. -/
noncomputable def Try.pinned : Pinned := { name := "ythmcddecgdegdaa", sum := "b334ea133e21c40974fd13e1734eea2fd5d53a25fec2f847b80c24734be07d29", checked := Try.checked }
namespace Rows
def none {H : Type} : Left H := { results := [], args := [] }

/-- 'corrallaw03.MemPlays': WHATEVER THE INPUT: true; the input reads as it did. -/
def memPlaysSpec : ChangeSpec := { name := "memPlays", fn := fun _ => fun
  | [d1, d2] => { results := [.lit (.bool true)], args := [d1, d2] }
  | _ => none }
def memPlaysRow : OpenClaim := { program := "ythmcddecgdegdaa", sum := "b334ea133e21c40974fd13e1734eea2fd5d53a25fec2f847b80c24734be07d29", func := "corral/corrallaw03.MemPlays", spec := "memPlays", apart := false }
def MemPlaysSaid : Prop := memPlaysRow.holds Try.pinned (OpenSpec.ofChange memPlaysSpec)

/-- ITS FALSE NEIGHBOUR: 'it returns false'. Refute it at one input. -/
def memPlaysWrong : ChangeSpec := { name := "memPlays", fn := fun _ => fun
  | [d1, d2] => { results := [.lit (.bool false)], args := [d1, d2] }
  | _ => none }
def MemPlaysWrongFalsely : Prop := memPlaysRow.holds Try.pinned (OpenSpec.ofChange memPlaysWrong)

/-- 'corrallaw04.StepPlays': WHATEVER THE INPUT: true; the input reads as it did. -/
def stepPlaysSpec : ChangeSpec := { name := "stepPlays", fn := fun _ => fun
  | [d1, d2] => { results := [.lit (.bool true)], args := [d1, d2] }
  | _ => none }
def stepPlaysRow : OpenClaim := { program := "ythmcddecgdegdaa", sum := "b334ea133e21c40974fd13e1734eea2fd5d53a25fec2f847b80c24734be07d29", func := "corral/corrallaw04.StepPlays", spec := "stepPlays", apart := false }
def StepPlaysSaid : Prop := stepPlaysRow.holds Try.pinned (OpenSpec.ofChange stepPlaysSpec)

/-- ITS FALSE NEIGHBOUR: 'it returns false'. Refute it at one input. -/
def stepPlaysWrong : ChangeSpec := { name := "stepPlays", fn := fun _ => fun
  | [d1, d2] => { results := [.lit (.bool false)], args := [d1, d2] }
  | _ => none }
def StepPlaysWrongFalsely : Prop := stepPlaysRow.holds Try.pinned (OpenSpec.ofChange stepPlaysWrong)

/-- 'corrallaw04.StepRuns': WHATEVER THE INPUT: true; the input reads as it did. -/
def stepRunsSpec : ChangeSpec := { name := "stepRuns", fn := fun _ => fun
  | [d1, d2, d3] => { results := [.lit (.bool true)], args := [d1, d2, d3] }
  | _ => none }
def stepRunsRow : OpenClaim := { program := "ythmcddecgdegdaa", sum := "b334ea133e21c40974fd13e1734eea2fd5d53a25fec2f847b80c24734be07d29", func := "corral/corrallaw04.StepRuns", spec := "stepRuns", apart := false }
def StepRunsSaid : Prop := stepRunsRow.holds Try.pinned (OpenSpec.ofChange stepRunsSpec)

/-- ITS FALSE NEIGHBOUR: 'it returns false'. Refute it at one input. -/
def stepRunsWrong : ChangeSpec := { name := "stepRuns", fn := fun _ => fun
  | [d1, d2, d3] => { results := [.lit (.bool false)], args := [d1, d2, d3] }
  | _ => none }
def StepRunsWrongFalsely : Prop := stepRunsRow.holds Try.pinned (OpenSpec.ofChange stepRunsWrong)

/-- 'corrallaw04.StepMasks': WHATEVER THE INPUT: true; the input reads as it did. -/
def stepMasksSpec : ChangeSpec := { name := "stepMasks", fn := fun _ => fun
  | [d1, d2, d3] => { results := [.lit (.bool true)], args := [d1, d2, d3] }
  | _ => none }
def stepMasksRow : OpenClaim := { program := "ythmcddecgdegdaa", sum := "b334ea133e21c40974fd13e1734eea2fd5d53a25fec2f847b80c24734be07d29", func := "corral/corrallaw04.StepMasks", spec := "stepMasks", apart := false }
def StepMasksSaid : Prop := stepMasksRow.holds Try.pinned (OpenSpec.ofChange stepMasksSpec)

/-- ITS FALSE NEIGHBOUR: 'it returns false'. Refute it at one input. -/
def stepMasksWrong : ChangeSpec := { name := "stepMasks", fn := fun _ => fun
  | [d1, d2, d3] => { results := [.lit (.bool false)], args := [d1, d2, d3] }
  | _ => none }
def StepMasksWrongFalsely : Prop := stepMasksRow.holds Try.pinned (OpenSpec.ofChange stepMasksWrong)

/-- 'corrallaw04.StepFew': WHATEVER THE INPUT: true; the input reads as it did. -/
def stepFewSpec : ChangeSpec := { name := "stepFew", fn := fun _ => fun
  | [d1, d2] => { results := [.lit (.bool true)], args := [d1, d2] }
  | _ => none }
def stepFewRow : OpenClaim := { program := "ythmcddecgdegdaa", sum := "b334ea133e21c40974fd13e1734eea2fd5d53a25fec2f847b80c24734be07d29", func := "corral/corrallaw04.StepFew", spec := "stepFew", apart := false }
def StepFewSaid : Prop := stepFewRow.holds Try.pinned (OpenSpec.ofChange stepFewSpec)

/-- ITS FALSE NEIGHBOUR: 'it returns false'. Refute it at one input. -/
def stepFewWrong : ChangeSpec := { name := "stepFew", fn := fun _ => fun
  | [d1, d2] => { results := [.lit (.bool false)], args := [d1, d2] }
  | _ => none }
def StepFewWrongFalsely : Prop := stepFewRow.holds Try.pinned (OpenSpec.ofChange stepFewWrong)

/-- 'corrallaw04.StepSame': WHATEVER THE INPUT: true; the input reads as it did. -/
def stepSameSpec : ChangeSpec := { name := "stepSame", fn := fun _ => fun
  | [d1, d2] => { results := [.lit (.bool true)], args := [d1, d2] }
  | _ => none }
def stepSameRow : OpenClaim := { program := "ythmcddecgdegdaa", sum := "b334ea133e21c40974fd13e1734eea2fd5d53a25fec2f847b80c24734be07d29", func := "corral/corrallaw04.StepSame", spec := "stepSame", apart := false }
def StepSameSaid : Prop := stepSameRow.holds Try.pinned (OpenSpec.ofChange stepSameSpec)

/-- ITS FALSE NEIGHBOUR: 'it returns false'. Refute it at one input. -/
def stepSameWrong : ChangeSpec := { name := "stepSame", fn := fun _ => fun
  | [d1, d2] => { results := [.lit (.bool false)], args := [d1, d2] }
  | _ => none }
def StepSameWrongFalsely : Prop := stepSameRow.holds Try.pinned (OpenSpec.ofChange stepSameWrong)

/- THE SECOND FORM. 'bulk': how many values and letters a reading holds, each counted each time it is reached (what is shared counts as often as it is met; a slice's spare places count too). A statement '..UptoSaid' is the law's where the arguments, and the package variables that the reading takes, are together of bulk at most 1048576: NARROWER than '..Said'. Prove '..Said' where nothing that the law and all that it calls make is longer than what came in: it says more and counts as full. Else prove '..UptoSaid'. A law counts once. -/
mutual
def uptoBulk {H : Type} : DataW H → Nat
  | .lit (.string bytes) => bytes.length + 1
  | .lit _ => 1
  | .nil => 1
  | .ptr d => uptoBulk d + 1
  | .slice elems spare => uptoBulkAll elems + uptoBulkAll spare + 1
  | .agg parts => uptoBulkAll parts + 1
  | .iface _ d => uptoBulk d + 1
  | .map entries => uptoBulkEntries entries + 1
  | .held _ => 1
def uptoBulkAll {H : Type} : List (DataW H) → Nat
  | [] => 0
  | d :: r => uptoBulk d + uptoBulkAll r
def uptoBulkEntries {H : Type} : List (Lit × DataW H) → Nat
  | [] => 0
  | x :: r => uptoBulkEntry x + uptoBulkEntries r
def uptoBulkEntry {H : Type} : Lit × DataW H → Nat
  | (.string bytes, d) => bytes.length + uptoBulk d + 1
  | (_, d) => uptoBulk d + 1
 end
def uptoSmall : (H : Type) → List (DataW H) → Bool := fun _ ds => decide (uptoBulkAll ds ≤ 1048576)
def OpenSpec.upto (s : _root_.Go.ChangeSpec) : _root_.Go.OpenSpec := { _root_.Go.OpenSpec.ofChange s with cond := some uptoSmall }

/-- 'corrallaw03.MemPlays', WHERE WHAT IT READS IS OF BULK AT MOST 1048576: true; the input reads as it did. -/
def memPlaysUptoRow : OpenClaim := { program := "ythmcddecgdegdaa", sum := "b334ea133e21c40974fd13e1734eea2fd5d53a25fec2f847b80c24734be07d29", func := "corral/corrallaw03.MemPlays", spec := "memPlays", apart := false, narrowed := true }
def MemPlaysUptoSaid : Prop := memPlaysUptoRow.holds Try.pinned (OpenSpec.upto memPlaysSpec)

/-- 'corrallaw04.StepPlays', WHERE WHAT IT READS IS OF BULK AT MOST 1048576: true; the input reads as it did. -/
def stepPlaysUptoRow : OpenClaim := { program := "ythmcddecgdegdaa", sum := "b334ea133e21c40974fd13e1734eea2fd5d53a25fec2f847b80c24734be07d29", func := "corral/corrallaw04.StepPlays", spec := "stepPlays", apart := false, narrowed := true }
def StepPlaysUptoSaid : Prop := stepPlaysUptoRow.holds Try.pinned (OpenSpec.upto stepPlaysSpec)

/-- 'corrallaw04.StepRuns', WHERE WHAT IT READS IS OF BULK AT MOST 1048576: true; the input reads as it did. -/
def stepRunsUptoRow : OpenClaim := { program := "ythmcddecgdegdaa", sum := "b334ea133e21c40974fd13e1734eea2fd5d53a25fec2f847b80c24734be07d29", func := "corral/corrallaw04.StepRuns", spec := "stepRuns", apart := false, narrowed := true }
def StepRunsUptoSaid : Prop := stepRunsUptoRow.holds Try.pinned (OpenSpec.upto stepRunsSpec)

/-- 'corrallaw04.StepMasks', WHERE WHAT IT READS IS OF BULK AT MOST 1048576: true; the input reads as it did. -/
def stepMasksUptoRow : OpenClaim := { program := "ythmcddecgdegdaa", sum := "b334ea133e21c40974fd13e1734eea2fd5d53a25fec2f847b80c24734be07d29", func := "corral/corrallaw04.StepMasks", spec := "stepMasks", apart := false, narrowed := true }
def StepMasksUptoSaid : Prop := stepMasksUptoRow.holds Try.pinned (OpenSpec.upto stepMasksSpec)

/-- 'corrallaw04.StepFew', WHERE WHAT IT READS IS OF BULK AT MOST 1048576: true; the input reads as it did. -/
def stepFewUptoRow : OpenClaim := { program := "ythmcddecgdegdaa", sum := "b334ea133e21c40974fd13e1734eea2fd5d53a25fec2f847b80c24734be07d29", func := "corral/corrallaw04.StepFew", spec := "stepFew", apart := false, narrowed := true }
def StepFewUptoSaid : Prop := stepFewUptoRow.holds Try.pinned (OpenSpec.upto stepFewSpec)

/-- 'corrallaw04.StepSame', WHERE WHAT IT READS IS OF BULK AT MOST 1048576: true; the input reads as it did. -/
def stepSameUptoRow : OpenClaim := { program := "ythmcddecgdegdaa", sum := "b334ea133e21c40974fd13e1734eea2fd5d53a25fec2f847b80c24734be07d29", func := "corral/corrallaw04.StepSame", spec := "stepSame", apart := false, narrowed := true }
def StepSameUptoSaid : Prop := stepSameUptoRow.holds Try.pinned (OpenSpec.upto stepSameSpec)

end Rows
end Go.Proofs.Ythmcddecgdegdaa
