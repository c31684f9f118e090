/-
  No cell of these rows narrows 'for every input' (looked for: loops, veiled, ifaces, maps, wideKeys, modest, calm, conditions, laid).
  DERIVED. THE GIVEN ROWS OF THIS SEAT. 5 by the template 'for every input the law returns true; each argument reads behind the call as it read before'; 0 by the template 'total and deterministic' (their statements: YtjjfpobjdhgkdaaTotals.lean).
  GIVEN WITH THE SEED: the statements are not yours to turn. If you find one false, say at which input.
  Laid BY PROGRAM, IN A SANDBOX (cutbox-rows.mjs): the forced cells as the released guide's own fill.sh prints them over the translation af58f104ee012eeb… (all of the seat's roots in one cut). By AI agents, Wed Nov 11 2026. No macro, syntax, notation, axiom, sorry.
-/
import Derived.Test.YtjjfpobjdhgkdaaChecked
import GoSem.Claim
import GoSem.ClaimJoined
import GoSem.ClaimMapViews
import Derived.JoinedTies
import Derived.KernelRfl
namespace Go.Proofs.Ytjjfpobjdhgkdaa
/- THE CELL 'sum', in the pinned program and in every row, IS THE sha256 OF THE DUMP (.gsa) THAT YtjjfpobjdhgkdaaProg.lean LOADS. Nothing in Lean hashes anything: it is a label: what it is worth is what the hold of that sum in a sandbox is worth. -/
noncomputable def Try.pinned : Pinned := { name := "ytjjfpobjdhgkdaa", sum := "af58f104ee012eebf43d3125c8056a2c387dae26aa0334b46cb188656321ea89", checked := Try.checked }
namespace Rows
def none {H : Type} : Left H := { results := [], args := [] }

/-- 'corrallaw05.FnvPlays': WHATEVER THE INPUT: true; the input reads as it did. -/
def fnvPlaysSpec : ChangeSpec := { name := "fnvPlays", fn := fun _ => fun
  | [d1, d2] => { results := [.lit (.bool true)], args := [d1, d2] }
  | _ => none }
def fnvPlaysRow : OpenClaim := { program := "ytjjfpobjdhgkdaa", sum := "af58f104ee012eebf43d3125c8056a2c387dae26aa0334b46cb188656321ea89", func := "corral/corrallaw05.FnvPlays", spec := "fnvPlays", apart := false }
def FnvPlaysSaid : Prop := fnvPlaysRow.holds Try.pinned (OpenSpec.ofChange fnvPlaysSpec)

/-- ITS FALSE NEIGHBOUR: 'it returns false'. Refute it at one input. -/
def fnvPlaysWrong : ChangeSpec := { name := "fnvPlays", fn := fun _ => fun
  | [d1, d2] => { results := [.lit (.bool false)], args := [d1, d2] }
  | _ => none }
def FnvPlaysWrongFalsely : Prop := fnvPlaysRow.holds Try.pinned (OpenSpec.ofChange fnvPlaysWrong)

/-- 'corrallaw05.FnvOne': WHATEVER THE INPUT: true; the input reads as it did. -/
def fnvOneSpec : ChangeSpec := { name := "fnvOne", fn := fun _ => fun
  | [d1, d2, d3] => { results := [.lit (.bool true)], args := [d1, d2, d3] }
  | _ => none }
def fnvOneRow : OpenClaim := { program := "ytjjfpobjdhgkdaa", sum := "af58f104ee012eebf43d3125c8056a2c387dae26aa0334b46cb188656321ea89", func := "corral/corrallaw05.FnvOne", spec := "fnvOne", apart := false }
def FnvOneSaid : Prop := fnvOneRow.holds Try.pinned (OpenSpec.ofChange fnvOneSpec)

/-- ITS FALSE NEIGHBOUR: 'it returns false'. Refute it at one input. -/
def fnvOneWrong : ChangeSpec := { name := "fnvOne", fn := fun _ => fun
  | [d1, d2, d3] => { results := [.lit (.bool false)], args := [d1, d2, d3] }
  | _ => none }
def FnvOneWrongFalsely : Prop := fnvOneRow.holds Try.pinned (OpenSpec.ofChange fnvOneWrong)

/-- 'corrallaw05.FnvMore': WHATEVER THE INPUT: true; the input reads as it did. -/
def fnvMoreSpec : ChangeSpec := { name := "fnvMore", fn := fun _ => fun
  | [d1, d2, d3] => { results := [.lit (.bool true)], args := [d1, d2, d3] }
  | _ => none }
def fnvMoreRow : OpenClaim := { program := "ytjjfpobjdhgkdaa", sum := "af58f104ee012eebf43d3125c8056a2c387dae26aa0334b46cb188656321ea89", func := "corral/corrallaw05.FnvMore", spec := "fnvMore", apart := false }
def FnvMoreSaid : Prop := fnvMoreRow.holds Try.pinned (OpenSpec.ofChange fnvMoreSpec)

/-- ITS FALSE NEIGHBOUR: 'it returns false'. Refute it at one input. -/
def fnvMoreWrong : ChangeSpec := { name := "fnvMore", fn := fun _ => fun
  | [d1, d2, d3] => { results := [.lit (.bool false)], args := [d1, d2, d3] }
  | _ => none }
def FnvMoreWrongFalsely : Prop := fnvMoreRow.holds Try.pinned (OpenSpec.ofChange fnvMoreWrong)

/-- 'corrallaw05.FnvUnlike': WHATEVER THE INPUT: true; the input reads as it did. -/
def fnvUnlikeSpec : ChangeSpec := { name := "fnvUnlike", fn := fun _ => fun
  | [d1, d2, d3] => { results := [.lit (.bool true)], args := [d1, d2, d3] }
  | _ => none }
def fnvUnlikeRow : OpenClaim := { program := "ytjjfpobjdhgkdaa", sum := "af58f104ee012eebf43d3125c8056a2c387dae26aa0334b46cb188656321ea89", func := "corral/corrallaw05.FnvUnlike", spec := "fnvUnlike", apart := false }
def FnvUnlikeSaid : Prop := fnvUnlikeRow.holds Try.pinned (OpenSpec.ofChange fnvUnlikeSpec)

/-- ITS FALSE NEIGHBOUR: 'it returns false'. Refute it at one input. -/
def fnvUnlikeWrong : ChangeSpec := { name := "fnvUnlike", fn := fun _ => fun
  | [d1, d2, d3] => { results := [.lit (.bool false)], args := [d1, d2, d3] }
  | _ => none }
def FnvUnlikeWrongFalsely : Prop := fnvUnlikeRow.holds Try.pinned (OpenSpec.ofChange fnvUnlikeWrong)

/-- 'corrallaw05.FnvFirst': WHATEVER THE INPUT: true; the input reads as it did. -/
def fnvFirstSpec : ChangeSpec := { name := "fnvFirst", fn := fun _ => fun
  | [d1, d2, d3] => { results := [.lit (.bool true)], args := [d1, d2, d3] }
  | _ => none }
def fnvFirstRow : OpenClaim := { program := "ytjjfpobjdhgkdaa", sum := "af58f104ee012eebf43d3125c8056a2c387dae26aa0334b46cb188656321ea89", func := "corral/corrallaw05.FnvFirst", spec := "fnvFirst", apart := false }
def FnvFirstSaid : Prop := fnvFirstRow.holds Try.pinned (OpenSpec.ofChange fnvFirstSpec)

/-- ITS FALSE NEIGHBOUR: 'it returns false'. Refute it at one input. -/
def fnvFirstWrong : ChangeSpec := { name := "fnvFirst", fn := fun _ => fun
  | [d1, d2, d3] => { results := [.lit (.bool false)], args := [d1, d2, d3] }
  | _ => none }
def FnvFirstWrongFalsely : Prop := fnvFirstRow.holds Try.pinned (OpenSpec.ofChange fnvFirstWrong)

/- THE SECOND FORM. 'bulk': how many values and letters a reading holds, each counted each time it is reached (what is shared counts as often as it is met; a slice's spare places count too). A statement '..UptoSaid' is the law's where the arguments, and the package variables that the reading takes, are together of bulk at most 1048576: NARROWER than '..Said'. Prove '..Said' where nothing that the law and all that it calls make is longer than what came in: it says more and counts as full. Else prove '..UptoSaid'. A law counts once. -/
mutual
def uptoBulk {H : Type} : DataW H → Nat
  | .lit (.string bytes) => bytes.length + 1
  | .lit _ => 1
  | .nil => 1
  | .ptr d => uptoBulk d + 1
  | .slice elems spare => uptoBulkAll elems + uptoBulkAll spare + 1
  | .agg parts => uptoBulkAll parts + 1
  | .iface _ d => uptoBulk d + 1
  | .map entries => uptoBulkEntries entries + 1
  | .held _ => 1
def uptoBulkAll {H : Type} : List (DataW H) → Nat
  | [] => 0
  | d :: r => uptoBulk d + uptoBulkAll r
def uptoBulkEntries {H : Type} : List (Lit × DataW H) → Nat
  | [] => 0
  | x :: r => uptoBulkEntry x + uptoBulkEntries r
def uptoBulkEntry {H : Type} : Lit × DataW H → Nat
  | (.string bytes, d) => bytes.length + uptoBulk d + 1
  | (_, d) => uptoBulk d + 1
 end
def uptoSmall : (H : Type) → List (DataW H) → Bool := fun _ ds => decide (uptoBulkAll ds ≤ 1048576)
def OpenSpec.upto (s : _root_.Go.ChangeSpec) : _root_.Go.OpenSpec := { _root_.Go.OpenSpec.ofChange s with cond := some uptoSmall }

/-- 'corrallaw05.FnvPlays', WHERE WHAT IT READS IS OF BULK AT MOST 1048576: true; the input reads as it did. -/
def fnvPlaysUptoRow : OpenClaim := { program := "ytjjfpobjdhgkdaa", sum := "af58f104ee012eebf43d3125c8056a2c387dae26aa0334b46cb188656321ea89", func := "corral/corrallaw05.FnvPlays", spec := "fnvPlays", apart := false, narrowed := true }
def FnvPlaysUptoSaid : Prop := fnvPlaysUptoRow.holds Try.pinned (OpenSpec.upto fnvPlaysSpec)

/-- 'corrallaw05.FnvOne', WHERE WHAT IT READS IS OF BULK AT MOST 1048576: true; the input reads as it did. -/
def fnvOneUptoRow : OpenClaim := { program := "ytjjfpobjdhgkdaa", sum := "af58f104ee012eebf43d3125c8056a2c387dae26aa0334b46cb188656321ea89", func := "corral/corrallaw05.FnvOne", spec := "fnvOne", apart := false, narrowed := true }
def FnvOneUptoSaid : Prop := fnvOneUptoRow.holds Try.pinned (OpenSpec.upto fnvOneSpec)

/-- 'corrallaw05.FnvMore', WHERE WHAT IT READS IS OF BULK AT MOST 1048576: true; the input reads as it did. -/
def fnvMoreUptoRow : OpenClaim := { program := "ytjjfpobjdhgkdaa", sum := "af58f104ee012eebf43d3125c8056a2c387dae26aa0334b46cb188656321ea89", func := "corral/corrallaw05.FnvMore", spec := "fnvMore", apart := false, narrowed := true }
def FnvMoreUptoSaid : Prop := fnvMoreUptoRow.holds Try.pinned (OpenSpec.upto fnvMoreSpec)

/-- 'corrallaw05.FnvUnlike', WHERE WHAT IT READS IS OF BULK AT MOST 1048576: true; the input reads as it did. -/
def fnvUnlikeUptoRow : OpenClaim := { program := "ytjjfpobjdhgkdaa", sum := "af58f104ee012eebf43d3125c8056a2c387dae26aa0334b46cb188656321ea89", func := "corral/corrallaw05.FnvUnlike", spec := "fnvUnlike", apart := false, narrowed := true }
def FnvUnlikeUptoSaid : Prop := fnvUnlikeUptoRow.holds Try.pinned (OpenSpec.upto fnvUnlikeSpec)

/-- 'corrallaw05.FnvFirst', WHERE WHAT IT READS IS OF BULK AT MOST 1048576: true; the input reads as it did. -/
def fnvFirstUptoRow : OpenClaim := { program := "ytjjfpobjdhgkdaa", sum := "af58f104ee012eebf43d3125c8056a2c387dae26aa0334b46cb188656321ea89", func := "corral/corrallaw05.FnvFirst", spec := "fnvFirst", apart := false, narrowed := true }
def FnvFirstUptoSaid : Prop := fnvFirstUptoRow.holds Try.pinned (OpenSpec.upto fnvFirstSpec)

end Rows
end Go.Proofs.Ytjjfpobjdhgkdaa
