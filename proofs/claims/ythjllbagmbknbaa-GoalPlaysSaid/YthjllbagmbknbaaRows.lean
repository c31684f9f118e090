/-
  No cell of these rows narrows 'for every input' (looked for: loops, veiled, ifaces, maps, wideKeys, modest, calm, conditions, laid).
  DERIVED. THE GIVEN ROWS OF THIS SEAT. 4 by the template 'for every input the law returns true; each argument reads behind the call as it read before'; 0 by the template 'total and deterministic' (their statements: YthjllbagmbknbaaTotals.lean).
  GIVEN WITH THE SEED: the statements are not yours to turn. If you find one false, say at which input.
  Laid BY PROGRAM, IN A SANDBOX (cutbox-rows.mjs): the forced cells as the released guide's own fill.sh prints them over the translation 17d369a9efa0ef95… (all of the seat's roots in one cut). By AI agents, Wed Nov 11 2026. No macro, syntax, notation, axiom, sorry.
-/
import Derived.Test.YthjllbagmbknbaaChecked
import GoSem.Claim
import GoSem.ClaimJoined
import GoSem.ClaimMapViews
import Derived.JoinedTies
import Derived.KernelRfl
namespace Go.Proofs.Ythjllbagmbknbaa
/- THE CELL 'sum', in the pinned program and in every row, IS THE sha256 OF THE DUMP (.gsa) THAT YthjllbagmbknbaaProg.lean LOADS. Nothing in Lean hashes anything: it is a label: what it is worth is what the hold of that sum in a sandbox is worth. -/
noncomputable def Try.pinned : Pinned := { name := "ythjllbagmbknbaa", sum := "17d369a9efa0ef95f4f2f40799ce8099de3c480afe06e0f7b0ac8d666a95dcf4", checked := Try.checked }
namespace Rows
def none {H : Type} : Left H := { results := [], args := [] }

/-- 'corrallaw09.GoalPlays': WHATEVER THE INPUT: true; the input reads as it did. -/
def goalPlaysSpec : ChangeSpec := { name := "goalPlays", fn := fun _ => fun
  | [d] => { results := [.lit (.bool true)], args := [d] }
  | _ => none }
def goalPlaysRow : OpenClaim := { program := "ythjllbagmbknbaa", sum := "17d369a9efa0ef95f4f2f40799ce8099de3c480afe06e0f7b0ac8d666a95dcf4", func := "corral/corrallaw09.GoalPlays", spec := "goalPlays", unfollowed := true, recurses := true, apart := false }
def GoalPlaysSaid : Prop := goalPlaysRow.holds Try.pinned (OpenSpec.ofChange goalPlaysSpec)

/-- ITS FALSE NEIGHBOUR: 'it returns false'. Refute it at one input. -/
def goalPlaysWrong : ChangeSpec := { name := "goalPlays", fn := fun _ => fun
  | [d] => { results := [.lit (.bool false)], args := [d] }
  | _ => none }
def GoalPlaysWrongFalsely : Prop := goalPlaysRow.holds Try.pinned (OpenSpec.ofChange goalPlaysWrong)

/-- 'corrallaw09.GoalStarts': WHATEVER THE INPUT: true; the input reads as it did. -/
def goalStartsSpec : ChangeSpec := { name := "goalStarts", fn := fun _ => fun
  | [d] => { results := [.lit (.bool true)], args := [d] }
  | _ => none }
def goalStartsRow : OpenClaim := { program := "ythjllbagmbknbaa", sum := "17d369a9efa0ef95f4f2f40799ce8099de3c480afe06e0f7b0ac8d666a95dcf4", func := "corral/corrallaw09.GoalStarts", spec := "goalStarts", unfollowed := true, recurses := true, apart := false }
def GoalStartsSaid : Prop := goalStartsRow.holds Try.pinned (OpenSpec.ofChange goalStartsSpec)

/-- ITS FALSE NEIGHBOUR: 'it returns false'. Refute it at one input. -/
def goalStartsWrong : ChangeSpec := { name := "goalStarts", fn := fun _ => fun
  | [d] => { results := [.lit (.bool false)], args := [d] }
  | _ => none }
def GoalStartsWrongFalsely : Prop := goalStartsRow.holds Try.pinned (OpenSpec.ofChange goalStartsWrong)

/-- 'corrallaw09.GoalParts': WHATEVER THE INPUT: true; the input reads as it did. -/
def goalPartsSpec : ChangeSpec := { name := "goalParts", fn := fun _ => fun
  | [d1, d2] => { results := [.lit (.bool true)], args := [d1, d2] }
  | _ => none }
def goalPartsRow : OpenClaim := { program := "ythjllbagmbknbaa", sum := "17d369a9efa0ef95f4f2f40799ce8099de3c480afe06e0f7b0ac8d666a95dcf4", func := "corral/corrallaw09.GoalParts", spec := "goalParts", unfollowed := true, recurses := true, apart := false }
def GoalPartsSaid : Prop := goalPartsRow.holds Try.pinned (OpenSpec.ofChange goalPartsSpec)

/-- ITS FALSE NEIGHBOUR: 'it returns false'. Refute it at one input. -/
def goalPartsWrong : ChangeSpec := { name := "goalParts", fn := fun _ => fun
  | [d1, d2] => { results := [.lit (.bool false)], args := [d1, d2] }
  | _ => none }
def GoalPartsWrongFalsely : Prop := goalPartsRow.holds Try.pinned (OpenSpec.ofChange goalPartsWrong)

/-- 'corrallaw09.GoalTurns': WHATEVER THE INPUT: true; the input reads as it did. -/
def goalTurnsSpec : ChangeSpec := { name := "goalTurns", fn := fun _ => fun
  | [d1, d2] => { results := [.lit (.bool true)], args := [d1, d2] }
  | _ => none }
def goalTurnsRow : OpenClaim := { program := "ythjllbagmbknbaa", sum := "17d369a9efa0ef95f4f2f40799ce8099de3c480afe06e0f7b0ac8d666a95dcf4", func := "corral/corrallaw09.GoalTurns", spec := "goalTurns", apart := false }
def GoalTurnsSaid : Prop := goalTurnsRow.holds Try.pinned (OpenSpec.ofChange goalTurnsSpec)

/-- ITS FALSE NEIGHBOUR: 'it returns false'. Refute it at one input. -/
def goalTurnsWrong : ChangeSpec := { name := "goalTurns", fn := fun _ => fun
  | [d1, d2] => { results := [.lit (.bool false)], args := [d1, d2] }
  | _ => none }
def GoalTurnsWrongFalsely : Prop := goalTurnsRow.holds Try.pinned (OpenSpec.ofChange goalTurnsWrong)

/- THE SECOND FORM. 'bulk': how many values and letters a reading holds, each counted each time it is reached (what is shared counts as often as it is met; a slice's spare places count too). A statement '..UptoSaid' is the law's where the arguments, and the package variables that the reading takes, are together of bulk at most 1048576: NARROWER than '..Said'. Prove '..Said' where nothing that the law and all that it calls make is longer than what came in: it says more and counts as full. Else prove '..UptoSaid'. A law counts once. -/
mutual
def uptoBulk {H : Type} : DataW H → Nat
  | .lit (.string bytes) => bytes.length + 1
  | .lit _ => 1
  | .nil => 1
  | .ptr d => uptoBulk d + 1
  | .slice elems spare => uptoBulkAll elems + uptoBulkAll spare + 1
  | .agg parts => uptoBulkAll parts + 1
  | .iface _ d => uptoBulk d + 1
  | .map entries => uptoBulkEntries entries + 1
  | .held _ => 1
def uptoBulkAll {H : Type} : List (DataW H) → Nat
  | [] => 0
  | d :: r => uptoBulk d + uptoBulkAll r
def uptoBulkEntries {H : Type} : List (Lit × DataW H) → Nat
  | [] => 0
  | x :: r => uptoBulkEntry x + uptoBulkEntries r
def uptoBulkEntry {H : Type} : Lit × DataW H → Nat
  | (.string bytes, d) => bytes.length + uptoBulk d + 1
  | (_, d) => uptoBulk d + 1
 end
def uptoSmall : (H : Type) → List (DataW H) → Bool := fun _ ds => decide (uptoBulkAll ds ≤ 1048576)
def OpenSpec.upto (s : _root_.Go.ChangeSpec) : _root_.Go.OpenSpec := { _root_.Go.OpenSpec.ofChange s with cond := some uptoSmall }

/-- 'corrallaw09.GoalPlays', WHERE WHAT IT READS IS OF BULK AT MOST 1048576: true; the input reads as it did. -/
def goalPlaysUptoRow : OpenClaim := { program := "ythjllbagmbknbaa", sum := "17d369a9efa0ef95f4f2f40799ce8099de3c480afe06e0f7b0ac8d666a95dcf4", func := "corral/corrallaw09.GoalPlays", spec := "goalPlays", unfollowed := true, recurses := true, apart := false, narrowed := true }
def GoalPlaysUptoSaid : Prop := goalPlaysUptoRow.holds Try.pinned (OpenSpec.upto goalPlaysSpec)

/-- 'corrallaw09.GoalStarts', WHERE WHAT IT READS IS OF BULK AT MOST 1048576: true; the input reads as it did. -/
def goalStartsUptoRow : OpenClaim := { program := "ythjllbagmbknbaa", sum := "17d369a9efa0ef95f4f2f40799ce8099de3c480afe06e0f7b0ac8d666a95dcf4", func := "corral/corrallaw09.GoalStarts", spec := "goalStarts", unfollowed := true, recurses := true, apart := false, narrowed := true }
def GoalStartsUptoSaid : Prop := goalStartsUptoRow.holds Try.pinned (OpenSpec.upto goalStartsSpec)

/-- 'corrallaw09.GoalParts', WHERE WHAT IT READS IS OF BULK AT MOST 1048576: true; the input reads as it did. -/
def goalPartsUptoRow : OpenClaim := { program := "ythjllbagmbknbaa", sum := "17d369a9efa0ef95f4f2f40799ce8099de3c480afe06e0f7b0ac8d666a95dcf4", func := "corral/corrallaw09.GoalParts", spec := "goalParts", unfollowed := true, recurses := true, apart := false, narrowed := true }
def GoalPartsUptoSaid : Prop := goalPartsUptoRow.holds Try.pinned (OpenSpec.upto goalPartsSpec)

/-- 'corrallaw09.GoalTurns', WHERE WHAT IT READS IS OF BULK AT MOST 1048576: true; the input reads as it did. -/
def goalTurnsUptoRow : OpenClaim := { program := "ythjllbagmbknbaa", sum := "17d369a9efa0ef95f4f2f40799ce8099de3c480afe06e0f7b0ac8d666a95dcf4", func := "corral/corrallaw09.GoalTurns", spec := "goalTurns", apart := false, narrowed := true }
def GoalTurnsUptoSaid : Prop := goalTurnsUptoRow.holds Try.pinned (OpenSpec.upto goalTurnsSpec)

end Rows
end Go.Proofs.Ythjllbagmbknbaa
