/-
  No cell of these rows narrows 'for every input' (looked for: loops, veiled, ifaces, maps, wideKeys, modest, calm, conditions, laid).
  DERIVED. THE GIVEN ROWS OF THIS SEAT. 6 by the template 'for every input the law returns true; each argument reads behind the call as it read before'; 0 by the template 'total and deterministic' (their statements: YtbgnkljeodandaaGreatTotals.lean).
  GIVEN WITH THE SEED: the statements are not yours to turn. If you find one false, say at which input.
  Laid BY PROGRAM, IN A SANDBOX (cutbox-rows.mjs): the forced cells as the released guide's own fill.sh prints them over the translation 1418f006b456fc26… (all of the seat's roots in one cut). By AI agents, Wed Nov 11 2026. No macro, syntax, notation, axiom, sorry.
-/
import Derived.Test.YtbgnkljeodandaaGreatChecked
import GoSem.Claim
import GoSem.ClaimJoined
import GoSem.ClaimMapViews
import Derived.JoinedTies
import Derived.KernelRfl
namespace Go.Proofs.YtbgnkljeodandaaGreat
/- THE CELL 'sum', in the pinned program and in every row, IS THE sha256 OF THE DUMP (.gsa) THAT YtbgnkljeodandaaGreatProg.lean LOADS. Nothing in Lean hashes anything: it is a label: what it is worth is what the hold of that sum in a sandbox is worth. -/
noncomputable def Tryz.pinned : Pinned := { name := "ytbgnkljeodandaagreat", sum := "1418f006b456fc2682dcfb591e18ab82f0d24af3247cbbfd949128c1811c4d40", checked := Tryz.checked }
namespace Rows
def none {H : Type} : Left H := { results := [], args := [] }

/-- 'corrallaw13.BoxPlays': WHATEVER THE INPUT: true; the input reads as it did. -/
def boxPlaysSpec : ChangeSpec := { name := "boxPlays", fn := fun _ => fun
  | [d1, d2, d3, d4] => { results := [.lit (.bool true)], args := [d1, d2, d3, d4] }
  | _ => none }
def boxPlaysRow : OpenClaim := { program := "ytbgnkljeodandaagreat", sum := "1418f006b456fc2682dcfb591e18ab82f0d24af3247cbbfd949128c1811c4d40", func := "corral/corrallaw13.BoxPlays", spec := "boxPlays", unfollowed := true, recurses := true, apart := false }
def BoxPlaysSaid : Prop := boxPlaysRow.holds Tryz.pinned (OpenSpec.ofChange boxPlaysSpec)

/-- ITS FALSE NEIGHBOUR: 'it returns false'. Refute it at one input. -/
def boxPlaysWrong : ChangeSpec := { name := "boxPlays", fn := fun _ => fun
  | [d1, d2, d3, d4] => { results := [.lit (.bool false)], args := [d1, d2, d3, d4] }
  | _ => none }
def BoxPlaysWrongFalsely : Prop := boxPlaysRow.holds Tryz.pinned (OpenSpec.ofChange boxPlaysWrong)

/-- 'corrallaw13.BoxStays': WHATEVER THE INPUT: true; the input reads as it did. -/
def boxStaysSpec : ChangeSpec := { name := "boxStays", fn := fun _ => fun
  | [d1, d2, d3] => { results := [.lit (.bool true)], args := [d1, d2, d3] }
  | _ => none }
def boxStaysRow : OpenClaim := { program := "ytbgnkljeodandaagreat", sum := "1418f006b456fc2682dcfb591e18ab82f0d24af3247cbbfd949128c1811c4d40", func := "corral/corrallaw13.BoxStays", spec := "boxStays", unfollowed := true, recurses := true, apart := false }
def BoxStaysSaid : Prop := boxStaysRow.holds Tryz.pinned (OpenSpec.ofChange boxStaysSpec)

/-- ITS FALSE NEIGHBOUR: 'it returns false'. Refute it at one input. -/
def boxStaysWrong : ChangeSpec := { name := "boxStays", fn := fun _ => fun
  | [d1, d2, d3] => { results := [.lit (.bool false)], args := [d1, d2, d3] }
  | _ => none }
def BoxStaysWrongFalsely : Prop := boxStaysRow.holds Tryz.pinned (OpenSpec.ofChange boxStaysWrong)

/-- 'corrallaw13.BoxParts': WHATEVER THE INPUT: true; the input reads as it did. -/
def boxPartsSpec : ChangeSpec := { name := "boxParts", fn := fun _ => fun
  | [d1, d2, d3, d4, d5] => { results := [.lit (.bool true)], args := [d1, d2, d3, d4, d5] }
  | _ => none }
def boxPartsRow : OpenClaim := { program := "ytbgnkljeodandaagreat", sum := "1418f006b456fc2682dcfb591e18ab82f0d24af3247cbbfd949128c1811c4d40", func := "corral/corrallaw13.BoxParts", spec := "boxParts", unfollowed := true, recurses := true, apart := false }
def BoxPartsSaid : Prop := boxPartsRow.holds Tryz.pinned (OpenSpec.ofChange boxPartsSpec)

/-- ITS FALSE NEIGHBOUR: 'it returns false'. Refute it at one input. -/
def boxPartsWrong : ChangeSpec := { name := "boxParts", fn := fun _ => fun
  | [d1, d2, d3, d4, d5] => { results := [.lit (.bool false)], args := [d1, d2, d3, d4, d5] }
  | _ => none }
def BoxPartsWrongFalsely : Prop := boxPartsRow.holds Tryz.pinned (OpenSpec.ofChange boxPartsWrong)

/-- 'corrallaw13.BoxRefuses': WHATEVER THE INPUT: true; the input reads as it did. -/
def boxRefusesSpec : ChangeSpec := { name := "boxRefuses", fn := fun _ => fun
  | [d1, d2, d3, d4] => { results := [.lit (.bool true)], args := [d1, d2, d3, d4] }
  | _ => none }
def boxRefusesRow : OpenClaim := { program := "ytbgnkljeodandaagreat", sum := "1418f006b456fc2682dcfb591e18ab82f0d24af3247cbbfd949128c1811c4d40", func := "corral/corrallaw13.BoxRefuses", spec := "boxRefuses", unfollowed := true, recurses := true, apart := false }
def BoxRefusesSaid : Prop := boxRefusesRow.holds Tryz.pinned (OpenSpec.ofChange boxRefusesSpec)

/-- ITS FALSE NEIGHBOUR: 'it returns false'. Refute it at one input. -/
def boxRefusesWrong : ChangeSpec := { name := "boxRefuses", fn := fun _ => fun
  | [d1, d2, d3, d4] => { results := [.lit (.bool false)], args := [d1, d2, d3, d4] }
  | _ => none }
def BoxRefusesWrongFalsely : Prop := boxRefusesRow.holds Tryz.pinned (OpenSpec.ofChange boxRefusesWrong)

/-- 'corrallaw13.BoxSame': WHATEVER THE INPUT: true; the input reads as it did. -/
def boxSameSpec : ChangeSpec := { name := "boxSame", fn := fun _ => fun
  | [d1, d2, d3, d4] => { results := [.lit (.bool true)], args := [d1, d2, d3, d4] }
  | _ => none }
def boxSameRow : OpenClaim := { program := "ytbgnkljeodandaagreat", sum := "1418f006b456fc2682dcfb591e18ab82f0d24af3247cbbfd949128c1811c4d40", func := "corral/corrallaw13.BoxSame", spec := "boxSame", unfollowed := true, recurses := true, apart := false }
def BoxSameSaid : Prop := boxSameRow.holds Tryz.pinned (OpenSpec.ofChange boxSameSpec)

/-- ITS FALSE NEIGHBOUR: 'it returns false'. Refute it at one input. -/
def boxSameWrong : ChangeSpec := { name := "boxSame", fn := fun _ => fun
  | [d1, d2, d3, d4] => { results := [.lit (.bool false)], args := [d1, d2, d3, d4] }
  | _ => none }
def BoxSameWrongFalsely : Prop := boxSameRow.holds Tryz.pinned (OpenSpec.ofChange boxSameWrong)

/-- 'corrallaw13.BoxDead': WHATEVER THE INPUT: true; the input reads as it did. -/
def boxDeadSpec : ChangeSpec := { name := "boxDead", fn := fun _ => fun
  | [d1, d2, d3, d4] => { results := [.lit (.bool true)], args := [d1, d2, d3, d4] }
  | _ => none }
def boxDeadRow : OpenClaim := { program := "ytbgnkljeodandaagreat", sum := "1418f006b456fc2682dcfb591e18ab82f0d24af3247cbbfd949128c1811c4d40", func := "corral/corrallaw13.BoxDead", spec := "boxDead", unfollowed := true, recurses := true, apart := false }
def BoxDeadSaid : Prop := boxDeadRow.holds Tryz.pinned (OpenSpec.ofChange boxDeadSpec)

/-- ITS FALSE NEIGHBOUR: 'it returns false'. Refute it at one input. -/
def boxDeadWrong : ChangeSpec := { name := "boxDead", fn := fun _ => fun
  | [d1, d2, d3, d4] => { results := [.lit (.bool false)], args := [d1, d2, d3, d4] }
  | _ => none }
def BoxDeadWrongFalsely : Prop := boxDeadRow.holds Tryz.pinned (OpenSpec.ofChange boxDeadWrong)

/- THE SECOND FORM. 'bulk': how many values and letters a reading holds, each counted each time it is reached (what is shared counts as often as it is met; a slice's spare places count too). A statement '..UptoSaid' is the law's where the arguments, and the package variables that the reading takes, are together of bulk at most 1048576: NARROWER than '..Said'. Prove '..Said' where nothing that the law and all that it calls make is longer than what came in: it says more and counts as full. Else prove '..UptoSaid'. A law counts once. -/
mutual
def uptoBulk {H : Type} : DataW H → Nat
  | .lit (.string bytes) => bytes.length + 1
  | .lit _ => 1
  | .nil => 1
  | .ptr d => uptoBulk d + 1
  | .slice elems spare => uptoBulkAll elems + uptoBulkAll spare + 1
  | .agg parts => uptoBulkAll parts + 1
  | .iface _ d => uptoBulk d + 1
  | .map entries => uptoBulkEntries entries + 1
  | .held _ => 1
def uptoBulkAll {H : Type} : List (DataW H) → Nat
  | [] => 0
  | d :: r => uptoBulk d + uptoBulkAll r
def uptoBulkEntries {H : Type} : List (Lit × DataW H) → Nat
  | [] => 0
  | x :: r => uptoBulkEntry x + uptoBulkEntries r
def uptoBulkEntry {H : Type} : Lit × DataW H → Nat
  | (.string bytes, d) => bytes.length + uptoBulk d + 1
  | (_, d) => uptoBulk d + 1
 end
def uptoSmall : (H : Type) → List (DataW H) → Bool := fun _ ds => decide (uptoBulkAll ds ≤ 1048576)
def OpenSpec.upto (s : _root_.Go.ChangeSpec) : _root_.Go.OpenSpec := { _root_.Go.OpenSpec.ofChange s with cond := some uptoSmall }

/-- 'corrallaw13.BoxPlays', WHERE WHAT IT READS IS OF BULK AT MOST 1048576: true; the input reads as it did. -/
def boxPlaysUptoRow : OpenClaim := { program := "ytbgnkljeodandaagreat", sum := "1418f006b456fc2682dcfb591e18ab82f0d24af3247cbbfd949128c1811c4d40", func := "corral/corrallaw13.BoxPlays", spec := "boxPlays", unfollowed := true, recurses := true, apart := false, narrowed := true }
def BoxPlaysUptoSaid : Prop := boxPlaysUptoRow.holds Tryz.pinned (OpenSpec.upto boxPlaysSpec)

/-- 'corrallaw13.BoxStays', WHERE WHAT IT READS IS OF BULK AT MOST 1048576: true; the input reads as it did. -/
def boxStaysUptoRow : OpenClaim := { program := "ytbgnkljeodandaagreat", sum := "1418f006b456fc2682dcfb591e18ab82f0d24af3247cbbfd949128c1811c4d40", func := "corral/corrallaw13.BoxStays", spec := "boxStays", unfollowed := true, recurses := true, apart := false, narrowed := true }
def BoxStaysUptoSaid : Prop := boxStaysUptoRow.holds Tryz.pinned (OpenSpec.upto boxStaysSpec)

/-- 'corrallaw13.BoxParts', WHERE WHAT IT READS IS OF BULK AT MOST 1048576: true; the input reads as it did. -/
def boxPartsUptoRow : OpenClaim := { program := "ytbgnkljeodandaagreat", sum := "1418f006b456fc2682dcfb591e18ab82f0d24af3247cbbfd949128c1811c4d40", func := "corral/corrallaw13.BoxParts", spec := "boxParts", unfollowed := true, recurses := true, apart := false, narrowed := true }
def BoxPartsUptoSaid : Prop := boxPartsUptoRow.holds Tryz.pinned (OpenSpec.upto boxPartsSpec)

/-- 'corrallaw13.BoxRefuses', WHERE WHAT IT READS IS OF BULK AT MOST 1048576: true; the input reads as it did. -/
def boxRefusesUptoRow : OpenClaim := { program := "ytbgnkljeodandaagreat", sum := "1418f006b456fc2682dcfb591e18ab82f0d24af3247cbbfd949128c1811c4d40", func := "corral/corrallaw13.BoxRefuses", spec := "boxRefuses", unfollowed := true, recurses := true, apart := false, narrowed := true }
def BoxRefusesUptoSaid : Prop := boxRefusesUptoRow.holds Tryz.pinned (OpenSpec.upto boxRefusesSpec)

/-- 'corrallaw13.BoxSame', WHERE WHAT IT READS IS OF BULK AT MOST 1048576: true; the input reads as it did. -/
def boxSameUptoRow : OpenClaim := { program := "ytbgnkljeodandaagreat", sum := "1418f006b456fc2682dcfb591e18ab82f0d24af3247cbbfd949128c1811c4d40", func := "corral/corrallaw13.BoxSame", spec := "boxSame", unfollowed := true, recurses := true, apart := false, narrowed := true }
def BoxSameUptoSaid : Prop := boxSameUptoRow.holds Tryz.pinned (OpenSpec.upto boxSameSpec)

/-- 'corrallaw13.BoxDead', WHERE WHAT IT READS IS OF BULK AT MOST 1048576: true; the input reads as it did. -/
def boxDeadUptoRow : OpenClaim := { program := "ytbgnkljeodandaagreat", sum := "1418f006b456fc2682dcfb591e18ab82f0d24af3247cbbfd949128c1811c4d40", func := "corral/corrallaw13.BoxDead", spec := "boxDead", unfollowed := true, recurses := true, apart := false, narrowed := true }
def BoxDeadUptoSaid : Prop := boxDeadUptoRow.holds Tryz.pinned (OpenSpec.upto boxDeadSpec)

end Rows
end Go.Proofs.YtbgnkljeodandaaGreat
