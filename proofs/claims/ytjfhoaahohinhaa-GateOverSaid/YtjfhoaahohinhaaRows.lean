/-
  No cell of these rows narrows 'for every input' (looked for: loops, veiled, ifaces, maps, wideKeys, modest, calm, conditions, laid).
  DERIVED. THE GIVEN ROWS OF THIS SEAT. 4 by the template 'for every input the law returns true; each argument reads behind the call as it read before'; 0 by the template 'total and deterministic' (their statements: YtjfhoaahohinhaaTotals.lean).
  GIVEN WITH THE SEED: the statements are not yours to turn. If you find one false, say at which input.
  Laid BY PROGRAM, IN A SANDBOX (cutbox-rows.mjs): the forced cells as the released guide's own fill.sh prints them over the translation f800fc00a4609ee5… (all of the seat's roots in one cut). By AI agents, Wed Nov 11 2026. No macro, syntax, notation, axiom, sorry.
-/
import Derived.Test.YtjfhoaahohinhaaChecked
import GoSem.Claim
import GoSem.ClaimJoined
import GoSem.ClaimMapViews
import Derived.JoinedTies
import Derived.KernelRfl
namespace Go.Proofs.Ytjfhoaahohinhaa
/- THE CELL 'sum', in the pinned program and in every row, IS THE sha256 OF THE DUMP (.gsa) THAT YtjfhoaahohinhaaProg.lean LOADS. Nothing in Lean hashes anything: it is a label: what it is worth is what the hold of that sum in a sandbox is worth. -/
noncomputable def Try.pinned : Pinned := { name := "ytjfhoaahohinhaa", sum := "f800fc00a4609ee5645e5035a1dc026207dcc4ebbd0c3e7879f8ed54aa13d563", checked := Try.checked }
namespace Rows
def none {H : Type} : Left H := { results := [], args := [] }

/-- 'corrallaw12.GateOwns': WHATEVER THE INPUT: true; the input reads as it did. -/
def gateOwnsSpec : ChangeSpec := { name := "gateOwns", fn := fun _ => fun
  | [d1, d2, d3, d4] => { results := [.lit (.bool true)], args := [d1, d2, d3, d4] }
  | _ => none }
def gateOwnsRow : OpenClaim := { program := "ytjfhoaahohinhaa", sum := "f800fc00a4609ee5645e5035a1dc026207dcc4ebbd0c3e7879f8ed54aa13d563", func := "corral/corrallaw12.GateOwns", spec := "gateOwns", apart := false }
def GateOwnsSaid : Prop := gateOwnsRow.holds Try.pinned (OpenSpec.ofChange gateOwnsSpec)

/-- ITS FALSE NEIGHBOUR: 'it returns false'. Refute it at one input. -/
def gateOwnsWrong : ChangeSpec := { name := "gateOwns", fn := fun _ => fun
  | [d1, d2, d3, d4] => { results := [.lit (.bool false)], args := [d1, d2, d3, d4] }
  | _ => none }
def GateOwnsWrongFalsely : Prop := gateOwnsRow.holds Try.pinned (OpenSpec.ofChange gateOwnsWrong)

/-- 'corrallaw12.GateText': WHATEVER THE INPUT: true; the input reads as it did. -/
def gateTextSpec : ChangeSpec := { name := "gateText", fn := fun _ => fun
  | [d] => { results := [.lit (.bool true)], args := [d] }
  | _ => none }
def gateTextRow : OpenClaim := { program := "ytjfhoaahohinhaa", sum := "f800fc00a4609ee5645e5035a1dc026207dcc4ebbd0c3e7879f8ed54aa13d563", func := "corral/corrallaw12.GateText", spec := "gateText", inPlace := ["internal/abi.NoEscape"], recurses := true, apart := false }
def GateTextSaid : Prop := gateTextRow.holds Try.pinned (OpenSpec.ofChange gateTextSpec)

/-- ITS FALSE NEIGHBOUR: 'it returns false'. Refute it at one input. -/
def gateTextWrong : ChangeSpec := { name := "gateText", fn := fun _ => fun
  | [d] => { results := [.lit (.bool false)], args := [d] }
  | _ => none }
def GateTextWrongFalsely : Prop := gateTextRow.holds Try.pinned (OpenSpec.ofChange gateTextWrong)

/-- 'corrallaw12.GateTold': WHATEVER THE INPUT: true; the input reads as it did. -/
def gateToldSpec : ChangeSpec := { name := "gateTold", fn := fun _ => fun
  | [d1, d2] => { results := [.lit (.bool true)], args := [d1, d2] }
  | _ => none }
def gateToldRow : OpenClaim := { program := "ytjfhoaahohinhaa", sum := "f800fc00a4609ee5645e5035a1dc026207dcc4ebbd0c3e7879f8ed54aa13d563", func := "corral/corrallaw12.GateTold", spec := "gateTold", apart := false }
def GateToldSaid : Prop := gateToldRow.holds Try.pinned (OpenSpec.ofChange gateToldSpec)

/-- ITS FALSE NEIGHBOUR: 'it returns false'. Refute it at one input. -/
def gateToldWrong : ChangeSpec := { name := "gateTold", fn := fun _ => fun
  | [d1, d2] => { results := [.lit (.bool false)], args := [d1, d2] }
  | _ => none }
def GateToldWrongFalsely : Prop := gateToldRow.holds Try.pinned (OpenSpec.ofChange gateToldWrong)

/-- 'corrallaw12.GateOver': WHATEVER THE INPUT: true; the input reads as it did. -/
def gateOverSpec : ChangeSpec := { name := "gateOver", fn := fun _ => fun
  | [d1, d2] => { results := [.lit (.bool true)], args := [d1, d2] }
  | _ => none }
def gateOverRow : OpenClaim := { program := "ytjfhoaahohinhaa", sum := "f800fc00a4609ee5645e5035a1dc026207dcc4ebbd0c3e7879f8ed54aa13d563", func := "corral/corrallaw12.GateOver", spec := "gateOver", apart := false }
def GateOverSaid : Prop := gateOverRow.holds Try.pinned (OpenSpec.ofChange gateOverSpec)

/-- ITS FALSE NEIGHBOUR: 'it returns false'. Refute it at one input. -/
def gateOverWrong : ChangeSpec := { name := "gateOver", fn := fun _ => fun
  | [d1, d2] => { results := [.lit (.bool false)], args := [d1, d2] }
  | _ => none }
def GateOverWrongFalsely : Prop := gateOverRow.holds Try.pinned (OpenSpec.ofChange gateOverWrong)

/- THE SECOND FORM. 'bulk': how many values and letters a reading holds, each counted each time it is reached (what is shared counts as often as it is met; a slice's spare places count too). A statement '..UptoSaid' is the law's where the arguments, and the package variables that the reading takes, are together of bulk at most 1048576: NARROWER than '..Said'. Prove '..Said' where nothing that the law and all that it calls make is longer than what came in: it says more and counts as full. Else prove '..UptoSaid'. A law counts once. -/
mutual
def uptoBulk {H : Type} : DataW H → Nat
  | .lit (.string bytes) => bytes.length + 1
  | .lit _ => 1
  | .nil => 1
  | .ptr d => uptoBulk d + 1
  | .slice elems spare => uptoBulkAll elems + uptoBulkAll spare + 1
  | .agg parts => uptoBulkAll parts + 1
  | .iface _ d => uptoBulk d + 1
  | .map entries => uptoBulkEntries entries + 1
  | .held _ => 1
def uptoBulkAll {H : Type} : List (DataW H) → Nat
  | [] => 0
  | d :: r => uptoBulk d + uptoBulkAll r
def uptoBulkEntries {H : Type} : List (Lit × DataW H) → Nat
  | [] => 0
  | x :: r => uptoBulkEntry x + uptoBulkEntries r
def uptoBulkEntry {H : Type} : Lit × DataW H → Nat
  | (.string bytes, d) => bytes.length + uptoBulk d + 1
  | (_, d) => uptoBulk d + 1
 end
def uptoSmall : (H : Type) → List (DataW H) → Bool := fun _ ds => decide (uptoBulkAll ds ≤ 1048576)
def OpenSpec.upto (s : _root_.Go.ChangeSpec) : _root_.Go.OpenSpec := { _root_.Go.OpenSpec.ofChange s with cond := some uptoSmall }

/-- 'corrallaw12.GateOwns', WHERE WHAT IT READS IS OF BULK AT MOST 1048576: true; the input reads as it did. -/
def gateOwnsUptoRow : OpenClaim := { program := "ytjfhoaahohinhaa", sum := "f800fc00a4609ee5645e5035a1dc026207dcc4ebbd0c3e7879f8ed54aa13d563", func := "corral/corrallaw12.GateOwns", spec := "gateOwns", apart := false, narrowed := true }
def GateOwnsUptoSaid : Prop := gateOwnsUptoRow.holds Try.pinned (OpenSpec.upto gateOwnsSpec)

/-- 'corrallaw12.GateText', WHERE WHAT IT READS IS OF BULK AT MOST 1048576: true; the input reads as it did. -/
def gateTextUptoRow : OpenClaim := { program := "ytjfhoaahohinhaa", sum := "f800fc00a4609ee5645e5035a1dc026207dcc4ebbd0c3e7879f8ed54aa13d563", func := "corral/corrallaw12.GateText", spec := "gateText", inPlace := ["internal/abi.NoEscape"], recurses := true, apart := false, narrowed := true }
def GateTextUptoSaid : Prop := gateTextUptoRow.holds Try.pinned (OpenSpec.upto gateTextSpec)

/-- 'corrallaw12.GateTold', WHERE WHAT IT READS IS OF BULK AT MOST 1048576: true; the input reads as it did. -/
def gateToldUptoRow : OpenClaim := { program := "ytjfhoaahohinhaa", sum := "f800fc00a4609ee5645e5035a1dc026207dcc4ebbd0c3e7879f8ed54aa13d563", func := "corral/corrallaw12.GateTold", spec := "gateTold", apart := false, narrowed := true }
def GateToldUptoSaid : Prop := gateToldUptoRow.holds Try.pinned (OpenSpec.upto gateToldSpec)

/-- 'corrallaw12.GateOver', WHERE WHAT IT READS IS OF BULK AT MOST 1048576: true; the input reads as it did. -/
def gateOverUptoRow : OpenClaim := { program := "ytjfhoaahohinhaa", sum := "f800fc00a4609ee5645e5035a1dc026207dcc4ebbd0c3e7879f8ed54aa13d563", func := "corral/corrallaw12.GateOver", spec := "gateOver", apart := false, narrowed := true }
def GateOverUptoSaid : Prop := gateOverUptoRow.holds Try.pinned (OpenSpec.upto gateOverSpec)

end Rows
end Go.Proofs.Ytjfhoaahohinhaa
