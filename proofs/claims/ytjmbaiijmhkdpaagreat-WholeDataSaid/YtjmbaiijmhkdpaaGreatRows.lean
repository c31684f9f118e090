/-
  No cell of these rows narrows 'for every input' (looked for: loops, veiled, ifaces, maps, wideKeys, modest, calm, conditions, laid).
  DERIVED. THE GIVEN ROWS OF THIS SEAT. 7 by the template 'for every input the law returns true; each argument reads behind the call as it read before'; 0 by the template 'total and deterministic' (their statements: YtjmbaiijmhkdpaaGreatTotals.lean).
  GIVEN WITH THE SEED: the statements are not yours to turn. If you find one false, say at which input.
  Laid BY PROGRAM, IN A SANDBOX (cutbox-rows.mjs): the forced cells as the released guide's own fill.sh prints them over the translation f3b99c88645c7328… (all of the seat's roots in one cut). By AI agents, Wed Nov 11 2026. No macro, syntax, notation, axiom, sorry.
-/
import Derived.Test.YtjmbaiijmhkdpaaGreatChecked
import GoSem.Claim
import GoSem.ClaimJoined
import GoSem.ClaimMapViews
import Derived.JoinedTies
import Derived.KernelRfl
namespace Go.Proofs.YtjmbaiijmhkdpaaGreat
/- THE CELL 'sum', in the pinned program and in every row, IS THE sha256 OF THE DUMP (.gsa) THAT YtjmbaiijmhkdpaaGreatProg.lean LOADS. Nothing in Lean hashes anything: it is a label: what it is worth is what the hold of that sum in a sandbox is worth. -/
noncomputable def Tryz.pinned : Pinned := { name := "ytjmbaiijmhkdpaagreat", sum := "f3b99c88645c732801481f2cca530ab1281f8e3c1745a28a167e99f1a8610243", checked := Tryz.checked }
namespace Rows
def none {H : Type} : Left H := { results := [], args := [] }

/-- 'corrallaw14.HostPlays': WHATEVER THE INPUT: true; the input reads as it did. -/
def hostPlaysSpec : ChangeSpec := { name := "hostPlays", fn := fun _ => fun
  | [d1, d2, d3] => { results := [.lit (.bool true)], args := [d1, d2, d3] }
  | _ => none }
def hostPlaysRow : OpenClaim := { program := "ytjmbaiijmhkdpaagreat", sum := "f3b99c88645c732801481f2cca530ab1281f8e3c1745a28a167e99f1a8610243", func := "corral/corrallaw14.HostPlays", spec := "hostPlays", unfollowed := true, recurses := true, apart := false }
def HostPlaysSaid : Prop := hostPlaysRow.holds Tryz.pinned (OpenSpec.ofChange hostPlaysSpec)

/-- ITS FALSE NEIGHBOUR: 'it returns false'. Refute it at one input. -/
def hostPlaysWrong : ChangeSpec := { name := "hostPlays", fn := fun _ => fun
  | [d1, d2, d3] => { results := [.lit (.bool false)], args := [d1, d2, d3] }
  | _ => none }
def HostPlaysWrongFalsely : Prop := hostPlaysRow.holds Tryz.pinned (OpenSpec.ofChange hostPlaysWrong)

/-- 'corrallaw14.HostAlone': WHATEVER THE INPUT: true; the input reads as it did. -/
def hostAloneSpec : ChangeSpec := { name := "hostAlone", fn := fun _ => fun
  | [d1, d2, d3] => { results := [.lit (.bool true)], args := [d1, d2, d3] }
  | _ => none }
def hostAloneRow : OpenClaim := { program := "ytjmbaiijmhkdpaagreat", sum := "f3b99c88645c732801481f2cca530ab1281f8e3c1745a28a167e99f1a8610243", func := "corral/corrallaw14.HostAlone", spec := "hostAlone", unfollowed := true, recurses := true, apart := false }
def HostAloneSaid : Prop := hostAloneRow.holds Tryz.pinned (OpenSpec.ofChange hostAloneSpec)

/-- ITS FALSE NEIGHBOUR: 'it returns false'. Refute it at one input. -/
def hostAloneWrong : ChangeSpec := { name := "hostAlone", fn := fun _ => fun
  | [d1, d2, d3] => { results := [.lit (.bool false)], args := [d1, d2, d3] }
  | _ => none }
def HostAloneWrongFalsely : Prop := hostAloneRow.holds Tryz.pinned (OpenSpec.ofChange hostAloneWrong)

/-- 'corrallaw14.HostKills': WHATEVER THE INPUT: true; the input reads as it did. -/
def hostKillsSpec : ChangeSpec := { name := "hostKills", fn := fun _ => fun
  | [d1, d2, d3] => { results := [.lit (.bool true)], args := [d1, d2, d3] }
  | _ => none }
def hostKillsRow : OpenClaim := { program := "ytjmbaiijmhkdpaagreat", sum := "f3b99c88645c732801481f2cca530ab1281f8e3c1745a28a167e99f1a8610243", func := "corral/corrallaw14.HostKills", spec := "hostKills", unfollowed := true, recurses := true, apart := false }
def HostKillsSaid : Prop := hostKillsRow.holds Tryz.pinned (OpenSpec.ofChange hostKillsSpec)

/-- ITS FALSE NEIGHBOUR: 'it returns false'. Refute it at one input. -/
def hostKillsWrong : ChangeSpec := { name := "hostKills", fn := fun _ => fun
  | [d1, d2, d3] => { results := [.lit (.bool false)], args := [d1, d2, d3] }
  | _ => none }
def HostKillsWrongFalsely : Prop := hostKillsRow.holds Tryz.pinned (OpenSpec.ofChange hostKillsWrong)

/-- 'corrallaw14.HostFull': WHATEVER THE INPUT: true; the input reads as it did. -/
def hostFullSpec : ChangeSpec := { name := "hostFull", fn := fun _ => fun
  | [d1, d2] => { results := [.lit (.bool true)], args := [d1, d2] }
  | _ => none }
def hostFullRow : OpenClaim := { program := "ytjmbaiijmhkdpaagreat", sum := "f3b99c88645c732801481f2cca530ab1281f8e3c1745a28a167e99f1a8610243", func := "corral/corrallaw14.HostFull", spec := "hostFull", unfollowed := true, recurses := true, apart := false }
def HostFullSaid : Prop := hostFullRow.holds Tryz.pinned (OpenSpec.ofChange hostFullSpec)

/-- ITS FALSE NEIGHBOUR: 'it returns false'. Refute it at one input. -/
def hostFullWrong : ChangeSpec := { name := "hostFull", fn := fun _ => fun
  | [d1, d2] => { results := [.lit (.bool false)], args := [d1, d2] }
  | _ => none }
def HostFullWrongFalsely : Prop := hostFullRow.holds Tryz.pinned (OpenSpec.ofChange hostFullWrong)

/-- 'corrallaw14.HostBytes': WHATEVER THE INPUT: true; the input reads as it did. -/
def hostBytesSpec : ChangeSpec := { name := "hostBytes", fn := fun _ => fun
  | [d1, d2] => { results := [.lit (.bool true)], args := [d1, d2] }
  | _ => none }
def hostBytesRow : OpenClaim := { program := "ytjmbaiijmhkdpaagreat", sum := "f3b99c88645c732801481f2cca530ab1281f8e3c1745a28a167e99f1a8610243", func := "corral/corrallaw14.HostBytes", spec := "hostBytes", unfollowed := true, recurses := true, apart := false }
def HostBytesSaid : Prop := hostBytesRow.holds Tryz.pinned (OpenSpec.ofChange hostBytesSpec)

/-- ITS FALSE NEIGHBOUR: 'it returns false'. Refute it at one input. -/
def hostBytesWrong : ChangeSpec := { name := "hostBytes", fn := fun _ => fun
  | [d1, d2] => { results := [.lit (.bool false)], args := [d1, d2] }
  | _ => none }
def HostBytesWrongFalsely : Prop := hostBytesRow.holds Tryz.pinned (OpenSpec.ofChange hostBytesWrong)

/-- 'corraltop.WholeSafe': WHATEVER THE INPUT: true; the input reads as it did. -/
def wholeSafeSpec : ChangeSpec := { name := "wholeSafe", fn := fun _ => fun
  | [d1, d2] => { results := [.lit (.bool true)], args := [d1, d2] }
  | _ => none }
def wholeSafeRow : OpenClaim := { program := "ytjmbaiijmhkdpaagreat", sum := "f3b99c88645c732801481f2cca530ab1281f8e3c1745a28a167e99f1a8610243", func := "corral/corraltop.WholeSafe", spec := "wholeSafe", unfollowed := true, recurses := true, apart := false }
def WholeSafeSaid : Prop := wholeSafeRow.holds Tryz.pinned (OpenSpec.ofChange wholeSafeSpec)

/-- ITS FALSE NEIGHBOUR: 'it returns false'. Refute it at one input. -/
def wholeSafeWrong : ChangeSpec := { name := "wholeSafe", fn := fun _ => fun
  | [d1, d2] => { results := [.lit (.bool false)], args := [d1, d2] }
  | _ => none }
def WholeSafeWrongFalsely : Prop := wholeSafeRow.holds Tryz.pinned (OpenSpec.ofChange wholeSafeWrong)

/-- 'corraltop.WholeData': WHATEVER THE INPUT: true; the input reads as it did. -/
def wholeDataSpec : ChangeSpec := { name := "wholeData", fn := fun _ => fun
  | [d1, d2, d3, d4, d5, d6, d7] => { results := [.lit (.bool true)], args := [d1, d2, d3, d4, d5, d6, d7] }
  | _ => none }
def wholeDataRow : OpenClaim := { program := "ytjmbaiijmhkdpaagreat", sum := "f3b99c88645c732801481f2cca530ab1281f8e3c1745a28a167e99f1a8610243", func := "corral/corraltop.WholeData", spec := "wholeData", unfollowed := true, recurses := true, apart := false }
def WholeDataSaid : Prop := wholeDataRow.holds Tryz.pinned (OpenSpec.ofChange wholeDataSpec)

/-- ITS FALSE NEIGHBOUR: 'it returns false'. Refute it at one input. -/
def wholeDataWrong : ChangeSpec := { name := "wholeData", fn := fun _ => fun
  | [d1, d2, d3, d4, d5, d6, d7] => { results := [.lit (.bool false)], args := [d1, d2, d3, d4, d5, d6, d7] }
  | _ => none }
def WholeDataWrongFalsely : Prop := wholeDataRow.holds Tryz.pinned (OpenSpec.ofChange wholeDataWrong)

/- THE SECOND FORM. 'bulk': how many values and letters a reading holds, each counted each time it is reached (what is shared counts as often as it is met; a slice's spare places count too). A statement '..UptoSaid' is the law's where the arguments, and the package variables that the reading takes, are together of bulk at most 1048576: NARROWER than '..Said'. Prove '..Said' where nothing that the law and all that it calls make is longer than what came in: it says more and counts as full. Else prove '..UptoSaid'. A law counts once. -/
mutual
def uptoBulk {H : Type} : DataW H → Nat
  | .lit (.string bytes) => bytes.length + 1
  | .lit _ => 1
  | .nil => 1
  | .ptr d => uptoBulk d + 1
  | .slice elems spare => uptoBulkAll elems + uptoBulkAll spare + 1
  | .agg parts => uptoBulkAll parts + 1
  | .iface _ d => uptoBulk d + 1
  | .map entries => uptoBulkEntries entries + 1
  | .held _ => 1
def uptoBulkAll {H : Type} : List (DataW H) → Nat
  | [] => 0
  | d :: r => uptoBulk d + uptoBulkAll r
def uptoBulkEntries {H : Type} : List (Lit × DataW H) → Nat
  | [] => 0
  | x :: r => uptoBulkEntry x + uptoBulkEntries r
def uptoBulkEntry {H : Type} : Lit × DataW H → Nat
  | (.string bytes, d) => bytes.length + uptoBulk d + 1
  | (_, d) => uptoBulk d + 1
 end
def uptoSmall : (H : Type) → List (DataW H) → Bool := fun _ ds => decide (uptoBulkAll ds ≤ 1048576)
def OpenSpec.upto (s : _root_.Go.ChangeSpec) : _root_.Go.OpenSpec := { _root_.Go.OpenSpec.ofChange s with cond := some uptoSmall }

/-- 'corrallaw14.HostPlays', WHERE WHAT IT READS IS OF BULK AT MOST 1048576: true; the input reads as it did. -/
def hostPlaysUptoRow : OpenClaim := { program := "ytjmbaiijmhkdpaagreat", sum := "f3b99c88645c732801481f2cca530ab1281f8e3c1745a28a167e99f1a8610243", func := "corral/corrallaw14.HostPlays", spec := "hostPlays", unfollowed := true, recurses := true, apart := false, narrowed := true }
def HostPlaysUptoSaid : Prop := hostPlaysUptoRow.holds Tryz.pinned (OpenSpec.upto hostPlaysSpec)

/-- 'corrallaw14.HostAlone', WHERE WHAT IT READS IS OF BULK AT MOST 1048576: true; the input reads as it did. -/
def hostAloneUptoRow : OpenClaim := { program := "ytjmbaiijmhkdpaagreat", sum := "f3b99c88645c732801481f2cca530ab1281f8e3c1745a28a167e99f1a8610243", func := "corral/corrallaw14.HostAlone", spec := "hostAlone", unfollowed := true, recurses := true, apart := false, narrowed := true }
def HostAloneUptoSaid : Prop := hostAloneUptoRow.holds Tryz.pinned (OpenSpec.upto hostAloneSpec)

/-- 'corrallaw14.HostKills', WHERE WHAT IT READS IS OF BULK AT MOST 1048576: true; the input reads as it did. -/
def hostKillsUptoRow : OpenClaim := { program := "ytjmbaiijmhkdpaagreat", sum := "f3b99c88645c732801481f2cca530ab1281f8e3c1745a28a167e99f1a8610243", func := "corral/corrallaw14.HostKills", spec := "hostKills", unfollowed := true, recurses := true, apart := false, narrowed := true }
def HostKillsUptoSaid : Prop := hostKillsUptoRow.holds Tryz.pinned (OpenSpec.upto hostKillsSpec)

/-- 'corrallaw14.HostFull', WHERE WHAT IT READS IS OF BULK AT MOST 1048576: true; the input reads as it did. -/
def hostFullUptoRow : OpenClaim := { program := "ytjmbaiijmhkdpaagreat", sum := "f3b99c88645c732801481f2cca530ab1281f8e3c1745a28a167e99f1a8610243", func := "corral/corrallaw14.HostFull", spec := "hostFull", unfollowed := true, recurses := true, apart := false, narrowed := true }
def HostFullUptoSaid : Prop := hostFullUptoRow.holds Tryz.pinned (OpenSpec.upto hostFullSpec)

/-- 'corrallaw14.HostBytes', WHERE WHAT IT READS IS OF BULK AT MOST 1048576: true; the input reads as it did. -/
def hostBytesUptoRow : OpenClaim := { program := "ytjmbaiijmhkdpaagreat", sum := "f3b99c88645c732801481f2cca530ab1281f8e3c1745a28a167e99f1a8610243", func := "corral/corrallaw14.HostBytes", spec := "hostBytes", unfollowed := true, recurses := true, apart := false, narrowed := true }
def HostBytesUptoSaid : Prop := hostBytesUptoRow.holds Tryz.pinned (OpenSpec.upto hostBytesSpec)

/-- 'corraltop.WholeSafe', WHERE WHAT IT READS IS OF BULK AT MOST 1048576: true; the input reads as it did. -/
def wholeSafeUptoRow : OpenClaim := { program := "ytjmbaiijmhkdpaagreat", sum := "f3b99c88645c732801481f2cca530ab1281f8e3c1745a28a167e99f1a8610243", func := "corral/corraltop.WholeSafe", spec := "wholeSafe", unfollowed := true, recurses := true, apart := false, narrowed := true }
def WholeSafeUptoSaid : Prop := wholeSafeUptoRow.holds Tryz.pinned (OpenSpec.upto wholeSafeSpec)

/-- 'corraltop.WholeData', WHERE WHAT IT READS IS OF BULK AT MOST 1048576: true; the input reads as it did. -/
def wholeDataUptoRow : OpenClaim := { program := "ytjmbaiijmhkdpaagreat", sum := "f3b99c88645c732801481f2cca530ab1281f8e3c1745a28a167e99f1a8610243", func := "corral/corraltop.WholeData", spec := "wholeData", unfollowed := true, recurses := true, apart := false, narrowed := true }
def WholeDataUptoSaid : Prop := wholeDataUptoRow.holds Tryz.pinned (OpenSpec.upto wholeDataSpec)

end Rows
end Go.Proofs.YtjmbaiijmhkdpaaGreat
