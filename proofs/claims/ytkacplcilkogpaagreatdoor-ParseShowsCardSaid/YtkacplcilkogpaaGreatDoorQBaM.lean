/- Merged by wip/tools/regroup: MemMath, MemBase, FnvMath, FnvWalks, FnvFour, FnvApp. -/
import Derived.RowKit
import Derived.Laws.BitsAllLaws
import Derived.Laws.CopyOwn
import Derived.Test.YtkacplcilkogpaaGreatDoorRows
import Derived.WalkKit
import Derived.ProofKit
import Derived.OpenShut
import Derived.ShutString
import Derived.ChangeOld
import Derived.Below
import Derived.Carry
import Derived.ChangeMaps4
import Derived.Lib.Hide
import Derived.Lib.SliceRun
import Derived.OwnWalk
import Derived.Maps.AppendAt
import Derived.Laws.OwnMore
import Derived.Laws.MakeOwn
import Derived.Laws.BytesArg
import Derived.RegionTactic
import Derived.ChangeAlike
import Derived.BigRegion
import Derived.StillTailTactics
import Derived.Deep.QuietTactic
import Derived.BigQuiet
import Derived.Deep.RegionHeld3
import Derived.IntWalk
import Derived.Lib.SlBytesConst
namespace Go.Proofs.YtkacplcilkogpaaGreatDoor.Mm
open Go.RowKit
set_option linter.unusedVariables false
set_option maxRecDepth 10000

def Bytes (l : List Int) : Prop := ∀ x ∈ l, 0 ≤ x ∧ x ≤ 255
/-- the number of four bytes from a on -/
def v4 (B : List Int) (a : Nat) : Int := B.getD a 0 + 256 * (B.getD (a + 1) 0 + 256 * (B.getD (a + 2) 0 + 256 * B.getD (a + 3) 0))
def b4 (v : Int) : List Int := [v % 256, v / 256 % 256, v / 65536 % 256, v / 16777216]
section
variable {α : Type}
end
end Go.Proofs.YtkacplcilkogpaaGreatDoor.Mm

namespace Go.Proofs.YtkacplcilkogpaaGreatDoor.Mm
open Go.ChangeShapes Go.WideShapes Go.ChangeAt Go.RowKit
set_option linter.unusedVariables false
set_option maxRecDepth 10000

theorem ret_int {k : IntKind} {a b : Int} (h : a = b) : Ending.returned (.int k a) = .returned (.int k b) := by rw [h]
theorem ret_bool {a b : Bool} (h : a = b) : Ending.returned (.bool a) = .returned (.bool b) := by rw [h]
theorem bel_al {w w' : World} (h : Below w.heap.size w w') (o : Obj) : Below w.heap.size w (w'.alloc o) := h.alloc h.size o
theorem bel_then {w a b : World} (h : Below w.heap.size w a) (k : Below a.heap.size a b) : Below w.heap.size w b := h.trans (k.mono h.size)
theorem below_drewN {B : Nat} {w w' : World} (h : Below B w w') (n : Nat) : Below B w (w'.drewN n) := ⟨h.os, h.tape, h.output, h.size, h.block⟩

/-- block g holds just these cells -/
def HasB (w : World) (g : Nat) (t : TypeId) (cs : List Value) : Prop := w.heap[g]? = some (.cells cs.toArray t (0, 0))
theorem HasB.lt {w : World} {g : Nat} {t : TypeId} {cs : List Value} (h : HasB w g t cs) : g < w.heap.size := (Array.getElem?_eq_some_iff.1 h).1
theorem HasB.cell {w : World} {g : Nat} {t : TypeId} {cs : List Value} (h : HasB w g t cs) (i : Nat) : w.cell? ⟨g, i, none⟩ = cs[i]? := by
  unfold HasB at h
  simp [World.cell?, h]
theorem HasB.frozen {w : World} {g : Nat} {t : TypeId} {cs : List Value} (h : HasB w g t cs) (i : Nat) : w.frozen? ⟨g, i, none⟩ = false := by
  unfold HasB at h
  simp [World.frozen?, h]
theorem HasB.new (w : World) (t : TypeId) (cs : List Value) : HasB (w.alloc (.cells cs.toArray t)) w.heap.size t cs := by
  show (w.heap.push _)[w.heap.size]? = _
  rw [Array.getElem?_push, if_pos rfl]
theorem HasB.same {w w' : World} {g : Nat} {t : TypeId} {cs : List Value} (h : HasB w g t cs) (e : w'.heap[g]? = w.heap[g]?) : HasB w' g t cs := e.trans h
theorem HasB.below {w w' : World} {g : Nat} {t : TypeId} {cs : List Value} (h : HasB w g t cs) (hb : Below w.heap.size w w') : HasB w' g t cs := h.same (hb.block _ h.lt)
theorem HasB.ne {w : World} {g g' : Nat} {t t' : TypeId} {cs cs' : List Value} (h : HasB w g t cs) (h' : HasB w g' t' cs') (hne : t ≠ t') : g ≠ g' := by
  rintro rfl
  unfold HasB at h h'
  rw [h] at h'
  injection h' with h'
  injection h' with _ ht
  exact hne ht

section
variable {w w' : World} {p g h : Nat} {B : List Int} {T : List Bool}
end

/-- a slice of bytes that reads as a list -/
def RowAt (w : World) (A : Option Addr) (cap : Nat) (l : List Int) : Prop :=
  l.length ≤ cap ∧ cap ≤ maxLen ∧ Bytes l ∧ (l ≠ [] → ∃ x, A = some x ∧ x.block < w.heap.size ∧ ∀ i, i < l.length → w.cell? (x.add i) = some (.int .u8 (l.getD i 0)))
theorem block_add (a : Addr) (n : Nat) : (a.add n).block = a.block := by unfold Addr.add; split <;> rfl
theorem block_of_cell {w : World} {a : Addr} {v : Value} (h : w.cell? a = some v) : a.block < w.heap.size := by
  rcases Nat.lt_or_ge a.block w.heap.size with h' | h'
  · exact h'
  · unfold World.cell? at h
    rw [Array.getElem?_eq_none h'] at h
    simp at h
theorem row_of {H : Type} {enc : TypeId × Value → H} {P : Program} {w : World} {base : Nat} {spare : Nat → Bool} {held : Bool} {t e : TypeId} {a : Option Addr} {len cap : Nat} {d : DataW H} {ps : List MemPlace}
    (ht : P.underlying t = some (.slice e)) (he : P.underlying e = some (.int .u8)) (hc : P.cellsOf e = 1) (h : DataW.Trod enc P w base spare held t (.slice a len cap) d ps) :
    ∃ l : List Int, len = l.length ∧ RowAt w a cap l := by
  obtain ⟨fuel, hf⟩ := h
  rcases open_ints ht he hc hf with ⟨hcs, _⟩ | ⟨x, l, c, zs, hcs, _, hl, hm, hz, _, hcell, hwz⟩
  · simp [Value.cells] at hcs
    obtain ⟨rfl, rfl, rfl⟩ := hcs
    exact ⟨[], rfl, Nat.le_refl _, Nat.zero_le _, fun x hx => by simp at hx, fun h => absurd rfl h⟩
  · simp [Value.cells] at hcs
    obtain ⟨rfl, rfl, rfl⟩ := hcs
    have hlz : len ≤ zs.length := by rw [hz]; split <;> omega
    have hln : (zs.take len).length = len := by rw [List.length_take]; omega
    refine ⟨zs.take len, hln.symm, by omega, hm, fun n hn => bounds_u8 (hwz n (List.mem_of_mem_take hn)), fun hne => ⟨x, rfl, ?_, fun i hi => ?_⟩⟩
    · have h0 : 0 < (zs.take len).length := List.length_pos_iff.2 hne
      have := block_of_cell (hcell 0 (by omega))
      rwa [block_add] at this
    · rw [hln] at hi
      rw [hcell i (by omega)]
      simp [List.getD, hi]
end Go.Proofs.YtkacplcilkogpaaGreatDoor.Mm

namespace Go.Proofs.YtkacplcilkogpaaGreatDoor.Mm
open Go.RowKit
set_option linter.unusedVariables false
set_option maxRecDepth 10000

end Go.Proofs.YtkacplcilkogpaaGreatDoor.Mm

namespace Go.Proofs.YtkacplcilkogpaaGreatDoor.Mm
open Go.ChangeShapes Go.WideShapes Go.ChangeAt Go.RowKit
set_option linter.unusedVariables false
set_option maxRecDepth 10000

end Go.Proofs.YtkacplcilkogpaaGreatDoor.Mm

namespace Go.Proofs.YtkacplcilkogpaaGreatDoor.Mm
open Go.ChangeShapes Go.WideShapes Go.ChangeAt Go.RowKit
set_option linter.unusedVariables false
set_option maxRecDepth 10000

end Go.Proofs.YtkacplcilkogpaaGreatDoor.Mm

namespace Go.Proofs.YtkacplcilkogpaaGreatDoor.Mm
open Go.ChangeShapes Go.WideShapes Go.ChangeAt Go.RowKit
set_option linter.unusedVariables false
set_option maxRecDepth 10000

theorem u8_info : (Tryz.prog.info? 5).map (fun i => (i.zero, i.size, i.bytes)) = some (some (.int .u8 0), 1, 1) := by kernel_rfl
end Go.Proofs.YtkacplcilkogpaaGreatDoor.Mm
