/- Rows that a statement is given. -/
import Derived.Test.YtbgnkljeodandaaGreatKGaA
namespace Go.Proofs.YtbgnkljeodandaaGreat.Mm
open Go.ChangeShapes Go.WideShapes Go.ChangeAt Go.RowKit
set_option linter.unusedVariables false

theorem block_of_cell {w : World} {a : Addr} {v : Value} (h : w.cell? a = some v) : a.block < w.heap.size := by
  rcases Nat.lt_or_ge a.block w.heap.size with h' | h'
  · exact h'
  · unfold World.cell? at h
    rw [Array.getElem?_eq_none h'] at h
    simp at h
theorem row_of {H : Type} {enc : TypeId × Value → H} {P : Program} {w : World} {base : Nat} {spare : Nat → Bool} {held : Bool} {t e : TypeId} {a : Option Addr} {len cap : Nat} {d : DataW H} {ps : List MemPlace}
    (ht : P.underlying t = some (.slice e)) (he : P.underlying e = some (.int .u8)) (hc : P.cellsOf e = 1) (h : DataW.Trod enc P w base spare held t (.slice a len cap) d ps) :
    ∃ l : List Int, len = l.length ∧ RowAt w a cap l := by
  obtain ⟨fuel, hf⟩ := h
  rcases open_ints ht he hc hf with ⟨hcs, _⟩ | ⟨x, l, c, zs, hcs, _, hl, hm, hz, _, hcell, hwz⟩
  · simp [Value.cells] at hcs
    obtain ⟨rfl, rfl, rfl⟩ := hcs
    exact ⟨[], rfl, Nat.le_refl _, Nat.zero_le _, fun x hx => by simp at hx, fun h => absurd rfl h⟩
  · simp [Value.cells] at hcs
    obtain ⟨rfl, rfl, rfl⟩ := hcs
    have hlz : len ≤ zs.length := by rw [hz]; split <;> omega
    have hln : (zs.take len).length = len := by rw [List.length_take]; omega
    refine ⟨zs.take len, hln.symm, by omega, hm, fun n hn => bounds_u8 (hwz n (List.mem_of_mem_take hn)), fun hne => ⟨x, rfl, ?_, fun i hi => ?_⟩⟩
    · have h0 : 0 < (zs.take len).length := List.length_pos_iff.2 hne
      have := block_of_cell (hcell 0 (by omega))
      rwa [block_add] at this
    · rw [hln] at hi
      rw [hcell i (by omega)]
      simp [List.getD, hi]
theorem krow_of {H : Type} {enc : TypeId × Value → H} {P : Program} {k : IntKind} {w : World} {base : Nat} {spare : Nat → Bool} {held : Bool} {t e : TypeId} {a : Option Addr} {len cap : Nat} {d : DataW H} {ps : List MemPlace}
    (ht : P.underlying t = some (.slice e)) (he : P.underlying e = some (.int k)) (hc : P.cellsOf e = 1) (h : DataW.Trod enc P w base spare held t (.slice a len cap) d ps) :
    ∃ l : List Int, len = l.length ∧ KRow k w a cap l := by
  obtain ⟨fuel, hf⟩ := h
  rcases open_ints ht he hc hf with ⟨hcs, _⟩ | ⟨x, l, c, zs, hcs, _, hl, hm, hz, _, hcell, hwz⟩
  · simp [Value.cells] at hcs
    obtain ⟨rfl, rfl, rfl⟩ := hcs
    exact ⟨[], rfl, kRow_nil k w⟩
  · simp [Value.cells] at hcs
    obtain ⟨rfl, rfl, rfl⟩ := hcs
    have hlz : len ≤ zs.length := by rw [hz]; split <;> omega
    have hln : (zs.take len).length = len := by rw [List.length_take]; omega
    refine ⟨zs.take len, hln.symm, by omega, hm, fun n hn => hwz n (List.mem_of_mem_take hn), fun hne => ⟨x, rfl, ?_, fun i hi => ?_⟩⟩
    · have h0 : 0 < (zs.take len).length := List.length_pos_iff.2 hne
      have := block_of_cell (hcell 0 (by omega))
      rwa [block_add] at this
    · rw [hln] at hi
      rw [hcell i (by omega)]
      simp [List.getD, hi]
theorem u32row_of {H : Type} {enc : TypeId × Value → H} {w : World} {base : Nat} {spare : Nat → Bool} {held : Bool} {a : Option Addr} {len cap : Nat} {d : DataW H} {ps : List MemPlace}
    (h : DataW.Trod enc Tryz.prog w base spare held 23 (.slice a len cap) d ps) : ∃ l : List Int, len = l.length ∧ KRow .u32 w a cap l :=
  krow_of Tryz.underlying23 Tryz.underlying32 (by kernel_rfl) h
theorem introw_of {H : Type} {enc : TypeId × Value → H} {w : World} {base : Nat} {spare : Nat → Bool} {held : Bool} {a : Option Addr} {len cap : Nat} {d : DataW H} {ps : List MemPlace}
    (h : DataW.Trod enc Tryz.prog w base spare held 24 (.slice a len cap) d ps) : ∃ l : List Int, len = l.length ∧ KRow .i64 w a cap l :=
  krow_of Tryz.underlying24 Tryz.underlying3 (by kernel_rfl) h

end Go.Proofs.YtbgnkljeodandaaGreat.Mm
