/- A map of places, each true: made, asked, written, counted. -/
import Derived.Test.YtojpcijfipdiaaaIsaForms
import Derived.Test.YtojpcijfipdiaaaMemBase
namespace Go.Proofs.Ytojpcijfipdiaaa.Mm
open Go.ChangeShapes Go.WideShapes Go.ChangeAt Go.RowKit
set_option linter.unusedVariables false

/-- block b is a map that holds just these places, each true -/
def SetAt (w : World) (b : Nat) (K : List Nat) : Prop := ∃ es c, w.heap[b]? = some (.map es c) ∧ es.toList.map (fun e => (e.key, e.val)) = K.map fun k : Nat => (Value.int .i64 (k : Int), Value.bool true)
theorem SetAt.made (w : World) : SetAt (w.alloc (.map #[] 0)) w.heap.size [] := ⟨#[], 0, heap_alloc_new w _, rfl⟩
theorem SetAt.lt {w : World} {b : Nat} {K : List Nat} (h : SetAt w b K) : b < w.heap.size := by
  obtain ⟨es, c, hb, _⟩ := h
  exact (Array.getElem?_eq_some_iff.1 hb).1
theorem SetAt.below {w w' : World} {b : Nat} {K : List Nat} (h : SetAt w b K) (hb : Below w.heap.size w w') : SetAt w' b K := by
  have hl := h.lt
  obtain ⟨es, c, h1, h2⟩ := h
  exact ⟨es, c, (hb.block b hl).trans h1, h2⟩
theorem SetAt.grown {w w' : World} {b : Nat} {K : List Nat} (h : SetAt w b K) {row : Option Nat} (hg : w.grownBy w' row) (hne : some b ≠ row) : SetAt w' b K := by
  have hl := h.lt
  obtain ⟨es, c, h1, h2⟩ := h
  exact ⟨es, c, (hg.block b hl hne).trans h1, h2⟩

theorem set_find : ∀ (es : List MapEntry) (K : List Nat) (i : Nat) (q : Int), es.map (fun e => (e.key, e.val)) = K.map (fun k : Nat => (Value.int .i64 (k : Int), Value.bool true)) →
    (((∃ k ∈ K, (k : Int) = q) ∧ ∃ j, Instr.findNow (.int .i64) (.int .i64 q) es i = some (some (j, .bool true))) ∨ ((¬ ∃ k ∈ K, (k : Int) = q) ∧ Instr.findNow (.int .i64) (.int .i64 q) es i = some none)) := by
  intro es
  induction es with
  | nil =>
    intro K i q h
    cases K with
    | nil => exact .inr ⟨by simp, rfl⟩
    | cons k t => simp at h
  | cons e es ih =>
    intro K i q h
    cases K with
    | nil => simp at h
    | cons k t =>
      simp only [List.map_cons, List.cons.injEq, Prod.mk.injEq] at h
      obtain ⟨⟨hk, hv⟩, ht⟩ := h
      have hs : Instr.sameNow (.int .i64) (.int .i64 q) e.key = some (q == (k : Int)) := by rw [hk]; rfl
      by_cases hq : q = (k : Int)
      · left
        refine ⟨⟨k, by simp, hq.symm⟩, i, ?_⟩
        unfold Instr.findNow
        rw [hs, show (q == (k : Int)) = true from beq_iff_eq.2 hq, hv]
      · have hf : Instr.findNow (.int .i64) (.int .i64 q) (e :: es) i = Instr.findNow (.int .i64) (.int .i64 q) es (i + 1) := by
          conv => lhs; unfold Instr.findNow
          rw [hs, show (q == (k : Int)) = false from beq_eq_false_iff_ne.2 hq]
        rw [hf]
        have hm : (∃ k' ∈ k :: t, (k' : Int) = q) ↔ ∃ k' ∈ t, (k' : Int) = q := by
          constructor
          · rintro ⟨k', hk', he⟩
            rcases List.mem_cons.1 hk' with rfl | hk'
            · exact absurd he.symm hq
            · exact ⟨k', hk', he⟩
          · rintro ⟨k', hk', he⟩; exact ⟨k', by simp [hk'], he⟩
        rw [hm]
        exact ih t (i + 1) q ht
theorem set_mem (K : List Nat) (q : Nat) : (∃ k ∈ K, (k : Int) = (q : Int)) ↔ q ∈ K := by
  constructor
  · rintro ⟨k, hk, he⟩; rwa [show q = k by omega]
  · intro h; exact ⟨q, h, rfl⟩

section
variable {P : Program} {mt kt et : TypeId}
/-- asked -/
theorem SetAt.look {w : World} {b : Nat} {K : List Nat} (h : SetAt w b K) (hm : P.underlying mt = some (.map kt et)) (hk : P.underlying kt = some (.int .i64)) (hz : (zeroValue et).run P w = .ok (.bool false) w) (q : Nat) :
    (Instr.lookup mt (.map (some b)) (.int .i64 q) false).run P w = .ok (.bool (decide (q ∈ K))) w := by
  obtain ⟨es, c, h1, h2⟩ := h
  have hkey : MapKept.IsKey (.int .i64) (.int .i64 (q : Int)) := rfl
  rcases set_find es.toList K 0 q h2 with ⟨hq, j, hf⟩ | ⟨hq, hf⟩
  · rw [set_mem] at hq
    simp [Instr.lookup, run_underlying hm, MapKept.run_getObj_map h1, MapKept.run_checkKey hk hkey, MapKept.run_findKey hk hf, Result.andThen, hq]
  · rw [set_mem] at hq
    simp [Instr.lookup, run_underlying hm, MapKept.run_getObj_map h1, MapKept.run_checkKey hk hkey, MapKept.run_findKey hk hf, Result.andThen, hq, hz]
/-- asked, and whether it is there -/
theorem SetAt.look_ok {w : World} {b : Nat} {K : List Nat} (h : SetAt w b K) (hm : P.underlying mt = some (.map kt et)) (hk : P.underlying kt = some (.int .i64)) (hz : (zeroValue et).run P w = .ok (.bool false) w) (q : Nat) :
    (Instr.lookup mt (.map (some b)) (.int .i64 q) true).run P w = .ok (.tuple #[.bool (decide (q ∈ K)), .bool (decide (q ∈ K))]) w := by
  obtain ⟨es, c, h1, h2⟩ := h
  have hkey : MapKept.IsKey (.int .i64) (.int .i64 (q : Int)) := rfl
  rcases set_find es.toList K 0 q h2 with ⟨hq, j, hf⟩ | ⟨hq, hf⟩
  · rw [set_mem] at hq
    simp [Instr.lookup, run_underlying hm, MapKept.run_getObj_map h1, MapKept.run_checkKey hk hkey, MapKept.run_findKey hk hf, Result.andThen, hq]
  · rw [set_mem] at hq
    simp [Instr.lookup, run_underlying hm, MapKept.run_getObj_map h1, MapKept.run_checkKey hk hkey, MapKept.run_findKey hk hf, Result.andThen, hq, hz]
/-- a place more -/
theorem SetAt.put {w : World} {b : Nat} {K : List Nat} (h : SetAt w b K) (hm : P.underlying mt = some (.map kt et)) (hk : P.underlying kt = some (.int .i64)) (q : Nat) (hq : q ∉ K) :
    ∃ w', (Instr.mapUpdate mt (.map (some b)) (.int .i64 q) (.bool true)).run P w = .ok () w' ∧ SetAt w' b (K ++ [q]) ∧ w.grownBy w' (some b) := by
  have hl := h.lt
  obtain ⟨es, c, h1, h2⟩ := h
  have hkey : MapKept.IsKey (.int .i64) (.int .i64 (q : Int)) := rfl
  rcases set_find es.toList K 0 q h2 with ⟨hq', j, hf⟩ | ⟨_, hf⟩
  · rw [set_mem] at hq'; exact absurd hq' hq
  · refine ⟨{ w with heap := w.heap.setIfInBounds b (.map (es.push { key := .int .i64 q, val := .bool true, born := c }) (c + 1)) }, ?_, ⟨es.push { key := .int .i64 q, val := .bool true, born := c }, c + 1, ?_, ?_⟩, ?_⟩
    · simp [Instr.mapUpdate, run_underlying hm, MapKept.run_getObj_map h1, MapKept.run_checkKey hk hkey, MapKept.run_findKey hk hf, MapKept.run_setObj_map _ h1, Result.andThen]
    · exact (MapKept.heap_set h1).1
    · simp only [Array.toList_push, List.map_append, h2, List.map_cons, List.map_nil]
    · exact ⟨rfl, rfl, rfl, by simp, fun k _ hne => (MapKept.heap_set h1).2 k (fun e => hne (by rw [e]))⟩
/-- how many -/
theorem SetAt.len {w : World} {b : Nat} {K : List Nat} (h : SetAt w b K) (hm : P.underlying mt = some (.map kt et)) (ty : TypeId) : (Builtin.len_ #[mt] ty #[.map (some b)]).run P w = .ok (.int .i64 K.length) w := by
  obtain ⟨es, c, h1, h2⟩ := h
  have e : es.size = K.length := by
    have := congrArg List.length h2
    simpa using this
  simp [Builtin.len_, run_underlying hm, MapKept.run_getObj_map h1, goInt, Result.andThen, e]
end
end Go.Proofs.Ytojpcijfipdiaaa.Mm
