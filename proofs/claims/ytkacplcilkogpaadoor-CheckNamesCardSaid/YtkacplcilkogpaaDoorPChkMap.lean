/- A map from texts to numbers: made, written, asked, counted; as the list of its entries. -/
import Derived.Test.YtkacplcilkogpaaDoorPLxB
import Derived.Test.YtkacplcilkogpaaDoorPPaB
import Derived.Maps.Range
namespace Go.Proofs.YtkacplcilkogpaaDoor.Mm
open Go.ChangeShapes Go.WideShapes Go.ChangeAt Go.RowKit Go.ChangeMaps
set_option linter.unusedVariables false
set_option linter.unusedSimpArgs false

def strV (l : Bs) : Value := .string (strB l)
theorem strB_inj {a b : Bs} (h : strB a = strB b) : a = b := by
  have := congrArg (fun x : ByteArray => x.data.toList) h
  simpa [strB] using this
theorem strV_inj {a b : Bs} (h : strV a = strV b) : a = b := by unfold strV at h; injection h with h; exact strB_inj h
def putA : List (Bs × Int) → Bs → Int → List (Bs × Int)
  | [], n, v => [(n, v)]
  | p :: r, n, v => if p.1 = n then (n, v) :: r else p :: putA r n v
def getA : List (Bs × Int) → Bs → Int
  | [], _ => 0
  | p :: r, n => if p.1 = n then p.2 else getA r n
def entP (p : Bs × Int) : Value × Value := (strV p.1, .int .i64 p.2)
def SMap (w : World) (b : Nat) (L : List (Bs × Int)) : Prop := ∃ es c, w.heap[b]? = some (.map es c) ∧ MapKept.Stamped es c ∧ es.toList.map (fun e => (e.key, e.val)) = L.map entP
theorem SMap.made (w : World) : SMap (w.alloc (.map #[] 0)) w.heap.size [] :=
  ⟨#[], 0, (MapKept.heap_alloc w _).1, MapKept.stamped_empty 0, rfl⟩
theorem SMap.lt {w : World} {b : Nat} {L : List (Bs × Int)} (h : SMap w b L) : b < w.heap.size := by
  obtain ⟨es, c, hb, _⟩ := h
  exact (Array.getElem?_eq_some_iff.1 hb).1
theorem SMap.keep {w w' : World} {b : Nat} {L : List (Bs × Int)} (h : SMap w b L) (hb : w'.heap[b]? = w.heap[b]?) : SMap w' b L := by
  obtain ⟨es, c, h1, h2⟩ := h
  exact ⟨es, c, hb.trans h1, h2⟩
theorem SMap.below {w w' : World} {b : Nat} {L : List (Bs × Int)} (h : SMap w b L) (hb : Below w.heap.size w w') : SMap w' b L := h.keep (hb.block b h.lt)
theorem SMap.drew {w : World} {b : Nat} {L : List (Bs × Int)} (h : SMap w b L) : SMap w.drew b L := h.keep rfl
theorem SMap.len {w : World} {b : Nat} {L : List (Bs × Int)} (h : SMap w b L) (P : Program) (mt kt et ty : TypeId) (hm : P.underlying mt = some (.map kt et)) : (Builtin.len_ #[mt] ty #[.map (some b)]).run P w = .ok (.int .i64 (L.length : Nat)) w := by
  obtain ⟨es, c, h1, _, h3⟩ := h
  have : es.size = L.length := by simpa using congrArg List.length h3
  simp [Builtin.len_, run_underlying hm, MapKept.run_getObj_map h1, goInt, Result.andThen, this]
theorem sent_find : ∀ (es : List MapEntry) (L : List (Bs × Int)) (i : Nat) (q : Bs), es.map (fun e => (e.key, e.val)) = L.map entP →
    (∃ j e, es[j]? = some e ∧ e.key = strV q ∧ e.val = .int .i64 (getA L q) ∧ Instr.findNow .string (strV q) es i = some (some (i + j, e.val)) ∧ (∀ v, putA L q v = L.set j (q, v))) ∨ ((∀ e ∈ es, e.key ≠ strV q) ∧ getA L q = 0 ∧ Instr.findNow .string (strV q) es i = some none ∧ (∀ v, putA L q v = L ++ [(q, v)])) := by
  intro es
  induction es with
  | nil =>
    intro L i q h
    cases L with
    | nil => exact .inr ⟨fun e he => (by cases he), rfl, rfl, fun v => rfl⟩
    | cons _ _ => cases h
  | cons e es ih =>
    intro L i q h
    cases L with
    | nil => cases h
    | cons p L =>
      simp only [List.map_cons, List.cons.injEq] at h
      obtain ⟨h0, h⟩ := h
      have hk : e.key = strV p.1 := congrArg Prod.fst h0
      have hv : e.val = .int .i64 p.2 := congrArg Prod.snd h0
      obtain ⟨r, hr, hiff⟩ := MapKept.sameNow_of_keys (d := .string) (a := strV q) (b := e.key) trivial (by rw [hk]; trivial)
      by_cases hq : p.1 = q
      · left
        have hr1 : r = true := hiff.2 (by rw [hk, hq])
        subst hr1
        refine ⟨0, e, rfl, by rw [hk, hq], by rw [hv]; unfold getA; rw [if_pos hq], ?_, fun v => by unfold putA; rw [if_pos hq]; rfl⟩
        unfold Instr.findNow
        rw [hr]
        simp
      · have hr0 : r = false := by
          cases r with
          | false => rfl
          | true =>
            have := hiff.1 rfl
            rw [hk] at this
            exact absurd (strV_inj this).symm hq
        subst hr0
        have hf : Instr.findNow .string (strV q) (e :: es) i = Instr.findNow .string (strV q) es (i + 1) := by
          conv => lhs; unfold Instr.findNow
          rw [hr]
        rw [hf]
        rcases ih L (i + 1) q h with ⟨j, x, h1, h2, h3, h4, h5⟩ | ⟨h1, h2, h3, h4⟩
        · exact .inl ⟨j + 1, x, by simpa using h1, h2, (by rw [h3]; show Value.int .i64 (getA L q) = .int .i64 (if p.1 = q then p.2 else getA L q); rw [if_neg hq]), by rw [h4, show i + 1 + j = i + (j + 1) by omega], fun v => by unfold putA; rw [if_neg hq, h5]; rfl⟩
        · refine .inr ⟨fun x hx => ?_, by unfold getA; rw [if_neg hq]; exact h2, h3, fun v => by unfold putA; rw [if_neg hq, h4]; rfl⟩
          rcases List.mem_cons.1 hx with rfl | hx
          · rw [hk]; intro he; exact hq (strV_inj he)
          · exact h1 x hx
section
variable {P : Program} {mt kt et : TypeId}
theorem SMap.look {w : World} {b : Nat} {L : List (Bs × Int)} (h : SMap w b L) (hm : P.underlying mt = some (.map kt et)) (hk : P.underlying kt = some .string) (hz : (zeroValue et).run P w = .ok (.int .i64 0) w) (q : Bs) :
    (Instr.lookup mt (.map (some b)) (.string (strB q)) false).run P w = .ok (.int .i64 (getA L q)) w := by
  obtain ⟨es, c, h1, h2, h3⟩ := h
  have hkey : MapKept.IsKey .string (.string (strB q)) := trivial
  rcases sent_find es.toList L 0 q h3 with ⟨j, e, f1, f2, f3, hf, _⟩ | ⟨f1, f2, hf, _⟩
  · rw [strV] at hf
    simp [Instr.lookup, run_underlying hm, MapKept.run_getObj_map h1, MapKept.run_checkKey hk hkey, MapKept.run_findKey hk hf, Result.andThen, f3]
  · rw [strV] at hf
    simp [Instr.lookup, run_underlying hm, MapKept.run_getObj_map h1, MapKept.run_checkKey hk hkey, MapKept.run_findKey hk hf, Result.andThen, hz, f2]
theorem SMap.put {w : World} {b : Nat} {L : List (Bs × Int)} (h : SMap w b L) (hm : P.underlying mt = some (.map kt et)) (hk : P.underlying kt = some .string) (q : Bs) (v : Int) :
    ∃ w', (Instr.mapUpdate mt (.map (some b)) (.string (strB q)) (.int .i64 v)).run P w = .ok () w' ∧ SMap w' b (putA L q v) ∧ w.grownBy w' (some b) ∧ w'.heap.size = w.heap.size := by
  obtain ⟨es, c, h1, h2, h3⟩ := h
  have hkey : MapKept.IsKey .string (.string (strB q)) := trivial
  obtain ⟨s1, s2, s3⟩ := (MapKept.stamped_iff es c).1 h2
  rcases sent_find es.toList L 0 q h3 with ⟨j, e, f1, f2, f3, hf, fp⟩ | ⟨f1, f2, hf, fp⟩
  · have hjl : j < es.toList.length := (List.getElem?_eq_some_iff.1 f1).1
    have hjs : j < es.size := by simpa using hjl
    have f1' : es[j]? = some e := by simpa using f1
    rw [strV] at hf f2
    have hmod : (es.modify j fun x => { x with key := Value.string (strB q), val := .int .i64 v }).toList = es.toList.set j { e with key := Value.string (strB q), val := .int .i64 v } := by
      apply List.ext_getElem?
      intro i
      by_cases hi : i = j
      · subst hi
        rw [List.getElem?_set_self hjl]
        simp [Array.getElem?_toList, f1']
      · rw [List.getElem?_set_ne (Ne.symm hi)]
        simp [Array.getElem?_toList, Ne.symm hi]
    refine ⟨{ w with heap := w.heap.setIfInBounds b (.map (es.modify j fun x => { x with key := Value.string (strB q), val := .int .i64 v }) c) }, ?_, ⟨_, c, (MapKept.heap_set h1).1, ?_, ?_⟩, ?_, by simp⟩
    · have hf' : Instr.findNow .string (.string (strB q)) es.toList 0 = some (some (j, e.val)) := by simpa using hf
      have hst : (Instr.keyThatStays (Value.string (strB q)) (Value.string (strB q))).run P w = .ok (Value.string (strB q)) w := MapKept.run_keyThatStays hkey
      simp [Instr.mapUpdate, run_underlying hm, MapKept.run_getObj_map h1, MapKept.run_checkKey hk hkey, MapKept.run_findKey hk hf', Result.andThen, f1', f2, hst, MapKept.run_setObj_map _ h1]
    · refine MapKept.stamped_modify h2 j _ (fun _ _ => rfl) (fun x hx hj => ?_)
      rw [f1'] at hj
      injection hj with hj
      rw [← hj, f2]
    · rw [hmod, List.map_set, h3, fp v, List.map_set]
      rfl
    · exact ⟨rfl, rfl, rfl, by simp, fun i _ hne => (MapKept.heap_set h1).2 i (fun e => hne (by rw [e]))⟩
  · rw [strV] at hf
    refine ⟨{ w with heap := w.heap.setIfInBounds b (.map (es.push { key := .string (strB q), val := .int .i64 v, born := c }) (c + 1)) }, ?_, ⟨_, c + 1, (MapKept.heap_set h1).1, MapKept.stamped_push h2 f1, ?_⟩, ?_, by simp⟩
    · simp [Instr.mapUpdate, run_underlying hm, MapKept.run_getObj_map h1, MapKept.run_checkKey hk hkey, MapKept.run_findKey hk hf, MapKept.run_setObj_map _ h1, Result.andThen]
    · rw [Array.toList_push, List.map_append, h3, fp v, List.map_append]
      rfl
    · exact ⟨rfl, rfl, rfl, by simp, fun i _ hne => (MapKept.heap_set h1).2 i (fun e => hne (by rw [e]))⟩
end
end Go.Proofs.YtkacplcilkogpaaDoor.Mm
