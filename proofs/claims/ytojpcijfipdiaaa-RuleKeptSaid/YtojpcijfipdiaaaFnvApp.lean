/- Bytes put behind a row of the call's own. -/
import Derived.Test.YtojpcijfipdiaaaFnvFour
namespace Go.Proofs.Ytojpcijfipdiaaa.Mm
open Go.ChangeShapes Go.WideShapes Go.ChangeAt Go.RowKit
set_option linter.unusedVariables false

theorem u8_info : (Try.prog.info? 5).map (fun i => (i.zero, i.size, i.bytes)) = some (some (.int .u8 0), 1, 1) := by kernel_rfl
/-- a row of the call's own, as a slice that reads as a list -/
theorem row_of_own {w : World} {base n : Nat} {v : Value} {L : List Int} (h : w.ownsRow base 5 1 v n (L.map (Value.int .u8))) (hb : Bytes L) : ∃ A cap, v = .slice A n cap ∧ n = L.length ∧ RowAt w A cap L := by
  have hl : L.length = n := by have := h.1; simpa using this
  rcases h.2 with ⟨rfl, rfl⟩ | ⟨g, cap, cur, rfl, _, hh, hc, hm, _⟩
  · have : L = [] := List.eq_nil_of_length_eq_zero hl
    subst this
    exact ⟨none, 0, rfl, rfl, Nat.le_refl _, Nat.zero_le _, hb, fun h => absurd rfl h⟩
  · refine ⟨_, cap, rfl, hl.symm, by omega, hm, hb, fun hne => ⟨_, rfl, ?_, fun i hi => ?_⟩⟩
    · have := h.lt g rfl; exact this.2
    · exact h.cells (g := g) rfl i (.int .u8 (L.getD i 0)) (by simp [List.getElem?_eq_getElem hi, List.getD])

theorem append_nil_run {w : World} {base : Nat} {ty : TypeId} {v : Value} {n : Nat} {xs : List Value} (hown : w.ownsRow base 5 1 v n xs) (c : Nat) :
    (Builtin.append_ #[22, 22] ty #[v, .slice none 0 c]).run Try.prog w = .ok v w := by
  obtain ⟨u0, hu0, hz0, hz1, hz2⟩ := info_parts u8_info
  rcases hown.2 with ⟨rfl, rfl⟩ | ⟨g, cap, cur, rfl, _, _, hnc, _⟩
  · simp [Builtin.append_, run_underlying Try.underlying22, sizeOf, typeInfo, hu0, Builtin.lenOf, Builtin.firstCells]
  · simp [Builtin.append_, run_underlying Try.underlying22, sizeOf, typeInfo, hu0, Builtin.lenOf, Builtin.firstCells, hnc, storeCells]

/-- bytes that read as a list, put behind a row of the call's own -/
theorem append_row {w : World} {ops : Array Oper} {rest : List Oper} {o : Oper} {a : Act} {Q : Exit → Act → World → Prop} (hgd : o.guard = none) (s x : Operand)
    (ho : o.op = .call { callee := .builtin .append, args := #[s, x], argTypes := #[22, 22] })
    (base : Nat) (v : Value) (n : Nat) (L : List Int) (hs : a.eval s = v) (hown : w.ownsRow base 5 1 v n (L.map (Value.int .u8))) (hL : Bytes L)
    (A : Option Addr) (m c : Nat) (M : List Int) (hx : a.eval x = .slice A m c) (hm : m = M.length) (cap : Nat) (hr : RowAt w A cap M) (n' : Nat) (hn' : n' = n + m) (hlen : n + m ≤ 1000000) (hbase : base ≤ w.heap.size)
    (h : ∀ A' cap' w', w'.ownsRow base 5 1 (.slice A' n' cap') n' ((L ++ M).map (Value.int .u8)) → RowAt w' A' cap' (L ++ M) → Below base w w' → wpList Try.prog ops Q rest (a.put o.dst (.slice A' n' cap')) w') :
    wpList Try.prog ops Q (o :: rest) a w := by
  subst hn'
  obtain ⟨u0, hu0, hz0, hz1, hz2⟩ := info_parts u8_info
  have hLM : Bytes (L ++ M) := fun z hz => by
    rcases List.mem_append.1 hz with h | h
    · exact hL z h
    · exact hr.2.2.1 z h
  cases A with
  | none =>
    have hM : M = [] := by
      by_cases hne : M = []
      · exact hne
      · obtain ⟨ad, h, _⟩ := hr.2.2.2 hne; cases h
    subst hM
    subst hm
    refine wpList_plain hgd fun K hK => ?_
    unfold Oper.wp execOp
    simp only [ho, resolve, invoke, builtin, Sem.run_bind, Sem.run_pure, Result.andThen_ok, List.map_toArray, List.map_cons, List.map_nil, hs, hx, List.length_nil, append_nil_run hown c]
    have hown' : w.ownsRow base 5 1 v (n + 0) ((L ++ []).map (Value.int .u8)) := by simpa using hown
    obtain ⟨A', cap', rfl, _, hrow⟩ := row_of_own hown' hLM
    exact hK _ _ (h A' cap' w hown' hrow (Below.refl _ _))
  | some ad =>
    refine wpList_append_own_at w hgd s x 22 ho base 5 u0 _ 1 1 Try.underlying22 hu0 hz0 hz1 hz2 rfl (by decide) v n (L.map (Value.int .u8)) hs hown ad m c (M.map (Value.int .u8)) hx (by simp [hm])
      (fun j u hj => ?_) (ints_oneCell .u8 M) (by unfold maxLen; omega) (by omega) hbase ?_
    · have hjl : j < M.length := by
        rcases Nat.lt_or_ge j M.length with h | h
        · exact h
        · rw [List.getElem?_eq_none (by simpa using h)] at hj; cases hj
      obtain ⟨ad', e, _, hc⟩ := hr.2.2.2 (by intro h; subst h; simp at hjl)
      injection e with e; subst e
      rw [hc j hjl]
      simp [List.getElem?_eq_getElem hjl] at hj
      subst hj
      simp [List.getD, List.getElem?_eq_getElem hjl]
    · intro v' w' hown' hg _ _
      rw [← List.map_append] at hown'
      obtain ⟨A', cap', rfl, _, hrow⟩ := row_of_own hown' hLM
      exact h A' cap' w' hown' hrow ((Below.refl base w).grown hg hbase (fun k hk => (hown.lt k hk).1))


theorem own_new (w : World) : (w.alloc (.cells #[] 5)).ownsRow w.heap.size 5 1 (.slice (some ⟨w.heap.size, 0, none⟩) 0 0) 0 (([] : List Int).map (Value.int .u8)) :=
  World.ownsRow_lit (size := 1) (base := w.heap.size) (e := 5) w #[] 0 (by simp) (by unfold maxLen; omega) rfl
theorem own_one (w : World) (x : Int) : (w.alloc (.cells #[.int .u8 x] 5)).ownsRow w.heap.size 5 1 (.slice (some ⟨w.heap.size, 0, none⟩) 1 1) 1 ([x].map (Value.int .u8)) :=
  World.ownsRow_lit (size := 1) (base := w.heap.size) (e := 5) w #[.int .u8 x] 1 (by simp) (by unfold maxLen; omega) rfl
theorem own_open {w : World} {base n : Nat} {v : Value} {L : List Int} (h : w.ownsRow base 5 1 v n (L.map (Value.int .u8))) (hn : 0 < L.length) :
    ∃ g cap, v = .slice (some ⟨g, 0, none⟩) n cap ∧ n = L.length ∧ base ≤ g ∧ g < w.heap.size := by
  have hl : L.length = n := by have := h.1; simpa using this
  rcases h.2 with ⟨rfl, h0⟩ | ⟨g, cap, cur, rfl, _, hh, hc, hm, _⟩
  · omega
  · have hlt := h.lt g rfl
    exact ⟨g, cap, rfl, hl.symm, hlt.1, hlt.2⟩
/-- a byte of it set anew -/
theorem own_set {w : World} {base n g cap : Nat} {L : List Int} (h : w.ownsRow base 5 1 (.slice (some ⟨g, 0, none⟩) n cap) n (L.map (Value.int .u8))) (hb : Bytes L) (k : Nat) (hk : k < n) (y : Int) (y0 : 0 ≤ y) (y1 : y ≤ 255) :
    w.cell? ⟨g, k, none⟩ = some (.int .u8 (L.getD k 0)) ∧ RowAt (w.setCell ⟨g, k, none⟩ (.int .u8 y)) (some ⟨g, 0, none⟩) cap (L.set k y) := by
  have hl : L.length = n := by have := h.1; simpa using this
  refine ⟨?_, ?_⟩
  · rw [h.cellAt k (by omega)]
    simp [List.getD, List.getElem?_eq_getElem (show k < L.length by omega)]
  · have hs := h.stored k (.int .u8 y)
    have e : (L.map (Value.int .u8)).set k (.int .u8 y) = (L.set k y).map (Value.int .u8) := by simp
    have ho := hs.1
    rw [e] at ho
    obtain ⟨A, c, hv, _, hr⟩ := row_of_own ho (fun z hz => by
      rcases List.mem_or_eq_of_mem_set hz with h | h
      · exact hb z h
      · subst h; exact ⟨y0, y1⟩)
    injection hv with h1 h2 h3
    subst h1 h3
    exact hr
end Go.Proofs.Ytojpcijfipdiaaa.Mm
