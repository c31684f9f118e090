/- The statement ScanParts, walked. -/
import Derived.Test.YtojpcijfipdiaaaScanTops
import Derived.Test.YtojpcijfipdiaaaScanPad
namespace Go.Proofs.Ytojpcijfipdiaaa.Mm
open Go.ChangeShapes Go.WideShapes Go.ChangeAt Go.RowKit
set_option linter.unusedVariables false

theorem add_4 (p : Addr) (i j : Nat) : p.add (i * 4 + (j + 1)) = ⟨(p.add (i * 4)).block, (p.add (i * 4)).off + (j + 1), none⟩ := by
  have e : p.add (i * 4 + (j + 1)) = (p.add (i * 4)).add (j + 1) := by
    unfold Addr.add
    by_cases h : i = 0
    · subst h; simp
    · have h4 : ¬ i * 4 = 0 := by omega
      simp [h4, Nat.add_assoc]
  rw [e]
  generalize p.add (i * 4) = y
  unfold Addr.add
  simp
/-- a row's cells, one by one -/
theorem ins_cells {w : World} {p : Addr} {M : List InsV} (h : ∀ i, i < M.length → InsAt w (p.add (i * 4)) (M.getD i insD)) : ∀ j u, (M.flatMap insC)[j]? = some u → w.cell? (p.add j) = some u := by
  intro j u hj
  have hjl : j < M.length * 4 := by
    rcases Nat.lt_or_ge j (M.length * 4) with h | h
    · exact h
    · rw [List.getElem?_eq_none (by rw [flatC_len]; exact h)] at hj; cases hj
  obtain ⟨q, r, hr4, rfl⟩ : ∃ q r, r < 4 ∧ j = q * 4 + r := ⟨j / 4, j % 4, by omega, by omega⟩
  have hi : q < M.length := by omega
  obtain ⟨k0, k1, k2, k3⟩ := h q hi
  have e := flatC_get M q hi r hr4
  rw [hj] at e
  generalize M.getD q insD = y at *
  have hr : r = 0 ∨ r = 1 ∨ r = 2 ∨ r = 3 := by omega
  rcases hr with rfl | rfl | rfl | rfl <;> simp [insC] at e <;> subst e
  · exact k0
  · rw [show q * 4 + 1 = q * 4 + (0 + 1) from rfl, add_4]; exact k1
  · rw [show q * 4 + 2 = q * 4 + (1 + 1) from rfl, add_4]; exact k2
  · rw [show q * 4 + 3 = q * 4 + (2 + 1) from rfl, add_4]; exact k3
/-- a guarded operation that is wanted goes as one without a guard -/
theorem wpList_unguard {P : Program} {w : World} {ops : Array Oper} {rest : List Oper} {o : Oper} {a : Act} {Q : Exit → Act → World → Prop} (hw : Region.wanted o (yielded ops a.tmps) = true) (h : wpList P ops Q ({ o with guard := none } :: rest) a w) : wpList P ops Q (o :: rest) a w := by
  unfold wpList at h ⊢
  rw [if_pos (by simp [Region.wanted])] at h
  rw [if_pos hw]
  exact h
theorem flatC_one' (L : List InsV) : ∀ u ∈ L.flatMap insC, u.oneCell' = true := by
  intro u hu
  obtain ⟨x, _, h⟩ := List.mem_flatMap.1 hu
  exact insC_one x u h
theorem append_nil_ins {w : World} {base : Nat} {ty : TypeId} {v : Value} {n : Nat} {xs : List Value} (hown : w.ownsRow base 36 4 v n xs) (c : Nat) :
    (Builtin.append_ #[33, 33] ty #[v, .slice none 0 c]).run Try.prog w = .ok v w := by
  obtain ⟨u0, hu0, hz0, hz1, hz2⟩ := info_parts ins_info
  rcases hown.2 with ⟨rfl, rfl⟩ | ⟨g, cap, cur, rfl, _, _, hnc, _⟩
  · simp [Builtin.append_, run_underlying Try.underlying33, sizeOf, typeInfo, hu0, Builtin.lenOf, Builtin.firstCells]
  · simp [Builtin.append_, run_underlying Try.underlying33, sizeOf, typeInfo, hu0, Builtin.lenOf, Builtin.firstCells, hnc, storeCells]
/-- instructions that read as a list, put behind a row of the call's own -/
theorem append_insrow {w : World} {ops : Array Oper} {rest : List Oper} {o : Oper} {a : Act} {Q : Exit → Act → World → Prop} (hgd' : o.guard = none) (s x : Operand)
    (ho : o.op = .call { callee := .builtin .append, args := #[s, x], argTypes := #[33, 33] })
    (base : Nat) (v : Value) (n : Nat) (L : List InsV) (hs : a.eval s = v) (hown : w.ownsRow base 36 4 v n (L.flatMap insC)) (hW : ∀ y ∈ L, y.Wf)
    (A : Option Addr) (m c : Nat) (M : List InsV) (hx : a.eval x = .slice A m c) (hm : m = M.length) (cap : Nat) (hr : InsRow w A cap M) (n' : Nat) (hn' : n' = n + m) (hlen : n + m ≤ 100000) (hbase : base ≤ w.heap.size)
    (h : ∀ A' cap' w', w'.ownsRow base 36 4 (.slice A' n' cap') n' ((L ++ M).flatMap insC) → InsRow w' A' cap' (L ++ M) → Below base w w' → wpList Try.prog ops Q rest (a.put o.dst (.slice A' n' cap')) w') :
    wpList Try.prog ops Q (o :: rest) a w := by
  subst hn'
  obtain ⟨u0, hu0, hz0, hz1, hz2⟩ := info_parts ins_info
  have hLM : ∀ y ∈ L ++ M, y.Wf := fun z hz => (List.mem_append.1 hz).elim (hW z) (hr.2.2.1 z)
  cases A with
  | none =>
    have hM : M = [] := by
      by_cases hne : M = []
      · exact hne
      · obtain ⟨ad, h, _⟩ := hr.2.2.2 hne; cases h
    subst hM
    subst hm
    refine wpList_plain hgd' fun K hK => ?_
    unfold Oper.wp execOp
    simp only [ho, resolve, invoke, builtin, Sem.run_bind, Sem.run_pure, Result.andThen_ok, List.map_toArray, List.map_cons, List.map_nil, hs, hx, List.length_nil, append_nil_ins hown c]
    have hown' : w.ownsRow base 36 4 v (n + 0) ((L ++ []).flatMap insC) := by simpa using hown
    obtain ⟨A', cap', rfl, _, hrow⟩ := ins_of_own hown' hLM
    exact hK _ _ (h A' cap' w hown' hrow (Below.refl _ _))
  | some ad =>
    have hcs : ∀ j u, (M.flatMap insC)[j]? = some u → w.cell? (ad.add j) = some u := by
      by_cases hne : M = []
      · subst hne; intro j u hj; simp at hj
      · obtain ⟨ad', e, _, hc⟩ := hr.2.2.2 hne
        injection e with e; subst e
        exact ins_cells hc
    refine wpList_append_own_at w hgd' s x 33 ho base 36 u0 _ 4 32 Try.underlying33 hu0 hz0 hz1 hz2 rfl (by decide) v n (L.flatMap insC) hs hown ad m c (M.flatMap insC) hx (by rw [flatC_len, hm])
      hcs (flatC_one' M) (by unfold maxLen; omega) (by omega) hbase ?_
    intro v' w' hown' hg _ _
    rw [← flatC_app] at hown'
    obtain ⟨A', cap', rfl, _, hrow⟩ := ins_of_own hown' hLM
    exact h A' cap' w' hown' hrow ((Below.refl base w).grown hg hbase (fun k hk => (hown.lt k hk).1))
theorem ins_new0 (w : World) : (w.alloc (.cells #[] 36)).ownsRow w.heap.size 36 4 (.slice (some ⟨w.heap.size, 0, none⟩) 0 0) 0 (([] : List InsV).flatMap insC) :=
  World.ownsRow_lit (size := 4) (base := w.heap.size) (e := 36) w #[] 0 (by simp) (by unfold maxLen; omega) rfl

/-- what is scanned of two parts -/
theorem part_size {a b : List Int} (h1 : a.length ≤ 2000) (h2 : b.length ≤ 2000) (h3 : a.length % 32 = 0) (h4 : b.length % 32 = 0) (h5 : a.length ≠ 0) (h6 : b.length ≠ 0) :
    sizeB a.length = true ∧ sizeB b.length = true ∧ sizeB (a ++ b).length = true := by
  simp only [sizeB_iff, List.length_append]
  omega
theorem part_scan {a b : List Int} (ha : Go.Proofs.Ytojpcijfipdiaaa.Bytes a) (hb : Go.Proofs.Ytojpcijfipdiaaa.Bytes b) (h3 : a.length % 32 = 0) (s1 : sizeB a.length = true) (s2 : sizeB b.length = true) (s3 : sizeB (a ++ b).length = true) :
    (scanE a = 2 ∧ scanE (a ++ b) = 2 ∧ (scanL (a ++ b)).length = 0) ∨ (scanE a = 0 ∧ scanE b = 2 ∧ scanE (a ++ b) = 2 ∧ (scanL (a ++ b)).length = 0) ∨
      (scanE a = 0 ∧ scanE b = 0 ∧ scanE (a ++ b) = 0 ∧ insI (scanL (a ++ b)) = insI (scanL a) ++ insI (scanL b)) := by
  cases h1 : scanAt a 0 with
  | none =>
    obtain ⟨e1, e2⟩ := scanE_2 s3 (parts_no ha hb h3 (.inl h1))
    exact .inl ⟨(scanE_2 s1 h1).1, e1, by rw [e2]; rfl⟩
  | some L =>
    cases h2 : scanAt b 0 with
    | none =>
      obtain ⟨e1, e2⟩ := scanE_2 s3 (parts_no ha hb h3 (.inr h2))
      exact .inr (.inl ⟨(scanE_0 s1 h1).1, (scanE_2 s2 h2).1, e1, by rw [e2]; rfl⟩)
    | some M =>
      obtain ⟨K, hK, hm⟩ := parts_yes ha hb h3 h1 h2
      obtain ⟨e1, e2⟩ := scanE_0 s3 hK
      refine .inr (.inr ⟨(scanE_0 s1 h1).1, (scanE_0 s2 h2).1, e1, ?_⟩)
      rw [e2, (scanE_0 s1 h1).2, (scanE_0 s2 h2).2]
      exact hm
end Go.Proofs.Ytojpcijfipdiaaa.Mm
