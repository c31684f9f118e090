/- Rows of numbers and rows of instructions, of a call's own and as they come in. -/
import Derived.Test.YtojpcijfipdiaaaFnvApp
import Derived.Test.YtojpcijfipdiaaaScanMath
import Derived.RangeFuncBox
namespace Go.Proofs.Ytojpcijfipdiaaa.Mm
open Go.ChangeShapes Go.WideShapes Go.ChangeAt Go.RowKit
set_option linter.unusedVariables false

/-- an instruction's four cells -/
def insC (x : InsV) : List Value := [.int .i64 x.op, .int .i64 x.a, .int .i64 x.b, .int .u32 x.imm]
def InsV.agg (x : InsV) : Value := .agg #[.int .i64 x.op, .int .i64 x.a, .int .i64 x.b, .int .u32 x.imm]
/-- as a number's kind bounds it -/
def InsV.Wf (x : InsV) : Prop := (-9223372036854775808 ≤ x.op ∧ x.op ≤ 9223372036854775807) ∧ (-9223372036854775808 ≤ x.a ∧ x.a ≤ 9223372036854775807) ∧ (-9223372036854775808 ≤ x.b ∧ x.b ≤ 9223372036854775807) ∧ 0 ≤ x.imm ∧ x.imm < 4294967296
structure InsAt (w : World) (p : Addr) (x : InsV) : Prop where
  c0 : w.cell? p = some (.int .i64 x.op)
  c1 : w.cell? ⟨p.block, p.off + 1, none⟩ = some (.int .i64 x.a)
  c2 : w.cell? ⟨p.block, p.off + 2, none⟩ = some (.int .i64 x.b)
  c3 : w.cell? ⟨p.block, p.off + 3, none⟩ = some (.int .u32 x.imm)
def insD : InsV := ⟨0, 0, 0, 0⟩
/-- a slice that reads as instructions -/
def InsRow (w : World) (A : Option Addr) (cap : Nat) (l : List InsV) : Prop :=
  l.length ≤ cap ∧ cap ≤ maxLen ∧ (∀ x ∈ l, x.Wf) ∧ (l ≠ [] → ∃ p, A = some p ∧ p.block < w.heap.size ∧ ∀ i, i < l.length → InsAt w (p.add (i * 4)) (l.getD i insD))
/-- a slice that reads as numbers -/
def IntRow (w : World) (A : Option Addr) (cap : Nat) (l : List Int) : Prop :=
  l.length ≤ cap ∧ cap ≤ maxLen ∧ (l ≠ [] → ∃ p, A = some p ∧ p.block < w.heap.size ∧ ∀ i, i < l.length → w.cell? (p.add i) = some (.int .i64 (l.getD i 0)))

theorem InsAt.below {w w' : World} {p : Addr} {x : InsV} (h : InsAt w p x) (hp : p.block < w.heap.size) (b : Below w.heap.size w w') : InsAt w' p x :=
  ⟨by rw [b.cell hp]; exact h.c0, (b.cell (p := ⟨p.block, p.off + 1, none⟩) hp).trans h.c1, (b.cell (p := ⟨p.block, p.off + 2, none⟩) hp).trans h.c2, (b.cell (p := ⟨p.block, p.off + 3, none⟩) hp).trans h.c3⟩
theorem InsRow.below {w w' : World} {A : Option Addr} {cap : Nat} {l : List InsV} (h : InsRow w A cap l) (b : Below w.heap.size w w') : InsRow w' A cap l := by
  obtain ⟨h1, h2, h3, h4⟩ := h
  refine ⟨h1, h2, h3, fun hn => ?_⟩
  obtain ⟨p, hp, hb, hc⟩ := h4 hn
  exact ⟨p, hp, Nat.lt_of_lt_of_le hb b.size, fun i hi => (hc i hi).below (by rw [block_add]; exact hb) b⟩
theorem IntRow.below {w w' : World} {A : Option Addr} {cap : Nat} {l : List Int} (h : IntRow w A cap l) (b : Below w.heap.size w w') : IntRow w' A cap l := by
  obtain ⟨h1, h2, h4⟩ := h
  refine ⟨h1, h2, fun hn => ?_⟩
  obtain ⟨p, hp, hb, hc⟩ := h4 hn
  exact ⟨p, hp, Nat.lt_of_lt_of_le hb b.size, fun i hi => by rw [b.cell (by rw [block_add]; exact hb)]; exact hc i hi⟩
theorem insRow_nil (w : World) : InsRow w none 0 [] := ⟨Nat.le_refl _, Nat.zero_le _, fun x hx => (by cases hx), fun h => absurd rfl h⟩
theorem intRow_nil (w : World) : IntRow w none 0 [] := ⟨Nat.le_refl _, Nat.zero_le _, fun h => absurd rfl h⟩

theorem flatC_len (L : List InsV) : (L.flatMap insC).length = L.length * 4 := by
  induction L with
  | nil => rfl
  | cons x t ih => rw [List.flatMap_cons, List.length_append, ih, List.length_cons]; show 4 + _ = _; omega
theorem flatC_get (L : List InsV) : ∀ i, i < L.length → ∀ j, j < 4 → (L.flatMap insC)[i * 4 + j]? = (insC (L.getD i insD))[j]? := by
  induction L with
  | nil => intro i hi; simp at hi
  | cons x t ih =>
    intro i hi j hj
    rw [List.flatMap_cons]
    cases i with
    | zero => rw [List.getElem?_append_left (by show _ < 4; omega)]; simp
    | succ i =>
      rw [List.getElem?_append_right (by show 4 ≤ _; omega)]
      rw [show (i + 1) * 4 + j - (insC x).length = i * 4 + j by show (i + 1) * 4 + j - 4 = _; omega, ih i (by simp at hi; omega) j hj]
      simp
theorem flatC_app (L M : List InsV) : (L ++ M).flatMap insC = L.flatMap insC ++ M.flatMap insC := by simp
theorem flatC_one (x : InsV) : [x].flatMap insC = insC x := by simp
theorem insC_one (x : InsV) : ∀ u ∈ insC x, u.oneCell' = true := by
  intro u hu
  simp only [insC, List.mem_cons, List.not_mem_nil, or_false] at hu
  rcases hu with rfl | rfl | rfl | rfl <;> rfl

theorem int_info : (Try.prog.info? 3).map (fun i => (i.zero, i.size, i.bytes)) = some (some (.int .i64 0), 1, 8) := by kernel_rfl
theorem ins_info : (Try.prog.info? 36).map (fun i => (i.zero, i.size, i.bytes)) = some (some (.agg #[.int .i64 0, .int .i64 0, .int .i64 0, .int .u32 0]), 4, 32) := by kernel_rfl

theorem addr0 (g k : Nat) : (⟨g, 0, none⟩ : Addr).add k = ⟨g, k, none⟩ := by
  unfold Addr.add
  by_cases h0 : k = 0
  · subst h0; rfl
  · rw [if_neg h0]; simp
/-- a row of the call's own, read -/
theorem ins_of_own {w : World} {base n : Nat} {v : Value} {L : List InsV} (h : w.ownsRow base 36 4 v n (L.flatMap insC)) (hw : ∀ x ∈ L, x.Wf) : ∃ A cap, v = .slice A n cap ∧ n = L.length ∧ InsRow w A cap L := by
  have hl : L.length = n := by have := h.1; rw [flatC_len] at this; omega
  rcases h.2 with ⟨rfl, rfl⟩ | ⟨g, cap, cur, rfl, _, hh, hc, hm, _⟩
  · have : L = [] := List.eq_nil_of_length_eq_zero hl
    subst this
    exact ⟨none, 0, rfl, rfl, insRow_nil w⟩
  · refine ⟨_, cap, rfl, hl.symm, by omega, hm, hw, fun hne => ⟨_, rfl, (h.lt g rfl).2, fun i hi => ?_⟩⟩
    have key : ∀ j, j < 4 → w.cell? ⟨g, i * 4 + j, none⟩ = (insC (L.getD i insD))[j]? := fun j hj => by
      have e := flatC_get L i hi j hj
      have hs : ∃ u, (insC (L.getD i insD))[j]? = some u := ⟨_, List.getElem?_eq_getElem (show j < (insC _).length from hj)⟩
      obtain ⟨u, hu⟩ := hs
      rw [hu] at e ⊢
      have := h.cells (g := g) rfl _ u e
      rw [addr0] at this
      exact this
    rw [addr0]
    exact ⟨key 0 (by decide), key 1 (by decide), key 2 (by decide), key 3 (by decide)⟩
theorem int_of_own {w : World} {base n : Nat} {v : Value} {L : List Int} (h : w.ownsRow base 3 1 v n (L.map (Value.int .i64))) : ∃ A cap, v = .slice A n cap ∧ n = L.length ∧ IntRow w A cap L := by
  have hl : L.length = n := by have := h.1; simpa using this
  rcases h.2 with ⟨rfl, rfl⟩ | ⟨g, cap, cur, rfl, _, hh, hc, hm, _⟩
  · have : L = [] := List.eq_nil_of_length_eq_zero hl
    subst this
    exact ⟨none, 0, rfl, rfl, intRow_nil w⟩
  · exact ⟨_, cap, rfl, hl.symm, by omega, hm, fun hne => ⟨_, rfl, (h.lt g rfl).2, fun i hi => h.cells (g := g) rfl i (.int .i64 (L.getD i 0)) (by simp [List.getElem?_eq_getElem hi, List.getD])⟩⟩

/-- rows of different kinds lie in different blocks -/
theorem own_apart {w w' : World} {b1 b2 s1 s2 n1 n2 : Nat} {e1 e2 : TypeId} {v1 v2 : Value} {xs1 xs2 : List Value} (h2 : w.ownsRow b2 e2 s2 v2 n2 xs2) (h1 : w.ownsRow b1 e1 s1 v1 n1 xs1) (hne : e1 ≠ e2) (hg : w.grownBy w' v1.ownBlock) : w'.ownsRow b2 e2 s2 v2 n2 xs2 := by
  refine h2.kept hg ?_
  rcases h2.2 with ⟨rfl, _⟩ | ⟨g2, _, _, rfl, _, hg2, _⟩
  · exact .inl rfl
  · rcases h1.2 with ⟨rfl, _⟩ | ⟨g1, _, _, rfl, _, hg1, _⟩
    · exact .inr (by simp [Value.ownBlock])
    · refine .inr fun e => ?_
      simp only [Value.ownBlock, Option.some.injEq] at e
      rw [e, hg1] at hg2
      simp at hg2
      exact hne hg2.2
theorem below_of_own {w w' : World} {base e size n : Nat} {v : Value} {xs : List Value} (h : w.ownsRow base e size v n xs) (hb : base ≤ w.heap.size) (hg : w.grownBy w' v.ownBlock) : Below base w w' :=
  (Below.refl base w).grown hg hb (fun k hk => (h.lt k hk).1)

/-- one behind a row of numbers, of instructions -/
theorem append_int {w : World} {ops : Array Oper} {rest : List Oper} {o : Oper} {a : Act} {Q : Exit → Act → World → Prop} (hgd : o.guard = none) (s x : Operand)
    (ho : o.op = .call { callee := .builtin .append, args := #[s, x], argTypes := #[39, 39] })
    (base : Nat) (v : Value) (n : Nat) (L : List Int) (hs : a.eval s = v) (hown : w.ownsRow base 3 1 v n (L.map (Value.int .i64)))
    (g c : Nat) (y : Int) (hx : a.eval x = .slice (some ⟨g, 0, none⟩) 1 c) (hT : w.cell? ⟨g, 0, none⟩ = some (.int .i64 y)) (n' : Nat) (hn' : n' = n + 1) (hlen : n ≤ 100000) (hbase : base ≤ w.heap.size)
    (h : ∀ A' cap' w', w'.ownsRow base 3 1 (.slice A' n' cap') n' ((L ++ [y]).map (Value.int .i64)) → w.grownBy w' v.ownBlock → IntRow w' A' cap' (L ++ [y]) → Below base w w' → wpList Try.prog ops Q rest (a.put o.dst (.slice A' n' cap')) w') :
    wpList Try.prog ops Q (o :: rest) a w := by
  subst hn'
  obtain ⟨u0, hu0, hz0, hz1, hz2⟩ := info_parts int_info
  refine wpList_append_own w hgd s x 39 ho base 3 u0 _ 1 8 Try.underlying39 hu0 hz0 hz1 hz2 rfl (by decide) v n (L.map (Value.int .i64)) hs hown ⟨g, 0, none⟩ 1 c [.int .i64 y] hx rfl
    (fun j u hj => ?_) (by intro u hu; simp at hu; subst hu; rfl) (by unfold maxLen; omega) (by omega) hbase ?_
  · match j, hj with
    | 0, hj => simp at hj; subst hj; simpa [Addr.add] using hT
    | j + 1, hj => simp at hj
  · intro v' w' hown' hg _
    have hown' : w'.ownsRow base 3 1 v' (n + 1) ((L ++ [y]).map (Value.int .i64)) := by simpa using hown'
    obtain ⟨A', cap', rfl, _, hrow⟩ := int_of_own hown'
    exact h A' cap' w' hown' hg hrow (below_of_own hown hbase hg)
theorem cells4 {w : World} {g : Nat} {t : InsV} (h : InsAt w ⟨g, 0, none⟩ t) : ∀ j u, (insC t)[j]? = some u → w.cell? ((⟨g, 0, none⟩ : Addr).add j) = some u := by
  intro j u hj
  match j, hj with
  | 0, hj => simp [insC] at hj; subst hj; simpa [Addr.add] using h.c0
  | 1, hj => simp [insC] at hj; subst hj; simpa [Addr.add] using h.c1
  | 2, hj => simp [insC] at hj; subst hj; simpa [Addr.add] using h.c2
  | 3, hj => simp [insC] at hj; subst hj; simpa [Addr.add] using h.c3
  | j + 4, hj => simp [insC] at hj
theorem append_ins {w : World} {ops : Array Oper} {rest : List Oper} {o : Oper} {a : Act} {Q : Exit → Act → World → Prop} (hgd : o.guard = none) (s x : Operand)
    (ho : o.op = .call { callee := .builtin .append, args := #[s, x], argTypes := #[33, 33] })
    (base : Nat) (v : Value) (n : Nat) (L : List InsV) (hs : a.eval s = v) (hown : w.ownsRow base 36 4 v n (L.flatMap insC)) (hW : ∀ x ∈ L, x.Wf)
    (g c : Nat) (y : InsV) (hx : a.eval x = .slice (some ⟨g, 0, none⟩) 1 c) (hT : InsAt w ⟨g, 0, none⟩ y) (hy : y.Wf) (n' : Nat) (hn' : n' = n + 1) (hlen : n ≤ 100000) (hbase : base ≤ w.heap.size)
    (h : ∀ A' cap' w', w'.ownsRow base 36 4 (.slice A' n' cap') n' ((L ++ [y]).flatMap insC) → w.grownBy w' v.ownBlock → InsRow w' A' cap' (L ++ [y]) → Below base w w' → wpList Try.prog ops Q rest (a.put o.dst (.slice A' n' cap')) w') :
    wpList Try.prog ops Q (o :: rest) a w := by
  subst hn'
  obtain ⟨u0, hu0, hz0, hz1, hz2⟩ := info_parts ins_info
  refine wpList_append_own w hgd s x 33 ho base 36 u0 _ 4 32 Try.underlying33 hu0 hz0 hz1 hz2 rfl (by decide) v n (L.flatMap insC) hs hown ⟨g, 0, none⟩ 1 c (insC y) hx rfl
    (cells4 hT) (insC_one y) (by unfold maxLen; omega) (by omega) hbase ?_
  intro v' w' hown' hg _
  rw [← flatC_one y, ← flatC_app] at hown'
  obtain ⟨A', cap', rfl, _, hrow⟩ := ins_of_own hown' (fun z hz => (List.mem_append.1 hz).elim (hW z) (fun h => by simp at h; subst h; exact hy))
  exact h A' cap' w' hown' hg hrow (below_of_own hown hbase hg)
theorem insAt_new (w : World) (y : InsV) (T : TypeId) : InsAt (w.alloc (.cells #[.int .i64 y.op, .int .i64 y.a, .int .i64 y.b, .int .u32 y.imm] T)) ⟨w.heap.size, 0, none⟩ y := by
  have h := HasB.new w T (insC y)
  exact ⟨h.cell 0, h.cell 1, h.cell 2, h.cell 3⟩
/-- an instruction of bytes is one of numbers -/
theorem ok_wf {x : InsV} (h : x.Ok) : x.Wf := by
  obtain ⟨h1, h2, h3⟩ := h
  obtain ⟨⟨o0, o1⟩, hf⟩ := (Go.Proofs.Ytojpcijfipdiaaa.rightB_iff _ _ _ _).1 h1
  rw [Go.Proofs.Ytojpcijfipdiaaa.fitsB_iff] at hf
  have ha : Go.Proofs.Ytojpcijfipdiaaa.fA x.op ≤ 7 := by unfold Go.Proofs.Ytojpcijfipdiaaa.fA; split <;> omega
  have hb : Go.Proofs.Ytojpcijfipdiaaa.fB x.op ≤ 7 := by unfold Go.Proofs.Ytojpcijfipdiaaa.fB; split <;> omega
  exact ⟨by omega, by omega, by omega, h2, h3⟩
end Go.Proofs.Ytojpcijfipdiaaa.Mm
