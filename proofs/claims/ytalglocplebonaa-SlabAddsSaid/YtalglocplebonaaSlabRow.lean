/- Rows of regions, of a call's own and as they come in. -/
import Derived.Test.YtalglocplebonaaBaM
import Derived.Test.YtalglocplebonaaSlabMath2
import Derived.Deep.Slices
import Derived.Deep.Fields
import Derived.ChangeSame
namespace Go.Proofs.Ytalglocplebonaa.Mm
open Go.ChangeShapes Go.WideShapes Go.ChangeAt Go.RowKit
set_option linter.unusedVariables false

/-- a region's two cells -/
def rgC (x : Rg) : List Value := [.int .i64 x.1, .int .i64 x.2]
def rgWf (x : Rg) : Prop := (-9223372036854775808 ≤ x.1 ∧ x.1 ≤ 9223372036854775807) ∧ (-9223372036854775808 ≤ x.2 ∧ x.2 ≤ 9223372036854775807)
structure RgAt (w : World) (p : Addr) (x : Rg) : Prop where
  c0 : w.cell? p = some (.int .i64 x.1)
  c1 : w.cell? ⟨p.block, p.off + 1, none⟩ = some (.int .i64 x.2)
/-- a slice that reads as regions -/
def RgRow (w : World) (A : Option Addr) (cap : Nat) (l : List Rg) : Prop :=
  l.length ≤ cap ∧ cap ≤ maxLen ∧ (∀ x ∈ l, rgWf x) ∧ (l ≠ [] → ∃ p, A = some p ∧ p.block < w.heap.size ∧ ∀ i, i < l.length → RgAt w (p.add (i * 2)) (l.getD i (0, 0)))
theorem RgAt.below {w w' : World} {p : Addr} {x : Rg} (h : RgAt w p x) (hp : p.block < w.heap.size) (b : Below w.heap.size w w') : RgAt w' p x :=
  ⟨by rw [b.cell hp]; exact h.c0, (b.cell (p := ⟨p.block, p.off + 1, none⟩) hp).trans h.c1⟩
theorem RgRow.below {w w' : World} {A : Option Addr} {cap : Nat} {l : List Rg} (h : RgRow w A cap l) (b : Below w.heap.size w w') : RgRow w' A cap l := by
  obtain ⟨h1, h2, h3, h4⟩ := h
  refine ⟨h1, h2, h3, fun hn => ?_⟩
  obtain ⟨p, hp, hb, hc⟩ := h4 hn
  exact ⟨p, hp, Nat.lt_of_lt_of_le hb b.size, fun i hi => (hc i hi).below (by rw [block_add]; exact hb) b⟩
theorem rgRow_nil (w : World) : RgRow w none 0 [] := ⟨Nat.le_refl _, Nat.zero_le _, fun x hx => (by cases hx), fun h => absurd rfl h⟩
theorem flatG_len (L : List Rg) : (L.flatMap rgC).length = L.length * 2 := by
  induction L with
  | nil => rfl
  | cons x t ih => rw [List.flatMap_cons, List.length_append, ih, List.length_cons]; show 2 + _ = _; omega
theorem flatG_get (L : List Rg) : ∀ i, i < L.length → ∀ j, j < 2 → (L.flatMap rgC)[i * 2 + j]? = (rgC (L.getD i (0, 0)))[j]? := by
  induction L with
  | nil => intro i hi; simp at hi
  | cons x t ih =>
    intro i hi j hj
    rw [List.flatMap_cons]
    cases i with
    | zero => rw [List.getElem?_append_left (by show _ < 2; omega)]; simp
    | succ i =>
      rw [List.getElem?_append_right (by show 2 ≤ _; omega)]
      rw [show (i + 1) * 2 + j - (rgC x).length = i * 2 + j by show (i + 1) * 2 + j - 2 = _; omega, ih i (by simp at hi; omega) j hj]
      simp
theorem flatG_app (L M : List Rg) : (L ++ M).flatMap rgC = L.flatMap rgC ++ M.flatMap rgC := by simp
theorem flatG_one (x : Rg) : [x].flatMap rgC = rgC x := by simp
theorem rgC_one (x : Rg) : ∀ u ∈ rgC x, u.oneCell' = true := by
  intro u hu
  simp only [rgC, List.mem_cons, List.not_mem_nil, or_false] at hu
  rcases hu with rfl | rfl <;> rfl
theorem rg_info : (Try.prog.info? 26).map (fun i => (i.zero, i.size, i.bytes)) = some (some (.agg #[.int .i64 0, .int .i64 0]), 2, 16) := by kernel_rfl
theorem addr0G (g k : Nat) : (⟨g, 0, none⟩ : Addr).add k = ⟨g, k, none⟩ := by
  unfold Addr.add
  by_cases h0 : k = 0
  · subst h0; rfl
  · rw [if_neg h0]; simp
theorem rg_of_own {T : TypeId} {w : World} {base n : Nat} {v : Value} {L : List Rg} (h : w.ownsRow base T 2 v n (L.flatMap rgC)) (hw : ∀ x ∈ L, rgWf x) : ∃ A cap, v = .slice A n cap ∧ n = L.length ∧ RgRow w A cap L := by
  have hl : L.length = n := by have := h.1; rw [flatG_len] at this; omega
  rcases h.2 with ⟨rfl, rfl⟩ | ⟨g, cap, cur, rfl, _, hh, hc, hm, _⟩
  · have : L = [] := List.eq_nil_of_length_eq_zero hl
    subst this
    exact ⟨none, 0, rfl, rfl, rgRow_nil w⟩
  · refine ⟨_, cap, rfl, hl.symm, by omega, hm, hw, fun hne => ⟨_, rfl, (h.lt g rfl).2, fun i hi => ?_⟩⟩
    have key : ∀ j, j < 2 → w.cell? ⟨g, i * 2 + j, none⟩ = (rgC (L.getD i (0, 0)))[j]? := fun j hj => by
      have e := flatG_get L i hi j hj
      have hs : ∃ u, (rgC (L.getD i (0, 0)))[j]? = some u := ⟨_, List.getElem?_eq_getElem (show j < (rgC _).length from hj)⟩
      obtain ⟨u, hu⟩ := hs
      rw [hu] at e ⊢
      have := h.cells (g := g) rfl _ u e
      rw [addr0G] at this
      exact this
    rw [addr0G]
    exact ⟨key 0 (by decide), key 1 (by decide)⟩
theorem cells2 {w : World} {p : Addr} {t : Rg} (h : RgAt w p t) (hs : p.spot = none) : ∀ j u, (rgC t)[j]? = some u → w.cell? (p.add j) = some u := by
  obtain ⟨b, o, s⟩ := p
  subst hs
  intro j u hj
  match j, hj with
  | 0, hj => simp [rgC] at hj; subst hj; simpa [Addr.add] using h.c0
  | 1, hj => simp [rgC] at hj; subst hj; simpa [Addr.add] using h.c1
  | j + 2, hj => simp [rgC] at hj
theorem rgAt_new (w : World) (y : Rg) (T : TypeId) : RgAt (w.alloc (.cells #[.int .i64 y.1, .int .i64 y.2] T)) ⟨w.heap.size, 0, none⟩ y := by
  have h := HasB.new w T (rgC y)
  exact ⟨h.cell 0, h.cell 1⟩
theorem rg_made {w : World} {x : Addr} {len cap : Nat} (hl : len ≤ cap) (hm : cap ≤ maxLen) (key : ∀ i, i < len → ∃ t : Rg, rgWf t ∧ RgAt w (x.add (i * 2)) t) : ∃ l : List Rg, len = l.length ∧ RgRow w (some x) cap l := by
  classical
  obtain ⟨f, hf⟩ : ∃ f : Nat → Rg, ∀ i, i < len → rgWf (f i) ∧ RgAt w (x.add (i * 2)) (f i) := by
    refine ⟨fun i => if h : i < len then Classical.choose (key i h) else (0, 0), fun i hi => ?_⟩
    simp only [dif_pos hi]
    exact Classical.choose_spec (key i hi)
  refine ⟨(List.range len).map f, by simp, by simpa using hl, hm, fun y hy => ?_, fun hn => ⟨x, rfl, ?_, fun i hi => ?_⟩⟩
  · obtain ⟨i, hi, rfl⟩ := List.mem_map.1 hy
    exact (hf i (List.mem_range.1 hi)).1
  · have h0 : 0 < len := by
      rcases Nat.eq_zero_or_pos len with h | h
      · subst h; exact absurd rfl hn
      · exact h
    have := block_of_cell (hf 0 h0).2.c0
    rwa [block_add] at this
  · have hi' : i < len := by simpa using hi
    have e : ((List.range len).map f).getD i (0, 0) = f i := by simp [List.getD, hi']
    rw [e]
    exact (hf i hi').2

set_option maxRecDepth 100000 in
theorem rgrow_of {H : Type} {enc : TypeId × Value → H} {w : World} {base : Nat} {spare : Nat → Bool} {held : Bool} {a : Option Addr} {len cap : Nat} {d : DataW H} {ps : List MemPlace}
    (h : DataW.Trod enc Try.prog w base spare held 22 (.slice a len cap) d ps) : ∃ l : List Rg, len = l.length ∧ RgRow w a cap l := by
  obtain ⟨fuel, hf⟩ := h
  have hC : Try.prog.cellsOf 42 = 2 := by kernel_rfl
  have k3 : Try.prog.cellsOf 3 = 1 := by kernel_rfl
  rcases Go.Deep.open_slice Try.underlying22 hf with ⟨hcs, _⟩ | ⟨x, len', cap', m, n, D, Pl, hcs, hb, hl, hm, hmm, _, hi⟩
  · simp [Value.cells] at hcs
    obtain ⟨rfl, rfl, rfl⟩ := hcs
    exact ⟨[], rfl, rgRow_nil w⟩
  · simp [Value.cells] at hcs
    obtain ⟨rfl, rfl, rfl⟩ := hcs
    have hlm : len ≤ m := by rw [hmm]; split <;> omega
    rw [hC] at hi
    refine rg_made hl hm (fun i hil => ?_)
    obtain ⟨cs', hc, ht⟩ := hi i (by omega)
    obtain ⟨_, hcl, hat⟩ := World.cells?_some hc
    obtain ⟨xs, n', _, _, _, _, hfs⟩ := DataW.trod_struct Try.underlying42 ht
    match cs', hcl with
    | [y0, y1], _ =>
      have f0 : DataW.trod enc Try.prog w base spare held n' 3 (([y0, y1].drop 0).take (Try.prog.cellsOf 3)) = xs[0]? := hfs 0 _ rfl
      have f1 : DataW.trod enc Try.prog w base spare held n' 3 (([y0, y1].drop 1).take (Try.prog.cellsOf 3)) = xs[1]? := hfs 1 _ rfl
      simp only [k3, List.drop_zero, List.drop_succ_cons, List.take_succ_cons, List.take_zero] at f0 f1
      have some_of : ∀ j, j < 2 → ∃ y, xs[j]? = some y := fun j hj => ⟨xs[j]'(by simp_all), List.getElem?_eq_getElem _⟩
      obtain ⟨r0, q0⟩ := some_of 0 (by decide)
      obtain ⟨r1, q1⟩ := some_of 1 (by decide)
      obtain ⟨v0, e0, _, g0⟩ := DataW.trod_int Try.underlying3 (f0.trans q0)
      obtain ⟨v1, e1, _, g1⟩ := DataW.trod_int Try.underlying3 (f1.trans q1)
      simp only [List.cons.injEq, and_true] at e0 e1
      subst e0 e1
      have h0 := hat 0 (by decide)
      have h1 := hat 1 (by decide)
      simp only [List.getElem?_cons_succ, List.getElem?_cons_zero] at h0 h1
      have ad : ∀ n, (x.add (i * 2)).add (n + 1) = ⟨(x.add (i * 2)).block, (x.add (i * 2)).off + (n + 1), none⟩ := fun n => by generalize x.add (i * 2) = y; unfold Addr.add; simp
      rw [ad 0] at h1
      have e00 : (x.add (i * 2)).add 0 = x.add (i * 2) := by simp [Addr.add]
      rw [e00] at h0
      exact ⟨(v0, v1), ⟨bounds_i64 g0, bounds_i64 g1⟩, ⟨h0, h1⟩⟩
theorem below_drewG {B : Nat} {w w' : World} (h : Below B w w') : Below B w w'.drew := ⟨h.os, h.tape, h.output, h.size, h.block⟩
theorem own_belowG {A B : World} {base size n : Nat} {e : TypeId} {v : Value} {xs : List Value} (h : A.ownsRow base e size v n xs) (b : Below A.heap.size A B) : B.ownsRow base e size v n xs := by
  refine h.kept (row := none) ⟨b.os, b.tape, b.output, b.size, fun k hk _ => b.block k hk⟩ ?_
  rcases h.2 with ⟨rfl, _⟩ | ⟨g, cap, cur, rfl, _, hgb, _⟩
  · exact .inl rfl
  · exact .inr (fun e' => by cases e')
theorem own_alG {A : World} {base size n : Nat} {e : TypeId} {v : Value} {xs : List Value} (h : A.ownsRow base e size v n xs) (o : Obj) : (A.alloc o).ownsRow base e size v n xs := own_belowG h ((Below.refl _ _).alloc (Nat.le_refl _) o)
theorem below_of_ownG {w w' : World} {base e size n : Nat} {v : Value} {xs : List Value} (h : w.ownsRow base e size v n xs) (hb : base ≤ w.heap.size) (hg : w.grownBy w' v.ownBlock) : Below base w w' :=
  (Below.refl base w).grown hg hb (fun k hk => (h.lt k hk).1)
theorem append_rg {w : World} {ops : Array Oper} {rest : List Oper} {o : Oper} {a : Act} {Q : Exit → Act → World → Prop} (hgd : o.guard = none) (s x : Operand)
    (ho : o.op = .call { callee := .builtin .append, args := #[s, x], argTypes := #[30, 30] })
    (base : Nat) (v : Value) (n : Nat) (L : List Rg) (hs : a.eval s = v) (hown : w.ownsRow base 26 2 v n (L.flatMap rgC)) (hW : ∀ x ∈ L, rgWf x)
    (g c : Nat) (y : Rg) (hx : a.eval x = .slice (some ⟨g, 0, none⟩) 1 c) (hT : RgAt w ⟨g, 0, none⟩ y) (hy : rgWf y) (n' : Nat) (hn' : n' = n + 1) (hlen : n ≤ 100000) (hbase : base ≤ w.heap.size)
    (h : ∀ A' cap' w', w'.ownsRow base 26 2 (.slice A' n' cap') n' ((L ++ [y]).flatMap rgC) → w.grownBy w' v.ownBlock → RgRow w' A' cap' (L ++ [y]) → Below base w w' → wpList Try.prog ops Q rest (a.put o.dst (.slice A' n' cap')) w') :
    wpList Try.prog ops Q (o :: rest) a w := by
  subst hn'
  obtain ⟨u0, hu0, hz0, hz1, hz2⟩ := info_parts rg_info
  refine wpList_append_own w hgd s x 30 ho base 26 u0 _ 2 16 Try.underlying30 hu0 hz0 hz1 hz2 rfl (by decide) v n (L.flatMap rgC) hs hown ⟨g, 0, none⟩ 1 c (rgC y) hx rfl
    (cells2 hT rfl) (rgC_one y) (by unfold maxLen; omega) (by omega) hbase ?_
  intro v' w' hown' hg _
  have hown' : w'.ownsRow base 26 2 v' (n + 1) ((L ++ [y]).flatMap rgC) := by rw [flatG_app, flatG_one]; exact hown'
  obtain ⟨A', cap', rfl, _, hrow⟩ := rg_of_own hown' (fun x hx => by
    rcases List.mem_append.1 hx with k | k
    · exact hW x k
    · simp at k; subst k; exact hy)
  exact h A' cap' w' hown' hg hrow (below_of_ownG hown hbase hg)
end Go.Proofs.Ytalglocplebonaa.Mm
