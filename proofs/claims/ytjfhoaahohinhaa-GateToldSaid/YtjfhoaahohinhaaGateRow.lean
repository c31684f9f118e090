/- Rows of events, of a call's own and as they come in. -/
import Derived.Test.YtjfhoaahohinhaaBaM
import Derived.Deep.Slices
import Derived.Deep.Fields
import Derived.ChangeSame
namespace Go.Proofs.Ytjfhoaahohinhaa.Mm
open Go.ChangeShapes Go.WideShapes Go.ChangeAt Go.RowKit
set_option linter.unusedVariables false

/-- a gate and a number -/
abbrev Ev := Int × Int
def evC (x : Ev) : List Value := [.int .i64 x.1, .int .u32 x.2]
def evWf (x : Ev) : Prop := (-9223372036854775808 ≤ x.1 ∧ x.1 ≤ 9223372036854775807) ∧ (0 ≤ x.2 ∧ x.2 ≤ 4294967295)
structure EvAt (w : World) (p : Addr) (x : Ev) : Prop where
  c0 : w.cell? p = some (.int .i64 x.1)
  c1 : w.cell? ⟨p.block, p.off + 1, none⟩ = some (.int .u32 x.2)
/-- a slice that reads as events -/
def EvRow (w : World) (A : Option Addr) (cap : Nat) (l : List Ev) : Prop :=
  l.length ≤ cap ∧ cap ≤ maxLen ∧ (∀ x ∈ l, evWf x) ∧ (l ≠ [] → ∃ p, A = some p ∧ p.block < w.heap.size ∧ ∀ i, i < l.length → EvAt w (p.add (i * 2)) (l.getD i (0, 0)))
theorem EvAt.below {w w' : World} {p : Addr} {x : Ev} (h : EvAt w p x) (hp : p.block < w.heap.size) (b : Below w.heap.size w w') : EvAt w' p x :=
  ⟨by rw [b.cell hp]; exact h.c0, (b.cell (p := ⟨p.block, p.off + 1, none⟩) hp).trans h.c1⟩
theorem EvRow.below {w w' : World} {A : Option Addr} {cap : Nat} {l : List Ev} (h : EvRow w A cap l) (b : Below w.heap.size w w') : EvRow w' A cap l := by
  obtain ⟨h1, h2, h3, h4⟩ := h
  refine ⟨h1, h2, h3, fun hn => ?_⟩
  obtain ⟨p, hp, hb, hc⟩ := h4 hn
  exact ⟨p, hp, Nat.lt_of_lt_of_le hb b.size, fun i hi => (hc i hi).below (by rw [block_add]; exact hb) b⟩
theorem evRow_nil (w : World) : EvRow w none 0 [] := ⟨Nat.le_refl _, Nat.zero_le _, fun x hx => (by cases hx), fun h => absurd rfl h⟩
theorem flatV_len (L : List Ev) : (L.flatMap evC).length = L.length * 2 := by
  induction L with
  | nil => rfl
  | cons x t ih => rw [List.flatMap_cons, List.length_append, ih, List.length_cons]; show 2 + _ = _; omega
theorem flatV_get (L : List Ev) : ∀ i, i < L.length → ∀ j, j < 2 → (L.flatMap evC)[i * 2 + j]? = (evC (L.getD i (0, 0)))[j]? := by
  induction L with
  | nil => intro i hi; simp at hi
  | cons x t ih =>
    intro i hi j hj
    rw [List.flatMap_cons]
    cases i with
    | zero => rw [List.getElem?_append_left (by show _ < 2; omega)]; simp
    | succ i =>
      rw [List.getElem?_append_right (by show 2 ≤ _; omega)]
      rw [show (i + 1) * 2 + j - (evC x).length = i * 2 + j by show (i + 1) * 2 + j - 2 = _; omega, ih i (by simp at hi; omega) j hj]
      simp
theorem flatV_app (L M : List Ev) : (L ++ M).flatMap evC = L.flatMap evC ++ M.flatMap evC := by simp
theorem flatV_one (x : Ev) : [x].flatMap evC = evC x := by simp
theorem evC_one (x : Ev) : ∀ u ∈ evC x, u.oneCell' = true := by
  intro u hu
  simp only [evC, List.mem_cons, List.not_mem_nil, or_false] at hu
  rcases hu with rfl | rfl <;> rfl
theorem ev_info : (Try.prog.info? 45).map (fun i => (i.zero, i.size, i.bytes)) = some (some (.agg #[.int .i64 0, .int .u32 0]), 2, 16) := by kernel_rfl
theorem addr0V (g k : Nat) : (⟨g, 0, none⟩ : Addr).add k = ⟨g, k, none⟩ := by
  unfold Addr.add
  by_cases h0 : k = 0
  · subst h0; rfl
  · rw [if_neg h0]; simp
theorem ev_of_own {T : TypeId} {w : World} {base n : Nat} {v : Value} {L : List Ev} (h : w.ownsRow base T 2 v n (L.flatMap evC)) (hw : ∀ x ∈ L, evWf x) : ∃ A cap, v = .slice A n cap ∧ n = L.length ∧ EvRow w A cap L := by
  have hl : L.length = n := by have := h.1; rw [flatV_len] at this; omega
  rcases h.2 with ⟨rfl, rfl⟩ | ⟨g, cap, cur, rfl, _, hh, hc, hm, _⟩
  · have : L = [] := List.eq_nil_of_length_eq_zero hl
    subst this
    exact ⟨none, 0, rfl, rfl, evRow_nil w⟩
  · refine ⟨_, cap, rfl, hl.symm, by omega, hm, hw, fun hne => ⟨_, rfl, (h.lt g rfl).2, fun i hi => ?_⟩⟩
    have key : ∀ j, j < 2 → w.cell? ⟨g, i * 2 + j, none⟩ = (evC (L.getD i (0, 0)))[j]? := fun j hj => by
      have e := flatV_get L i hi j hj
      have hs : ∃ u, (evC (L.getD i (0, 0)))[j]? = some u := ⟨_, List.getElem?_eq_getElem (show j < (evC _).length from hj)⟩
      obtain ⟨u, hu⟩ := hs
      rw [hu] at e ⊢
      have := h.cells (g := g) rfl _ u e
      rw [addr0V] at this
      exact this
    rw [addr0V]
    exact ⟨key 0 (by decide), key 1 (by decide)⟩
theorem cells2V {w : World} {p : Addr} {t : Ev} (h : EvAt w p t) (hs : p.spot = none) : ∀ j u, (evC t)[j]? = some u → w.cell? (p.add j) = some u := by
  obtain ⟨b, o, s⟩ := p
  subst hs
  intro j u hj
  match j, hj with
  | 0, hj => simp [evC] at hj; subst hj; simpa [Addr.add] using h.c0
  | 1, hj => simp [evC] at hj; subst hj; simpa [Addr.add] using h.c1
  | j + 2, hj => simp [evC] at hj
theorem evAt_new (w : World) (y : Ev) (T : TypeId) : EvAt (w.alloc (.cells #[.int .i64 y.1, .int .u32 y.2] T)) ⟨w.heap.size, 0, none⟩ y := by
  have h := HasB.new w T (evC y)
  exact ⟨h.cell 0, h.cell 1⟩
theorem ev_made {w : World} {x : Addr} {len cap : Nat} (hl : len ≤ cap) (hm : cap ≤ maxLen) (key : ∀ i, i < len → ∃ t : Ev, evWf t ∧ EvAt w (x.add (i * 2)) t) : ∃ l : List Ev, len = l.length ∧ EvRow w (some x) cap l := by
  classical
  obtain ⟨f, hf⟩ : ∃ f : Nat → Ev, ∀ i, i < len → evWf (f i) ∧ EvAt w (x.add (i * 2)) (f i) := by
    refine ⟨fun i => if h : i < len then Classical.choose (key i h) else (0, 0), fun i hi => ?_⟩
    simp only [dif_pos hi]
    exact Classical.choose_spec (key i hi)
  refine ⟨(List.range len).map f, by simp, by simpa using hl, hm, fun y hy => ?_, fun hn => ⟨x, rfl, ?_, fun i hi => ?_⟩⟩
  · obtain ⟨i, hi, rfl⟩ := List.mem_map.1 hy
    exact (hf i (List.mem_range.1 hi)).1
  · have h0 : 0 < len := by
      rcases Nat.eq_zero_or_pos len with h | h
      · subst h; exact absurd rfl hn
      · exact h
    have := block_of_cell (hf 0 h0).2.c0
    rwa [block_add] at this
  · have hi' : i < len := by simpa using hi
    have e : ((List.range len).map f).getD i (0, 0) = f i := by simp [List.getD, hi']
    rw [e]
    exact (hf i hi').2

set_option maxRecDepth 100000 in
theorem evrow_of {H : Type} {enc : TypeId × Value → H} {w : World} {base : Nat} {spare : Nat → Bool} {held : Bool} {a : Option Addr} {len cap : Nat} {d : DataW H} {ps : List MemPlace}
    (h : DataW.Trod enc Try.prog w base spare held 47 (.slice a len cap) d ps) : ∃ l : List Ev, len = l.length ∧ EvRow w a cap l := by
  obtain ⟨fuel, hf⟩ := h
  have hC : Try.prog.cellsOf 48 = 2 := by kernel_rfl
  have k3 : Try.prog.cellsOf 3 = 1 := by kernel_rfl
  have k4 : Try.prog.cellsOf 22 = 1 := by kernel_rfl
  rcases Go.Deep.open_slice Try.underlying47 hf with ⟨hcs, _⟩ | ⟨x, len', cap', m, n, D, Pl, hcs, hb, hl, hm, hmm, _, hi⟩
  · simp [Value.cells] at hcs
    obtain ⟨rfl, rfl, rfl⟩ := hcs
    exact ⟨[], rfl, evRow_nil w⟩
  · simp [Value.cells] at hcs
    obtain ⟨rfl, rfl, rfl⟩ := hcs
    have hlm : len ≤ m := by rw [hmm]; split <;> omega
    rw [hC] at hi
    refine ev_made hl hm (fun i hil => ?_)
    obtain ⟨cs', hc, ht⟩ := hi i (by omega)
    obtain ⟨_, hcl, hat⟩ := World.cells?_some hc
    obtain ⟨xs, n', _, _, _, _, hfs⟩ := DataW.trod_struct Try.underlying48 ht
    match cs', hcl with
    | [y0, y1], _ =>
      have f0 : DataW.trod enc Try.prog w base spare held n' 3 (([y0, y1].drop 0).take (Try.prog.cellsOf 3)) = xs[0]? := hfs 0 _ rfl
      have f1 : DataW.trod enc Try.prog w base spare held n' 22 (([y0, y1].drop 1).take (Try.prog.cellsOf 22)) = xs[1]? := hfs 1 _ rfl
      simp only [k3, k4, List.drop_zero, List.drop_succ_cons, List.take_succ_cons, List.take_zero] at f0 f1
      have some_of : ∀ j, j < 2 → ∃ y, xs[j]? = some y := fun j hj => ⟨xs[j]'(by simp_all), List.getElem?_eq_getElem _⟩
      obtain ⟨r0, q0⟩ := some_of 0 (by decide)
      obtain ⟨r1, q1⟩ := some_of 1 (by decide)
      obtain ⟨v0, e0, _, g0⟩ := DataW.trod_int Try.underlying3 (f0.trans q0)
      obtain ⟨v1, e1, _, g1⟩ := DataW.trod_int Try.underlying22 (f1.trans q1)
      simp only [List.cons.injEq, and_true] at e0 e1
      subst e0 e1
      have h0 := hat 0 (by decide)
      have h1 := hat 1 (by decide)
      simp only [List.getElem?_cons_succ, List.getElem?_cons_zero] at h0 h1
      have ad : ∀ n, (x.add (i * 2)).add (n + 1) = ⟨(x.add (i * 2)).block, (x.add (i * 2)).off + (n + 1), none⟩ := fun n => by generalize x.add (i * 2) = y; unfold Addr.add; simp
      rw [ad 0] at h1
      have e00 : (x.add (i * 2)).add 0 = x.add (i * 2) := by simp [Addr.add]
      rw [e00] at h0
      exact ⟨(v0, v1), ⟨bounds_i64 g0, bounds_u32 g1⟩, ⟨h0, h1⟩⟩
theorem below_drewV {B : Nat} {w w' : World} (h : Below B w w') : Below B w w'.drew := ⟨h.os, h.tape, h.output, h.size, h.block⟩
theorem own_belowV {A B : World} {base size n : Nat} {e : TypeId} {v : Value} {xs : List Value} (h : A.ownsRow base e size v n xs) (b : Below A.heap.size A B) : B.ownsRow base e size v n xs := by
  refine h.kept (row := none) ⟨b.os, b.tape, b.output, b.size, fun k hk _ => b.block k hk⟩ ?_
  rcases h.2 with ⟨rfl, _⟩ | ⟨g, cap, cur, rfl, _, hgb, _⟩
  · exact .inl rfl
  · exact .inr (fun e' => by cases e')
theorem own_alV {A : World} {base size n : Nat} {e : TypeId} {v : Value} {xs : List Value} (h : A.ownsRow base e size v n xs) (o : Obj) : (A.alloc o).ownsRow base e size v n xs := own_belowV h ((Below.refl _ _).alloc (Nat.le_refl _) o)
theorem below_of_ownV {w w' : World} {base e size n : Nat} {v : Value} {xs : List Value} (h : w.ownsRow base e size v n xs) (hb : base ≤ w.heap.size) (hg : w.grownBy w' v.ownBlock) : Below base w w' :=
  (Below.refl base w).grown hg hb (fun k hk => (h.lt k hk).1)
theorem append_ev {w : World} {ops : Array Oper} {rest : List Oper} {o : Oper} {a : Act} {Q : Exit → Act → World → Prop} (hgd : o.guard = none) (s x : Operand)
    (ho : o.op = .call { callee := .builtin .append, args := #[s, x], argTypes := #[38, 38] })
    (base : Nat) (v : Value) (n : Nat) (L : List Ev) (hs : a.eval s = v) (hown : w.ownsRow base 45 2 v n (L.flatMap evC)) (hW : ∀ x ∈ L, evWf x)
    (g c : Nat) (y : Ev) (hx : a.eval x = .slice (some ⟨g, 0, none⟩) 1 c) (hT : EvAt w ⟨g, 0, none⟩ y) (hy : evWf y) (n' : Nat) (hn' : n' = n + 1) (hlen : n ≤ 100000) (hbase : base ≤ w.heap.size)
    (h : ∀ A' cap' w', w'.ownsRow base 45 2 (.slice A' n' cap') n' ((L ++ [y]).flatMap evC) → w.grownBy w' v.ownBlock → EvRow w' A' cap' (L ++ [y]) → Below base w w' → wpList Try.prog ops Q rest (a.put o.dst (.slice A' n' cap')) w') :
    wpList Try.prog ops Q (o :: rest) a w := by
  subst hn'
  obtain ⟨u0, hu0, hz0, hz1, hz2⟩ := info_parts ev_info
  refine wpList_append_own w hgd s x 38 ho base 45 u0 _ 2 16 Try.underlying38 hu0 hz0 hz1 hz2 rfl (by decide) v n (L.flatMap evC) hs hown ⟨g, 0, none⟩ 1 c (evC y) hx rfl
    (cells2V hT rfl) (evC_one y) (by unfold maxLen; omega) (by omega) hbase ?_
  intro v' w' hown' hg _
  have hown' : w'.ownsRow base 45 2 v' (n + 1) ((L ++ [y]).flatMap evC) := by rw [flatV_app, flatV_one]; exact hown'
  obtain ⟨A', cap', rfl, _, hrow⟩ := ev_of_own hown' (fun x hx => by
    rcases List.mem_append.1 hx with k | k
    · exact hW x k
    · simp at k; subst k; exact hy)
  exact h A' cap' w' hown' hg hrow (below_of_ownV hown hbase hg)
end Go.Proofs.Ytjfhoaahohinhaa.Mm
