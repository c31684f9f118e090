/- Rows of words, of a call's own. -/
import Derived.Test.YtnlanaompaaijaaDoorBaM
import Derived.Test.YtnlanaompaaijaaDoorLexMath2
import Derived.Deep.Slices
import Derived.Deep.Fields
import Derived.ChangeSame
namespace Go.Proofs.YtnlanaompaaijaaDoor.Mm
open Go.ChangeShapes Go.WideShapes Go.ChangeAt Go.RowKit
set_option linter.unusedVariables false

def strB (l : Bs) : ByteArray := ⟨l.toArray⟩
theorem strB_toList (l : Bs) : (strB l).data.toList = l := rfl
theorem strB_size (l : Bs) : (strB l).size = l.length := by show (l.toArray).size = _; simp
theorem strB_of (s : ByteArray) : strB s.data.toList = s := by unfold strB; simp
def pcC (x : Pc) : List Value := [.int .u8 x.1, .string (strB x.2.1), .int .u32 x.2.2]
structure PcAt (w : World) (p : Addr) (x : Pc) : Prop where
  c0 : w.cell? p = some (.int .u8 x.1)
  c1 : w.cell? ⟨p.block, p.off + 1, none⟩ = some (.string (strB x.2.1))
  c2 : w.cell? ⟨p.block, p.off + 2, none⟩ = some (.int .u32 x.2.2)
def pc0 : Pc := (0, [], 0)
/-- a slice that reads as words -/
def PcRow (w : World) (A : Option Addr) (cap : Nat) (l : List Pc) : Prop :=
  l.length ≤ cap ∧ cap ≤ maxLen ∧ (∀ x ∈ l, WordOk x) ∧ (l ≠ [] → ∃ p, A = some p ∧ p.block < w.heap.size ∧ ∀ i, i < l.length → PcAt w (p.add (i * 3)) (l.getD i pc0))
theorem PcAt.below {w w' : World} {p : Addr} {x : Pc} (h : PcAt w p x) (hp : p.block < w.heap.size) (b : Below w.heap.size w w') : PcAt w' p x :=
  ⟨by rw [b.cell hp]; exact h.c0, (b.cell (p := ⟨p.block, p.off + 1, none⟩) hp).trans h.c1, (b.cell (p := ⟨p.block, p.off + 2, none⟩) hp).trans h.c2⟩
theorem PcRow.below {w w' : World} {A : Option Addr} {cap : Nat} {l : List Pc} (h : PcRow w A cap l) (b : Below w.heap.size w w') : PcRow w' A cap l := by
  obtain ⟨h1, h2, h3, h4⟩ := h
  refine ⟨h1, h2, h3, fun hn => ?_⟩
  obtain ⟨p, hp, hb, hc⟩ := h4 hn
  exact ⟨p, hp, Nat.lt_of_lt_of_le hb b.size, fun i hi => (hc i hi).below (by rw [block_add]; exact hb) b⟩
theorem pcRow_nil (w : World) : PcRow w none 0 [] := ⟨Nat.le_refl _, Nat.zero_le _, fun x hx => (by cases hx), fun h => absurd rfl h⟩
theorem flatP_len (L : List Pc) : (L.flatMap pcC).length = L.length * 3 := by
  induction L with
  | nil => rfl
  | cons x t ih => rw [List.flatMap_cons, List.length_append, ih, List.length_cons]; show 3 + _ = _; omega
theorem flatP_get (L : List Pc) : ∀ i, i < L.length → ∀ j, j < 3 → (L.flatMap pcC)[i * 3 + j]? = (pcC (L.getD i pc0))[j]? := by
  induction L with
  | nil => intro i hi; simp at hi
  | cons x t ih =>
    intro i hi j hj
    rw [List.flatMap_cons]
    cases i with
    | zero => rw [List.getElem?_append_left (by show _ < 3; omega)]; simp
    | succ i =>
      rw [List.getElem?_append_right (by show 3 ≤ _; omega)]
      rw [show (i + 1) * 3 + j - (pcC x).length = i * 3 + j by show (i + 1) * 3 + j - 3 = _; omega, ih i (by simp at hi; omega) j hj]
      simp
theorem flatP_app (L M : List Pc) : (L ++ M).flatMap pcC = L.flatMap pcC ++ M.flatMap pcC := by simp
theorem flatP_one (x : Pc) : [x].flatMap pcC = pcC x := by simp
theorem pcC_one (x : Pc) : ∀ u ∈ pcC x, u.oneCell' = true := by
  intro u hu
  simp only [pcC, List.mem_cons, List.not_mem_nil, or_false] at hu
  rcases hu with rfl | rfl | rfl <;> rfl
theorem pc_info : (Tryd.prog.info? 29).map (fun i => (i.zero, i.size, i.bytes)) = some (some (.agg #[.int .u8 0, .string ⟨#[]⟩, .int .u32 0]), 3, 32) := by kernel_rfl
theorem addr0P (g k : Nat) : (⟨g, 0, none⟩ : Addr).add k = ⟨g, k, none⟩ := by
  unfold Addr.add
  by_cases h0 : k = 0
  · subst h0; rfl
  · rw [if_neg h0]; simp
theorem pc_of_own {T : TypeId} {w : World} {base n : Nat} {v : Value} {L : List Pc} (h : w.ownsRow base T 3 v n (L.flatMap pcC)) (hw : ∀ x ∈ L, WordOk x) : ∃ A cap, v = .slice A n cap ∧ n = L.length ∧ PcRow w A cap L := by
  have hl : L.length = n := by have := h.1; rw [flatP_len] at this; omega
  rcases h.2 with ⟨rfl, rfl⟩ | ⟨g, cap, cur, rfl, _, hh, hc, hm, _⟩
  · have : L = [] := List.eq_nil_of_length_eq_zero hl
    subst this
    exact ⟨none, 0, rfl, rfl, pcRow_nil w⟩
  · refine ⟨_, cap, rfl, hl.symm, by omega, hm, hw, fun hne => ⟨_, rfl, (h.lt g rfl).2, fun i hi => ?_⟩⟩
    have key : ∀ j, j < 3 → w.cell? ⟨g, i * 3 + j, none⟩ = (pcC (L.getD i pc0))[j]? := fun j hj => by
      have e := flatP_get L i hi j hj
      have hs : ∃ u, (pcC (L.getD i pc0))[j]? = some u := ⟨_, List.getElem?_eq_getElem (show j < (pcC _).length from hj)⟩
      obtain ⟨u, hu⟩ := hs
      rw [hu] at e ⊢
      have := h.cells (g := g) rfl _ u e
      rw [addr0P] at this
      exact this
    rw [addr0P]
    exact ⟨key 0 (by decide), key 1 (by decide), key 2 (by decide)⟩
theorem cells3P {w : World} {p : Addr} {t : Pc} (h : PcAt w p t) (hs : p.spot = none) : ∀ j u, (pcC t)[j]? = some u → w.cell? (p.add j) = some u := by
  obtain ⟨b, o, s⟩ := p
  subst hs
  intro j u hj
  match j, hj with
  | 0, hj => simp [pcC] at hj; subst hj; simpa [Addr.add] using h.c0
  | 1, hj => simp [pcC] at hj; subst hj; simpa [Addr.add] using h.c1
  | 2, hj => simp [pcC] at hj; subst hj; simpa [Addr.add] using h.c2
  | j + 3, hj => simp [pcC] at hj
theorem pcAt_new (w : World) (y : Pc) (T : TypeId) : PcAt (w.alloc (.cells #[.int .u8 y.1, .string (strB y.2.1), .int .u32 y.2.2] T)) ⟨w.heap.size, 0, none⟩ y := by
  have h := HasB.new w T (pcC y)
  exact ⟨h.cell 0, h.cell 1, h.cell 2⟩
theorem below_drewP {B : Nat} {w w' : World} (h : Below B w w') : Below B w w'.drew := ⟨h.os, h.tape, h.output, h.size, h.block⟩
theorem own_belowP {A B : World} {base size n : Nat} {e : TypeId} {v : Value} {xs : List Value} (h : A.ownsRow base e size v n xs) (b : Below A.heap.size A B) : B.ownsRow base e size v n xs := by
  refine h.kept (row := none) ⟨b.os, b.tape, b.output, b.size, fun k hk _ => b.block k hk⟩ ?_
  rcases h.2 with ⟨rfl, _⟩ | ⟨g, cap, cur, rfl, _, hgb, _⟩
  · exact .inl rfl
  · exact .inr (fun e' => by cases e')
theorem below_of_ownP {w w' : World} {base e size n : Nat} {v : Value} {xs : List Value} (h : w.ownsRow base e size v n xs) (hb : base ≤ w.heap.size) (hg : w.grownBy w' v.ownBlock) : Below base w w' :=
  (Below.refl base w).grown hg hb (fun k hk => (h.lt k hk).1)
theorem append_pc {w : World} {ops : Array Oper} {rest : List Oper} {o : Oper} {a : Act} {Q : Exit → Act → World → Prop} (hgd : o.guard = none) (s x : Operand)
    (ho : o.op = .call { callee := .builtin .append, args := #[s, x], argTypes := #[23, 23] })
    (base : Nat) (v : Value) (n : Nat) (L : List Pc) (hs : a.eval s = v) (hown : w.ownsRow base 29 3 v n (L.flatMap pcC)) (hW : ∀ x ∈ L, WordOk x)
    (g c : Nat) (y : Pc) (hx : a.eval x = .slice (some ⟨g, 0, none⟩) 1 c) (hT : PcAt w ⟨g, 0, none⟩ y) (hy : WordOk y) (n' : Nat) (hn' : n' = n + 1) (hlen : n ≤ 100000) (hbase : base ≤ w.heap.size)
    (h : ∀ A' cap' w', w'.ownsRow base 29 3 (.slice A' n' cap') n' ((L ++ [y]).flatMap pcC) → w.grownBy w' v.ownBlock → PcRow w' A' cap' (L ++ [y]) → Below base w w' → wpList Tryd.prog ops Q rest (a.put o.dst (.slice A' n' cap')) w') :
    wpList Tryd.prog ops Q (o :: rest) a w := by
  subst hn'
  obtain ⟨u0, hu0, hz0, hz1, hz2⟩ := info_parts pc_info
  refine wpList_append_own w hgd s x 23 ho base 29 u0 _ 3 32 Tryd.underlying23 hu0 hz0 hz1 hz2 rfl (by decide) v n (L.flatMap pcC) hs hown ⟨g, 0, none⟩ 1 c (pcC y) hx rfl
    (cells3P hT rfl) (pcC_one y) (by unfold maxLen; omega) (by omega) hbase ?_
  intro v' w' hown' hg _
  have hown' : w'.ownsRow base 29 3 v' (n + 1) ((L ++ [y]).flatMap pcC) := by rw [flatP_app, flatP_one]; exact hown'
  obtain ⟨A', cap', rfl, _, hrow⟩ := pc_of_own hown' (fun x hx => by
    rcases List.mem_append.1 hx with k | k
    · exact hW x k
    · simp at k; subst k; exact hy)
  exact h A' cap' w' hown' hg hrow (below_of_ownP hown hbase hg)

/-- the two errors of the library that a number may come to hold what is no nil -/
def ErrV (w : World) : Prop := ∃ t0 p0 t1 p1, w.var? Tryd.prog "strconv.ErrSyntax" = some #[.iface t0 p0] ∧ w.var? Tryd.prog "strconv.ErrRange" = some #[.iface t1 p1]
theorem var_below {w w' : World} {n : String} {cs : Array Value} (h : w.var? Tryd.prog n = some cs) (b : Below w.heap.size w w') : w'.var? Tryd.prog n = some cs := by
  unfold World.var? at h ⊢
  cases hg : Tryd.prog.globalNamed n with
  | none => rw [hg] at h; cases h
  | some g =>
    simp only [hg, Option.bind_some] at h ⊢
    have hlt : g < w.heap.size := by
      rcases Nat.lt_or_ge g w.heap.size with h' | h'
      · exact h'
      · rw [Array.getElem?_eq_none h'] at h; cases h
    rw [b.block g hlt]
    exact h
theorem ErrV.below {w w' : World} (h : ErrV w) (b : Below w.heap.size w w') : ErrV w' := by
  obtain ⟨t0, p0, t1, p1, h0, h1⟩ := h
  exact ⟨t0, p0, t1, p1, var_below h0 b, var_below h1 b⟩
end Go.Proofs.YtnlanaompaaijaaDoor.Mm
