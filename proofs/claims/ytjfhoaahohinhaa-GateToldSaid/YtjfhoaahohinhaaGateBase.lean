/- Rows of numbers of a kind; what a gate does, as sums (chapter 12). -/
import Derived.Test.YtjfhoaahohinhaaGateRow
import Derived.Test.YtjfhoaahohinhaaStA
namespace Go.Proofs.Ytjfhoaahohinhaa.Mm
open Go.ChangeShapes Go.WideShapes Go.ChangeAt Go.RowKit
set_option linter.unusedVariables false

/-- a slice that reads as numbers of kind k -/
def KRow (k : IntKind) (w : World) (A : Option Addr) (cap : Nat) (l : List Int) : Prop :=
  l.length ≤ cap ∧ cap ≤ maxLen ∧ (∀ x ∈ l, (Lit.int k x).wf = true) ∧ (l ≠ [] → ∃ p, A = some p ∧ p.block < w.heap.size ∧ ∀ i, i < l.length → w.cell? (p.add i) = some (.int k (l.getD i 0)))
theorem KRow.below {k : IntKind} {w w' : World} {A : Option Addr} {cap : Nat} {l : List Int} (h : KRow k w A cap l) (b : Below w.heap.size w w') : KRow k w' A cap l := by
  obtain ⟨h1, h2, h3, h4⟩ := h
  refine ⟨h1, h2, h3, fun hn => ?_⟩
  obtain ⟨p, hp, hb, hc⟩ := h4 hn
  exact ⟨p, hp, Nat.lt_of_lt_of_le hb b.size, fun i hi => by rw [b.cell (by rw [block_add]; exact hb)]; exact hc i hi⟩
theorem kRow_nil (k : IntKind) (w : World) : KRow k w none 0 [] := ⟨Nat.le_refl _, Nat.zero_le _, fun x hx => (by cases hx), fun h => absurd rfl h⟩
theorem KRow.at {k : IntKind} {w : World} {A : Option Addr} {cap : Nat} {l : List Int} (h : KRow k w A cap l) {i : Nat} (hi : i < l.length) : ∃ p, A = some p ∧ w.cell? (p.add i) = some (.int k (l.getD i 0)) ∧ (Lit.int k (l.getD i 0)).wf = true := by
  obtain ⟨p, hp, _, hc⟩ := h.2.2.2 (by intro e; rw [e] at hi; simp at hi)
  exact ⟨p, hp, hc i hi, h.2.2.1 _ (by rw [List.getD_eq_getElem?_getD, List.getElem?_eq_getElem hi]; exact List.getElem_mem _)⟩
theorem krow_of {H : Type} {enc : TypeId × Value → H} {P : Program} {k : IntKind} {w : World} {base : Nat} {spare : Nat → Bool} {held : Bool} {t e : TypeId} {a : Option Addr} {len cap : Nat} {d : DataW H} {ps : List MemPlace}
    (ht : P.underlying t = some (.slice e)) (he : P.underlying e = some (.int k)) (hc : P.cellsOf e = 1) (h : DataW.Trod enc P w base spare held t (.slice a len cap) d ps) :
    ∃ l : List Int, len = l.length ∧ KRow k w a cap l := by
  obtain ⟨fuel, hf⟩ := h
  rcases open_ints ht he hc hf with ⟨hcs, _⟩ | ⟨x, l, c, zs, hcs, _, hl, hm, hz, _, hcell, hwz⟩
  · simp [Value.cells] at hcs
    obtain ⟨rfl, rfl, rfl⟩ := hcs
    exact ⟨[], rfl, kRow_nil k w⟩
  · simp [Value.cells] at hcs
    obtain ⟨rfl, rfl, rfl⟩ := hcs
    have hlz : len ≤ zs.length := by rw [hz]; split <;> omega
    have hln : (zs.take len).length = len := by rw [List.length_take]; omega
    refine ⟨zs.take len, hln.symm, by omega, hm, fun n hn => hwz n (List.mem_of_mem_take hn), fun hne => ⟨x, rfl, ?_, fun i hi => ?_⟩⟩
    · have h0 : 0 < (zs.take len).length := List.length_pos_iff.2 hne
      have := block_of_cell (hcell 0 (by omega))
      rwa [block_add] at this
    · rw [hln] at hi
      rw [hcell i (by omega)]
      simp [List.getD, hi]
theorem u32row_of {H : Type} {enc : TypeId × Value → H} {w : World} {base : Nat} {spare : Nat → Bool} {held : Bool} {a : Option Addr} {len cap : Nat} {d : DataW H} {ps : List MemPlace}
    (h : DataW.Trod enc Try.prog w base spare held 37 (.slice a len cap) d ps) : ∃ l : List Int, len = l.length ∧ KRow .u32 w a cap l :=
  krow_of Try.underlying37 Try.underlying22 (by kernel_rfl) h
theorem introw_of {H : Type} {enc : TypeId × Value → H} {w : World} {base : Nat} {spare : Nat → Bool} {held : Bool} {a : Option Addr} {len cap : Nat} {d : DataW H} {ps : List MemPlace}
    (h : DataW.Trod enc Try.prog w base spare held 53 (.slice a len cap) d ps) : ∃ l : List Int, len = l.length ∧ KRow .i64 w a cap l :=
  krow_of Try.underlying53 Try.underlying3 (by kernel_rfl) h

/-- what a sandbox is told, and tells -/
structure Wd where
  rep : List Int
  tk : Int
  tr : List Ev
  ov : Bool
  cd : Int
def Wd.val (W : Wd) (RA : Option Addr) (rc : Nat) (TA : Option Addr) (tc : Nat) : Value := .agg #[.slice RA W.rep.length rc, .int .i64 W.tk, .slice TA W.tr.length tc, .bool W.ov, .int .u32 W.cd]
/-- so many bytes lie in the upper half -/
def ownsB (b s at_ n : Int) : Bool := decide (b + s / 2 ≤ at_) && decide (at_ + n ≤ b + s / 2 + s / 2)
def repV (W : Wd) : Int := if max W.tk 0 < W.rep.length then W.rep.getD (max W.tk 0).toNat 0 else 0
def repT (W : Wd) : Int := if max W.tk 0 < W.rep.length then max W.tk 0 + 1 else max W.tk 0
/-- what a gate does -/
def gateS (c : Cp) (sum : Int) (W : Wd) (n : Int) : Cp × Wd :=
  if W.ov = true then (c, W)
  else if n = 0 then (c, { W with ov := true, cd := c.reg 0, tr := W.tr ++ [(0, c.reg 0)] })
  else if n = 1 then (c, { W with tr := W.tr ++ [(1, c.reg 0)] })
  else if n = 2 then (c.setR 0 (repV W), { W with tk := repT W, tr := W.tr ++ [(2, repV W)] })
  else if n = 3 then (c.setR 0 sum, { W with tr := W.tr ++ [(3, sum)] })
  else (c, W)
theorem gateS_over (c : Cp) (sum : Int) (W : Wd) (n : Int) (h : W.ov = true) : gateS c sum W n = (c, W) := by unfold gateS; rw [if_pos h]
end Go.Proofs.Ytjfhoaahohinhaa.Mm
