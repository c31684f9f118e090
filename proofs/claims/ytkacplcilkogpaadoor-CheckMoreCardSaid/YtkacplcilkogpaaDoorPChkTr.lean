/- A tree of a statement's own: its declarations and nodes are appended to. -/
import Derived.Test.YtkacplcilkogpaaDoorPChkAwake
import Derived.Test.YtkacplcilkogpaaDoorPChkRef
namespace Go.Proofs.YtkacplcilkogpaaDoor.Mm
open Go.ChangeShapes Go.WideShapes Go.ChangeAt Go.RowKit
set_option linter.unusedVariables false
set_option linter.unusedSimpArgs false
set_option maxRecDepth 10000

theorem own_grown {w w' : World} {base size n : Nat} {r : Option Nat} {e : TypeId} {v : Value} {xs : List Value} (h : w.ownsRow base e size v n xs) (g : w.grownBy w' r) (hr : v.ownBlock = none ∨ v.ownBlock ≠ r) : w'.ownsRow base e size v n xs := by
  refine ⟨h.1, ?_⟩
  rcases h.2 with hn | ⟨b, cap, cur, rfl, hb, hgg, rest⟩
  · exact .inl hn
  · refine .inr ⟨b, cap, cur, rfl, hb, ?_, rest⟩
    rw [g.block b (Array.getElem?_eq_some_iff.1 hgg).1 (by simpa [Value.ownBlock] using hr)]
    exact hgg
theorem own_setj {w : World} {base size n j i : Nat} {x : Value} {e : TypeId} {v : Value} {xs : List Value} (h : w.ownsRow base e size v n xs) (hr : some j ≠ v.ownBlock) : (w.setCell ⟨j, i, none⟩ x).ownsRow base e size v n xs := by
  refine ⟨h.1, ?_⟩
  rcases h.2 with hn | ⟨b, cap, cur, rfl, hb, hgg, rest⟩
  · exact .inl hn
  · refine .inr ⟨b, cap, cur, rfl, hb, ?_, rest⟩
    simp only [World.setCell, Array.getElem?_modify]
    rw [if_neg (fun e => hr (by rw [e]; rfl))]
    exact hgg
structure TrS (w0 : World) (j : Nat) (dv : Value) (D : List Dc) (nv : Value) (N : List (NdR × Value)) (w : World) : Prop where
  h : HasB w j 28 [dv, nv, .int .i64 0]
  j : w0.heap.size ≤ j
  d : DcO w w0.heap.size dv D
  n : NdO w w0.heap.size nv N
  b : Below w0.heap.size w0 w
theorem TrS.bel {w0 w w' : World} {j : Nat} {dv nv : Value} {D : List Dc} {N : List (NdR × Value)} (t : TrS w0 j dv D nv N w) (b : Below w.heap.size w w') : TrS w0 j dv D nv N w' :=
  ⟨t.h.below b, t.j, own_belowP t.d b, own_belowP t.n b, t.b.trans (b.mono t.b.size)⟩
theorem TrS.new (w0 w : World) (b : Below w0.heap.size w0 w) : TrS w0 w.heap.size (.slice none 0 0) [] (.slice none 0 0) [] (w.alloc (.cells #[.slice none 0 0, .slice none 0 0, .int .i64 0] 28)) :=
  ⟨HasB.new w _ _, b.size, World.ownsRow_nil _ _ _ _, World.ownsRow_nil _ _ _ _, bel_al b _⟩
/-- a declaration more: its row has grown, its cell is set -/
theorem TrS.dec {w0 w w' : World} {j : Nat} {dv dv' nv : Value} {D D' : List Dc} {N : List (NdR × Value)} (t : TrS w0 j dv D nv N w) (O : DcO w' w0.heap.size dv' D') (g : w.grownBy w' dv.ownBlock) :
    TrS w0 j dv' D' nv N (w'.setCell ⟨j, 0, none⟩ dv') ∧ w'.cell? ⟨j, 0, none⟩ = some dv ∧ w'.frozen? ⟨j, 0, none⟩ = false ∧ Below w0.heap.size w0 w' := by
  have hj : some j ≠ dv.ownBlock := own_neB t.d t.h (by decide)
  have h' := t.h.grown g hj
  have b' := t.b.grown g t.b.size (fun k hk => (t.d.lt k hk).1)
  refine ⟨⟨has_set h' 0 dv', t.j, own_setj O (own_neB O h' (by decide)), ?_, b'.setCell (p := ⟨j, 0, none⟩) t.j dv'⟩, h'.cell 0, h'.frozen 0, b'⟩
  have n' := own_grown t.n g (own_ne t.n t.d (by decide))
  exact own_setj n' (own_neB n' h' (by decide))
theorem TrS.nod {w0 w w' : World} {j : Nat} {dv nv nv' : Value} {D : List Dc} {N N' : List (NdR × Value)} (t : TrS w0 j dv D nv N w) (O : NdO w' w0.heap.size nv' N') (g : w.grownBy w' nv.ownBlock) :
    TrS w0 j dv D nv' N' (w'.setCell ⟨j, 1, none⟩ nv') ∧ w'.cell? ⟨j, 1, none⟩ = some nv ∧ w'.frozen? ⟨j, 1, none⟩ = false ∧ Below w0.heap.size w0 w' := by
  have hj : some j ≠ nv.ownBlock := own_neB t.n t.h (by decide)
  have h' := t.h.grown g hj
  have b' := t.b.grown g t.b.size (fun k hk => (t.n.lt k hk).1)
  refine ⟨⟨has_set h' 1 nv', t.j, ?_, own_setj O (own_neB O h' (by decide)), b'.setCell (p := ⟨j, 1, none⟩) t.j nv'⟩, h'.cell 1, h'.frozen 1, b'⟩
  have d' := own_grown t.d g (own_ne t.d t.n (by decide))
  exact own_setj d' (own_neB d' h' (by decide))
/-- a node of a kind, with a name -/
def ndK (k : Int) (t : Bs) : NdR × Value := (⟨k, 0, 0, 0, t, 0, []⟩, .slice none 0 0)
theorem own_0 {w : World} {b size n : Nat} {e : TypeId} {v : Value} {xs : List Value} (h : w.ownsRow b e size v n xs) : w.ownsRow 0 e size v n xs := own_base h
theorem rightT {w0 w : World} {j : Nat} {dv nv : Value} {D : List Dc} {N : List (NdR × Value)} (t : TrS w0 j dv D nv N w) (hl : D.length ≤ 100000) (hs : ∀ d ∈ D, d.1.length ≤ 100000) (hn : N.length ≤ 100000) (hN : ∀ p ∈ N, ∃ A l c, p.2 = .slice A l c) (b : Int) :
    Calls Tryd.prog 8 #[treeV dv nv b] w fun e w' => e = .returned (.int .i64 (rightE D (usN N))) ∧ Below w.heap.size w w' :=
  right_any dv nv b D N w (own_0 t.d) ⟨own_0 t.n, hN⟩ hl hs hn
end Go.Proofs.YtkacplcilkogpaaDoor.Mm
