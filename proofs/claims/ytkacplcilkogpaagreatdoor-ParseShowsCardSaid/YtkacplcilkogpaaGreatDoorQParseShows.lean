/- The statement ParseShows, walked. -/
import Derived.Test.YtkacplcilkogpaaGreatDoorQPrsLaid
import Derived.Test.YtkacplcilkogpaaGreatDoorQShsPar
namespace Go.Proofs.YtkacplcilkogpaaGreatDoor.Mm
open Go.ChangeShapes Go.WideShapes Go.ChangeAt Go.RowKit
set_option linter.unusedVariables false
set_option linter.unusedSimpArgs false
set_option maxRecDepth 10000

abbrev IntO (w : World) (B : Nat) (v : Value) (L : List Int) : Prop := w.ownsRow B 3 1 v L.length (L.map (Value.int .i64))
theorem empty_int (w : World) : IntO (w.alloc (.cells #[] 3)) w.heap.size (.slice (some ⟨w.heap.size, 0, none⟩) 0 0) [] :=
  World.ownsRow_lit (size := 1) (base := w.heap.size) (e := 3) w #[] 0 (by simp) (by unfold maxLen; omega) rfl
theorem append_nilI {w : World} {base : Nat} {ty : TypeId} {v : Value} {n : Nat} {xs : List Value} (hown : w.ownsRow base 3 1 v n xs) (c : Nat) :
    (Builtin.append_ #[33, 33] ty #[v, .slice none 0 c]).run Tryz.prog w = .ok v w := by
  obtain ⟨u0, hu0, hz0, hz1, hz2⟩ := info_parts in_info
  rcases hown.2 with ⟨rfl, rfl⟩ | ⟨g, cap, cur, rfl, _, _, hnc, _⟩
  · simp [Builtin.append_, run_underlying Tryz.underlying33, sizeOf, typeInfo, hu0, Builtin.lenOf, Builtin.firstCells]
  · simp [Builtin.append_, run_underlying Tryz.underlying33, sizeOf, typeInfo, hu0, Builtin.lenOf, Builtin.firstCells, hnc, storeCells]
theorem app_intL {B : Nat} {w : World} {v : Value} {A : Option Addr} {cap : Nat} {L : List Int} {ops : Array Oper} {rest : List Oper} {o : Oper} {a : Act} {Q : Exit → Act → World → Prop} (hgd : o.guard = none) (s x : Operand)
    (ho : o.op = .call { callee := .builtin .append, args := #[s, x], argTypes := #[33, 33] })
    (O : IntO w B v []) (hs : a.eval s = v) (hx : a.eval x = .slice A L.length cap) (hc : ∀ j, j < L.length → ∃ z, A = some z ∧ w.cell? (z.add j) = some (.int .i64 (L.getD j 0))) (hn : L.length ≤ 1000) (hB : B ≤ w.heap.size)
    (h : ∀ v' w', IntO w' B v' L → w.grownBy w' v.ownBlock → wpList Tryz.prog ops Q rest (a.put o.dst v') w') : wpList Tryz.prog ops Q (o :: rest) a w := by
  obtain ⟨u0, hu0, hz0, hz1, hz2⟩ := info_parts in_info
  cases A with
  | none =>
    obtain rfl : L = [] := by
      cases L with
      | nil => rfl
      | cons z r => obtain ⟨_, e, _⟩ := hc 0 (by simp); cases e
    refine wpList_plain hgd fun K hK => ?_
    unfold Oper.wp execOp
    simp only [ho, resolve, invoke, builtin, Sem.run_bind, Sem.run_pure, Result.andThen_ok, List.map_toArray, List.map_cons, List.map_nil, hs, hx, List.length_nil, append_nilI O cap]
    exact hK _ _ (h v w O ⟨rfl, rfl, rfl, Nat.le_refl _, fun _ _ _ => rfl⟩)
  | some ad =>
    refine wpList_append_own_at w hgd s x 33 ho B 3 u0 _ 1 8 Tryz.underlying33 hu0 hz0 hz1 hz2 rfl (by decide) v 0 [] hs O ad L.length cap (L.map (Value.int .i64)) hx (by simp)
      (fun j u hj => ?_) (ints_oneCell .i64 L) (by unfold maxLen; omega) (by omega) hB ?_
    · have hjl : j < L.length := by
        rcases Nat.lt_or_ge j L.length with h | h
        · exact h
        · rw [List.getElem?_eq_none (by simpa using h)] at hj; cases hj
      obtain ⟨z, e, hz⟩ := hc j hjl
      injection e with e; subst e
      rw [hz, ← map_get hjl, hj]
    · intro v' w' hown' hg _ _
      exact h v' w' (by simpa using hown') hg
/-- what a node that isn't there is shown as -/
theorem show_ask {G : List NdR} {b : Int} (h : b < 0 ∨ (G.length : Int) ≤ b) : showB [] G b = [63] := by
  unfold showB
  rw [node_no (by rcases h with h | h; exact .inl h; exact .inr (.inl h))]
  rfl
end Go.Proofs.YtkacplcilkogpaaGreatDoor.Mm
