/- Declarations, nodes and names appended to rows of a call's own. -/
import Derived.Test.YtkacplcilkogpaaDoorPChkKinds
namespace Go.Proofs.YtkacplcilkogpaaDoor.Mm
open Go.ChangeShapes Go.WideShapes Go.ChangeAt Go.RowKit
set_option linter.unusedVariables false
set_option linter.unusedSimpArgs false
set_option maxRecDepth 10000

abbrev StO (w : World) (B : Nat) (v : Value) (L : List Bs) : Prop := w.ownsRow B 9 1 v L.length (L.map strV)
theorem str_info : (Tryd.prog.info? 9).map (fun i => (i.zero, i.size, i.bytes)) = some (some (.string ByteArray.empty), 1, 16) := by kernel_rfl
theorem dcC_one (y : Dc) : ∀ u ∈ dcC y, u.oneCell' = true := by
  intro u hu
  simp only [dcC, List.mem_cons, List.not_mem_nil, or_false] at hu
  rcases hu with rfl | rfl <;> rfl
theorem app_dcO {Q : Exit → Act → World → Prop} {B : Nat} {w : World} {v : Value} {D : List Dc} {o : Oper} {a : Act} {K : Act → World → Prop} (s x : Operand)
    (ho : o.op = .call { callee := .builtin .append, args := #[s, x], argTypes := #[25, 25] })
    (O : DcO w B v D) (hs : a.eval s = v) (y : Dc) (q : Nat) (hx : a.eval x = .slice (some ⟨q, 0, none⟩) 1 1) (hq : HasB w q 31 (dcC y)) (hn : D.length ≤ 100000) (hB : B ≤ w.heap.size)
    (h : ∀ v' w', DcO w' B v' (D ++ [y]) → w.grownBy w' v.ownBlock → Nw w v.ownBlock v'.ownBlock → v'.oneCell' = true → K (a.put o.dst v') w') : o.wp Tryd.prog a w K Q := by
  obtain ⟨u0, hu0, hz0, hz1, hz2⟩ := info_parts dc_info
  obtain ⟨v', w', hrun, r1, r2, _, r4⟩ := run_append_own_at (P := Tryd.prog) w B 25 o.type 31 u0 _ 2 24 Tryd.underlying25 hu0 hz0 hz1 hz2 rfl (by decide) v D.length _ O ⟨q, 0, none⟩ 1 1 (dcC y) rfl
    (cellsN hq) (dcC_one y) (by unfold maxLen; omega) (by omega) hB
  unfold Oper.wp
  simp [execOp, ho, resolve, invoke, builtin, hs, hx, hrun, Result.andThen]
  refine h v' w' ?_ r2 (r4.imp id (fun e => ⟨_, e, Nat.le_refl _⟩)) ?_
  · show w'.ownsRow B 31 2 v' (D ++ [y]).length ((D ++ [y]).flatMap dcC)
    rw [List.flatMap_append, List.length_append]
    simpa using r1
  · obtain ⟨A, c, rfl⟩ := own_form r1; rfl
theorem app_ndO {Q : Exit → Act → World → Prop} {B : Nat} {w : World} {v : Value} {N : List (NdR × Value)} {o : Oper} {a : Act} {K : Act → World → Prop} (s x : Operand)
    (ho : o.op = .call { callee := .builtin .append, args := #[s, x], argTypes := #[26, 26] })
    (O : NdO w B v N) (hs : a.eval s = v) (y : NdR × Value) (hy : y.2.oneCell' = true) (q : Nat) (hx : a.eval x = .slice (some ⟨q, 0, none⟩) 1 1) (hq : HasB w q 37 (ndP y)) (hn : N.length ≤ 100000) (hB : B ≤ w.heap.size)
    (h : ∀ v' w', NdO w' B v' (N ++ [y]) → w.grownBy w' v.ownBlock → Nw w v.ownBlock v'.ownBlock → v'.oneCell' = true → K (a.put o.dst v') w') : o.wp Tryd.prog a w K Q := by
  obtain ⟨u0, hu0, hz0, hz1, hz2⟩ := info_parts nd_info
  obtain ⟨v', w', hrun, r1, r2, _, r4⟩ := run_append_own_at (P := Tryd.prog) w B 26 o.type 37 u0 _ 7 80 Tryd.underlying26 hu0 hz0 hz1 hz2 rfl (by decide) v N.length _ O ⟨q, 0, none⟩ 1 1 (ndP y) rfl
    (cellsN hq) (ndC_one y.1 y.2 hy) (by unfold maxLen; omega) (by omega) hB
  unfold Oper.wp
  simp [execOp, ho, resolve, invoke, builtin, hs, hx, hrun, Result.andThen]
  refine h v' w' ?_ r2 (r4.imp id (fun e => ⟨_, e, Nat.le_refl _⟩)) ?_
  · show w'.ownsRow B 37 7 v' (N ++ [y]).length ((N ++ [y]).flatMap ndP)
    rw [List.flatMap_append, List.length_append]
    simpa using r1
  · obtain ⟨A, c, rfl⟩ := own_form r1; rfl
theorem app_strO {B : Nat} {w : World} {v : Value} {L : List Bs} {ops : Array Oper} {rest : List Oper} {o : Oper} {a : Act} {Q : Exit → Act → World → Prop} (hgd : o.guard = none) (s x : Operand)
    (ho : o.op = .call { callee := .builtin .append, args := #[s, x], argTypes := #[41, 41] })
    (O : StO w B v L) (hs : a.eval s = v) (y : Bs) (q : Nat) (hx : a.eval x = .slice (some ⟨q, 0, none⟩) 1 1) (hq : HasB w q 9 [.string (strB y)]) (hn : L.length ≤ 100000) (hB : B ≤ w.heap.size)
    (h : ∀ v' w', StO w' B v' (L ++ [y]) → w.grownBy w' v.ownBlock → Nw w v.ownBlock v'.ownBlock → wpList Tryd.prog ops Q rest (a.put o.dst v') w') : wpList Tryd.prog ops Q (o :: rest) a w := by
  obtain ⟨u0, hu0, hz0, hz1, hz2⟩ := info_parts str_info
  refine wpList_append_own_at w hgd s x 41 ho B 9 u0 _ 1 16 Tryd.underlying41 hu0 hz0 hz1 hz2 rfl (by decide) v L.length (L.map strV) hs O ⟨q, 0, none⟩ 1 1 [.string (strB y)] hx rfl
    (cellsN hq) (by intro u hu; simp only [List.mem_cons, List.not_mem_nil, or_false] at hu; rw [hu]; rfl) (by unfold maxLen; omega) (by omega) hB ?_
  intro v' w' r1 r2 _ r4
  refine h v' w' ?_ r2 (r4.imp id (fun e => ⟨_, e, Nat.le_refl _⟩))
  show w'.ownsRow B 9 1 v' (L ++ [y]).length ((L ++ [y]).map strV)
  rw [List.map_append, List.length_append]
  exact r1
end Go.Proofs.YtkacplcilkogpaaDoor.Mm
