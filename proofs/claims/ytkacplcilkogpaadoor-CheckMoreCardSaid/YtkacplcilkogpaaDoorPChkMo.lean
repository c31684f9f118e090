/- A copy of a tree's declarations with one more behind them, in a tree of a statement's own. -/
import Derived.Test.YtkacplcilkogpaaDoorPChkTr
namespace Go.Proofs.YtkacplcilkogpaaDoor.Mm
open Go.ChangeShapes Go.WideShapes Go.ChangeAt Go.RowKit
set_option linter.unusedVariables false
set_option linter.unusedSimpArgs false
set_option maxRecDepth 10000

theorem empty_new (w : World) : DcO (w.alloc (.cells #[] 31)) w.heap.size (.slice (some ⟨w.heap.size, 0, none⟩) 0 0) [] :=
  World.ownsRow_lit (size := 2) (base := w.heap.size) (e := 31) w #[] 0 (by simp) (by unfold maxLen; omega) rfl
theorem append_nilD {w : World} {base : Nat} {ty : TypeId} {v : Value} {n : Nat} {xs : List Value} (hown : w.ownsRow base 31 2 v n xs) :
    (Builtin.append_ #[25, 25] ty #[v, .slice none 0 0]).run Tryd.prog w = .ok v w := by
  obtain ⟨u0, hu0, hz0, hz1, hz2⟩ := info_parts dc_info
  rcases hown.2 with ⟨rfl, rfl⟩ | ⟨g, cap, cur, rfl, _, _, hnc, _⟩
  · simp [Builtin.append_, run_underlying Tryd.underlying25, sizeOf, typeInfo, hu0, Builtin.lenOf, Builtin.firstCells]
  · simp [Builtin.append_, run_underlying Tryd.underlying25, sizeOf, typeInfo, hu0, Builtin.lenOf, Builtin.firstCells, hnc, storeCells]
theorem app_allO {Q : Exit → Act → World → Prop} {B : Nat} {w : World} {v dv : Value} {D : List Dc} {o : Oper} {a : Act} {K : Act → World → Prop} (s x : Operand)
    (ho : o.op = .call { callee := .builtin .append, args := #[s, x], argTypes := #[25, 25] })
    (O : DcO w B v []) (hs : a.eval s = v) (OD : DcO w 0 dv D) (hx : a.eval x = dv) (hn : D.length ≤ 100000) (hB : B ≤ w.heap.size)
    (h : ∀ v' w', DcO w' B v' D → w.grownBy w' v.ownBlock → Nw w v.ownBlock v'.ownBlock → K (a.put o.dst v') w') : o.wp Tryd.prog a w K Q := by
  obtain ⟨u0, hu0, hz0, hz1, hz2⟩ := info_parts dc_info
  rcases OD.2 with ⟨rfl, hz⟩ | ⟨b, cap, cur, rfl, _⟩
  · obtain rfl : D = [] := List.eq_nil_of_length_eq_zero (by omega)
    have hrun := append_nilD (ty := o.type) O
    unfold Oper.wp
    simp [execOp, ho, resolve, invoke, builtin, hs, hx, hrun, Result.andThen]
    exact h v w O ⟨rfl, rfl, rfl, Nat.le_refl _, fun _ _ _ => rfl⟩ (Nw.refl _ _)
  · obtain ⟨v', w', hrun, r1, r2, _, r4⟩ := run_append_own_at (P := Tryd.prog) w B 25 o.type 31 u0 _ 2 24 Tryd.underlying25 hu0 hz0 hz1 hz2 rfl (by decide) v 0 [] O ⟨b, 0, none⟩ D.length cap (D.flatMap dcC) (flatD_len D)
      (fun j u hj => OD.cells (g := b) rfl j u hj) (by
        intro u hu
        obtain ⟨d, _, hd⟩ := List.mem_flatMap.1 hu
        exact dcC_one d u hd) (by unfold maxLen; omega) (by omega) hB
    unfold Oper.wp
    simp [execOp, ho, resolve, invoke, builtin, hs, hx, hrun, Result.andThen]
    refine h v' w' ?_ r2 (r4.imp id (fun e => ⟨_, e, Nat.le_refl _⟩))
    show w'.ownsRow B 31 2 v' D.length (D.flatMap dcC)
    simpa using r1
structure Mo (W0 W : World) (ev : Option (Value × List Dc)) (qv xv : Option Nat) (y : Dc) : Prop where
  b : Below W0.heap.size W0 W
  e : ∀ v L, ev = some (v, L) → DcO W W0.heap.size v L
  q : ∀ k, qv = some k → HasB W k 31 (dcC y) ∧ ∀ v L, ev = some (v, L) → some k ≠ v.ownBlock
  x : ∀ k, xv = some k → HasB W k 28 [.slice none 0 0, .slice none 0 0, .int .i64 0] ∧ W0.heap.size ≤ k
theorem Mo.start (W0 : World) (y : Dc) : Mo W0 W0.drew none none none y := ⟨below_drewP (Below.refl _ _), fun _ _ e => (by cases e), fun _ e => (by cases e), fun _ e => (by cases e)⟩
theorem Mo.e0 {W0 W : World} {qv xv : Option Nat} {y : Dc} (m : Mo W0 W none qv xv y) : ∃ W', W.alloc (.cells #[] 31) = W' ∧ Hid (Mo W0 W' (some (.slice (some ⟨W.heap.size, 0, none⟩) 0 0, [])) qv xv y) := by
  have b := bel_al (Below.refl _ W) (.cells #[] 31)
  have hs := m.b.size
  refine ⟨_, rfl, Lib.hid ⟨bel_al m.b _, ?_, ?_, ?_⟩⟩
  · intro v L e
    injection e with e
    injection e with e1 e2
    subst e1 e2
    have := empty_new W
    refine ⟨this.1, ?_⟩
    rcases this.2 with h | ⟨b, cap, cur, h1, h2, h3⟩
    · exact .inl h
    · exact .inr ⟨b, cap, cur, h1, Nat.le_trans hs h2, h3⟩
  · intro k e
    obtain ⟨h1, _⟩ := m.q k e
    refine ⟨h1.below b, fun v L e2 => ?_⟩
    injection e2 with e2
    injection e2 with e3 e4
    subst e3
    intro e5
    have h5 : k = W.heap.size := by simpa [Value.ownBlock] using e5
    have := h1.lt
    omega
  · intro k e
    obtain ⟨h1, h2⟩ := m.x k e
    exact ⟨h1.below b, h2⟩
theorem Mo.q0 {W0 W : World} {ev : Option (Value × List Dc)} {xv : Option Nat} {y : Dc} (m : Mo W0 W ev none xv y) : ∃ W', W.alloc (.cells (dcC y).toArray 31) = W' ∧ Hid (Mo W0 W' ev (some W.heap.size) xv y) := by
  have b := bel_al (Below.refl _ W) (.cells (dcC y).toArray 31)
  refine ⟨_, rfl, Lib.hid ⟨bel_al m.b _, fun v L e => own_belowP (m.e v L e) b, ?_, ?_⟩⟩
  · intro k e
    injection e with e
    subst e
    refine ⟨HasB.new W _ _, fun v L e2 => fun e5 => ?_⟩
    have := ((m.e v L e2).lt _ e5.symm).2
    omega
  · intro k e
    obtain ⟨h1, h2⟩ := m.x k e
    exact ⟨h1.below b, h2⟩
theorem Mo.x0 {W0 W : World} {ev : Option (Value × List Dc)} {qv : Option Nat} {y : Dc} (m : Mo W0 W ev qv none y) : ∃ W', W.alloc (.cells #[.slice none 0 0, .slice none 0 0, .int .i64 0] 28) = W' ∧ Hid (Mo W0 W' ev qv (some W.heap.size) y) := by
  have b := bel_al (Below.refl _ W) (.cells #[.slice none 0 0, .slice none 0 0, .int .i64 0] 28)
  refine ⟨_, rfl, Lib.hid ⟨bel_al m.b _, fun v L e => own_belowP (m.e v L e) b, fun k e => ⟨(m.q k e).1.below b, (m.q k e).2⟩, ?_⟩⟩
  intro k e
  injection e with e
  subst e
  exact ⟨HasB.new W _ _, m.b.size⟩
theorem Mo.ap {W0 W W' : World} {v v' : Value} {L L' : List Dc} {qv xv : Option Nat} {y : Dc} (m : Mo W0 W (some (v, L)) qv xv y) (O : DcO W' W0.heap.size v' L') (g : W.grownBy W' v.ownBlock) (n : Nw W v.ownBlock v'.ownBlock) : Mo W0 W' (some (v', L')) qv xv y := by
  refine ⟨m.b.grown g m.b.size (fun k hk => ((m.e v L rfl).lt k hk).1), ?_, ?_, ?_⟩
  · intro u M e
    injection e with e
    injection e with e1 e2
    subst e1 e2
    exact O
  · intro k e
    obtain ⟨h1, h2⟩ := m.q k e
    have h3 := h2 v L rfl
    refine ⟨h1.grown g h3, fun u M e2 => ?_⟩
    injection e2 with e2
    injection e2 with e3 e4
    subst e3
    exact n.ne h1.lt h3
  · intro k e
    obtain ⟨h1, h2⟩ := m.x k e
    exact ⟨h1.grown g (own_neB (m.e v L rfl) h1 (by decide)), h2⟩
/-- the tree is stored -/
theorem Mo.fin {W0 W : World} {v nv : Value} {L : List Dc} {b : Int} {qv : Option Nat} {k : Nat} {y : Dc} (m : Mo W0 W (some (v, L)) qv (some k) y) : ∃ W', ((W.setCell ⟨k, 0, none⟩ v).setCell ⟨k, 1, none⟩ nv).setCell ⟨k, 2, none⟩ (.int .i64 b) = W' ∧
    Hid (HasB W' k 28 [v, nv, .int .i64 b] ∧ DcO W' W0.heap.size v L ∧ Below W0.heap.size W0 W' ∧ W0.heap.size ≤ k) := by
  obtain ⟨h1, h2⟩ := m.x k rfl
  have hn := own_neB (m.e v L rfl) h1 (by decide)
  exact ⟨_, rfl, Lib.hid ⟨has_set (has_set (has_set h1 0 v) 1 nv) 2 _, own_setj (own_setj (own_setj (m.e v L rfl) hn) hn) hn, ((m.b.setCell (p := ⟨k, 0, none⟩) h2 _).setCell (p := ⟨k, 1, none⟩) h2 _).setCell (p := ⟨k, 2, none⟩) h2 _, h2⟩⟩
end Go.Proofs.YtkacplcilkogpaaDoor.Mm
