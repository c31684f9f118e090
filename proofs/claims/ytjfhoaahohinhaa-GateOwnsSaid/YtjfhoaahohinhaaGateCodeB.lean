/- Package gate as it landed: an event behind others. -/
import Derived.Test.YtjfhoaahohinhaaGateCodeA
import Derived.ArgAppend
import Derived.Deep.AppendLies
namespace Go.Proofs.Ytjfhoaahohinhaa.Mm
open Go.ChangeShapes Go.WideShapes Go.ChangeAt Go.RowKit
set_option linter.unusedVariables false

theorem ev_cells {w : World} {b : Addr} {cap : Nat} {L : List Ev} (R : EvRow w (some b) cap L) : ∀ j u, (L.flatMap evC)[j]? = some u → w.cell? (b.add j) = some u := by
  intro j u hj
  have hlt := (List.getElem?_eq_some_iff.1 hj).1
  rw [flatV_len] at hlt
  obtain ⟨p, hp, _, hc⟩ := R.2.2.2 (by intro e; rw [e] at hlt; simp at hlt)
  obtain rfl : b = p := by simpa using hp
  have h2 : j = j / 2 * 2 + j % 2 := by omega
  have hm : j % 2 < 2 := Nat.mod_lt _ (by decide)
  have hi : j / 2 < L.length := by omega
  rw [h2, flatV_get L _ hi _ hm] at hj
  have hc := hc (j / 2) hi
  generalize L.getD (j / 2) (0, 0) = y at *
  have e : b.add j = (b.add (j / 2 * 2)).add (j % 2) := by rw [add_add, ← h2]
  rw [e]
  generalize b.add (j / 2 * 2) = q at *
  generalize j % 2 = m at *
  match m, hm, hj with
  | 0, _, hj => simp [evC] at hj; subst hj; rw [show q.add 0 = q by simp [Addr.add]]; exact hc.c0
  | 1, _, hj => simp [evC] at hj; subst hj; rw [show q.add 1 = ⟨q.block, q.off + 1, none⟩ by unfold Addr.add; simp]; exact hc.c1
theorem app_ev_full {w : World} {o : Oper} {a : Act} {K : Act → World → Prop} {Q : Exit → Act → World → Prop} (s x : Operand)
    (ho : o.op = .call { callee := .builtin .append, args := #[s, x], argTypes := #[38, 38] })
    (A : Option Addr) (cap n : Nat) (L : List Ev) (hl : L.length = n) (hs : a.eval s = .slice A n n) (R : EvRow w A cap L)
    (g c : Nat) (y : Ev) (hx : a.eval x = .slice (some ⟨g, 0, none⟩) 1 c) (hT : EvAt w ⟨g, 0, none⟩ y) (hy : evWf y) (hlen : n ≤ 100000)
    (h : ∀ g cap w', w.heap.size ≤ g → EvRow w' (some ⟨g, 0, none⟩) cap (L ++ [y]) → Below w.heap.size w w' → K (a.put o.dst (.slice (some ⟨g, 0, none⟩) (n + 1) cap)) w') : o.wp Try.prog a w K Q := by
  obtain ⟨u0, hu0, hz0, hz1, hz2⟩ := info_parts ev_info
  have hlo : (L.flatMap evC).length = n * 2 := by rw [flatV_len, hl]
  have hW : ∀ z ∈ L ++ [y], evWf z := fun z hz => by
    rcases List.mem_append.1 hz with k | k
    · exact R.2.2.1 z k
    · simp at k; subst k; exact hy
  have fin : ∀ v' w', w'.ownsRow w.heap.size 45 2 v' (n + 1) (L.flatMap evC ++ evC y) → w.grownBy w' none → K (a.put o.dst v') w' := by
    intro v' w' hown hg
    obtain ⟨g', cap', rfl, hb, _⟩ := hown.form (by omega)
    have hown' : w'.ownsRow w.heap.size 45 2 (.slice (some ⟨g', 0, none⟩) (n + 1) cap') (n + 1) ((L ++ [y]).flatMap evC) := by rw [flatV_app, flatV_one]; exact hown
    obtain ⟨A', c', e, _, hrow⟩ := ev_of_own hown' hW
    injection e with e1 e2 e3
    subst e1 e3
    exact h g' _ w' hb hrow ((Below.refl _ _).grown hg (Nat.le_refl _) (fun k hk => by cases hk))
  cases A with
  | some b =>
    obtain ⟨v', w', hrun, r1, r2⟩ := run_append_arg_grows (P := Try.prog) w 38 o.type 45 u0 _ 2 16 Try.underlying38 hu0 hz0 hz1 hz2 rfl (by decide) b n n _ hlo (ev_cells R) ⟨g, 0, none⟩ 1 c (evC y) rfl
      (cells2V hT rfl) (by omega) (by unfold maxLen; omega) (by omega)
    unfold Oper.wp
    simp [execOp, ho, resolve, invoke, builtin, hs, hx, hrun, Result.andThen]
    exact fin v' w' r1 r2
  | none =>
    have hn : n = 0 := by
      rcases Nat.eq_zero_or_pos n with h0 | h0
      · exact h0
      · obtain ⟨p, hp, _⟩ := R.2.2.2 (by intro e; rw [e] at hl; simp at hl; omega)
        cases hp
    subst hn
    have hL : L = [] := List.eq_nil_of_length_eq_zero hl
    obtain ⟨v', w', hrun, r1, r2, _⟩ := run_append_own (P := Try.prog) w w.heap.size 38 o.type 45 u0 _ 2 16 Try.underlying38 hu0 hz0 hz1 hz2 rfl (by decide) (.slice none 0 0) 0 [] (World.ownsRow_nil w _ _ _) ⟨g, 0, none⟩ 1 c (evC y) rfl
      (cells2V hT rfl) (evC_one y) (by unfold maxLen; omega) (by omega) (Nat.le_refl _)
    unfold Oper.wp
    simp [execOp, ho, resolve, invoke, builtin, hs, hx, hrun, Result.andThen]
    exact fin v' w' (by rw [hL]; exact r1) r2
set_option maxRecDepth 10000 in
set_option maxHeartbeats 4000000 in
theorem with_code (A : Option Addr) (cap n : Nat) (L : List Ev) (hl : L.length = n) (hn : n ≤ 100000) (xa xb : Int) (hx : evWf (xa, xb)) (w : World) (R : EvRow w A cap L) :
    Calls Try.prog 23 #[.slice A n cap, .agg #[.int .i64 xa, .int .u32 xb]] w fun e w' => ∃ g cap', e = .returned (.slice (some ⟨g, 0, none⟩) (n + 1) cap') ∧ EvRow w' (some ⟨g, 0, none⟩) cap' (L ++ [(xa, xb)]) ∧ Below w.heap.size w w' ∧ w.heap.size ≤ g := by
  have HL := Lib.hid hl
  have HX := Lib.hid hx
  have hcap : n ≤ cap := by rw [← hl]; exact R.1
  have hbase : A = none ∨ ∃ p, A = some p := by cases A; exact .inl rfl; exact .inr ⟨_, rfl⟩
  obtain ⟨W, hW, H, B1⟩ : ∃ W, w.alloc (.cells #[.int .i64 xa, .int .u32 xb] 45) = W ∧ HasB W w.heap.size 45 [.int .i64 xa, .int .u32 xb] ∧ Below w.heap.size w W :=
    ⟨_, rfl, HasB.new w 45 [.int .i64 xa, .int .u32 xb], bel_al (Below.refl _ _) _⟩
  have hsz : W.heap.size = w.heap.size + 1 := by rw [← hW]; exact Array.size_push _
  have R1 := Lib.hid (fun w' (b : Below W.heap.size W w') => (R.below B1).below b)
  have c0 := H.cell 0
  have c1 := H.cell 1
  simp at c0 c1
  have BelW := Lib.hid (fun w' (b : Below W.heap.size W w') => bel_then B1 b)
  have B0 := Lib.hid (Below.refl W.heap.size W)
  have KS := Lib.hid (fun (w' : World) (b : Below W.heap.size W w') => (show (w'.cell? ⟨w.heap.size, 0, none⟩ = some (.int .i64 xa) ∧ w'.cell? ⟨w.heap.size, 1, none⟩ = some (.int .u32 xb)) ∧ Below W.heap.size W w' from ⟨⟨(b.cell (p := ⟨w.heap.size, 0, none⟩) (by show w.heap.size < _; omega)).trans c0, (b.cell (p := ⟨w.heap.size, 1, none⟩) (by show w.heap.size < _; omega)).trans c1⟩, b⟩))
  have NEW := Lib.hid (show EvAt (W.alloc (.cells #[.int .i64 xa, .int .u32 xb] 45)).drew ⟨w.heap.size + 1, 0, none⟩ (xa, xb) from by rw [← hsz]; have h := evAt_new W (xa, xb) 45; exact ⟨h.c0, h.c1⟩)
  clear H B1 R hl hx c0 c1
  go_enter Try.func23, Try.ntmps23
  go_wp2_with fail
  refine wp_region_noPanic ?_
  refine wp_region_held_drew (S := (fun w' => (w'.cell? ⟨w.heap.size, 0, none⟩ = some (.int .i64 xa) ∧ w'.cell? ⟨w.heap.size, 1, none⟩ = some (.int .u32 xb)) ∧ Below W.heap.size W w')) (by kernel_rfl) ?_ (fun hHeld => ?_)
  · (try dsimp only)
    first | exact KS.out _ B0.out | exact KS.out _ (below_drewV B0.out)
  refine wpAnyH_take (i := 0) (oi := { dst := some 5, op := Op.move (Operand.tmp 0), type := 38, pos := "gate.go:104", after := #[], guard := none }) (v := ?_) rfl (by kernel_rfl) (by kernel_rfl) (by kernel_rfl) (fun _ _ _ h => h) (Or.inl ⟨by rfl, ?_⟩) (by assumption) ?_
  rotate_left
  · intro w hSw; (try dsimp only at hSw); go_simp <;> (with_reducible rfl)
  (try simp only [Act.put, List.setIfInBounds_toArray, List.set_cons_zero, List.set_cons_succ])
  refine wpAnyH_take (i := 1) (oi := { dst := some 6, op := Op.move (Operand.tmp 0), type := 38, pos := "gate.go:104", after := #[], guard := none }) (v := ?_) rfl (by kernel_rfl) (by kernel_rfl) (by kernel_rfl) (fun _ _ _ h => h) (Or.inl ⟨by rfl, ?_⟩) (by assumption) ?_
  rotate_left
  · intro w hSw; (try dsimp only at hSw); go_simp <;> (with_reducible rfl)
  (try simp only [Act.put, List.setIfInBounds_toArray, List.set_cons_zero, List.set_cons_succ])
  refine wpAnyH_take (i := 2) (oi := { dst := some 7, op := Op.call { callee := Callee.builtin Builtin.len, args := #[Operand.tmp 6], argTypes := #[38] }, type := 3, pos := "gate.go:104", after := #[{ on := 1, ground := Ground.data }], guard := none }) (v := ?_) rfl (by kernel_rfl) (by kernel_rfl) (by kernel_rfl) (fun _ _ _ h => h) (Or.inl ⟨by rfl, ?_⟩) (by assumption) ?_
  rotate_left
  · intro w hSw; (try dsimp only at hSw); go_simp <;> (with_reducible rfl)
  (try simp only [Act.put, List.setIfInBounds_toArray, List.set_cons_zero, List.set_cons_succ])
  refine wpAnyH_take (i := 3) (oi := { dst := some 8, op := Op.move (Operand.tmp 0), type := 38, pos := "gate.go:104", after := #[], guard := none }) (v := ?_) rfl (by kernel_rfl) (by kernel_rfl) (by kernel_rfl) (fun _ _ _ h => h) (Or.inl ⟨by rfl, ?_⟩) (by assumption) ?_
  rotate_left
  · intro w hSw; (try dsimp only at hSw); go_simp <;> (with_reducible rfl)
  (try simp only [Act.put, List.setIfInBounds_toArray, List.set_cons_zero, List.set_cons_succ])
  refine wpAnyH_take (i := 4) (oi := { dst := some 9, op := Op.call { callee := Callee.builtin Builtin.len, args := #[Operand.tmp 8], argTypes := #[38] }, type := 3, pos := "gate.go:104", after := #[{ on := 3, ground := Ground.data }], guard := none }) (v := ?_) rfl (by kernel_rfl) (by kernel_rfl) (by kernel_rfl) (fun _ _ _ h => h) (Or.inl ⟨by rfl, ?_⟩) (by assumption) ?_
  rotate_left
  · intro w hSw; (try dsimp only at hSw); go_simp <;> (with_reducible rfl)
  (try simp only [Act.put, List.setIfInBounds_toArray, List.set_cons_zero, List.set_cons_succ])
  refine wpAnyH_take (i := 5) (oi := { dst := some 10, op := Op.slice 38 (Operand.tmp 5) none (some (Operand.tmp 7)) (some (Operand.tmp 9)), type := 38, pos := "gate.go:104", after := #[{ on := 0, ground := Ground.data }, { on := 2, ground := Ground.data }, { on := 4, ground := Ground.data }], guard := none }) (v := ?_) rfl (by kernel_rfl) (by kernel_rfl) (by kernel_rfl) (fun _ _ _ h => h) (Or.inl ⟨by rfl, ?_⟩) (by assumption) ?_
  rotate_left
  · intro w hSw; (try dsimp only at hSw); go_simp <;> (with_reducible rfl)
  (try simp only [Act.put, List.setIfInBounds_toArray, List.set_cons_zero, List.set_cons_succ])
  refine wpAnyH_take (i := 6) (oi := { dst := some 11, op := Op.load 45 (Operand.tmp 3), type := 45, pos := "gate.go:104", after := #[], guard := none }) (v := ?_) rfl (by kernel_rfl) (by kernel_rfl) (by kernel_rfl) (fun _ _ _ h => h) (Or.inl ⟨by rfl, ?_⟩) (by assumption) ?_
  rotate_left
  · intro w hSw; (try dsimp only at hSw); go_simp <;> (with_reducible rfl)
  (try simp only [Act.put, List.setIfInBounds_toArray, List.set_cons_zero, List.set_cons_succ])
  refine wpAnyH_ready (rs := [7]) (by kernel_rfl) (by simp) ?_
  refine AllReadyH.cons (o := { dst := some 12, op := Op.buildSlice 38 1 #[(0, Operand.tmp 11)], type := 38, pos := "gate.go:104", after := #[{ on := 6, ground := Ground.data }], guard := none }) rfl (fun K hK => ?_) ?_
  · go_simp
    refine hK.out _ _ ?_ (fun hHeld => ?_)
    · (try dsimp only)
      exact KS.out _ (hHeld.2.alloc hHeld.2.size _)
    clear hK K
    (try simp only [Act.put, List.setIfInBounds_toArray, List.set_cons_zero, List.set_cons_succ])
    refine wpAnyH_ready (rs := [8]) (by kernel_rfl) (by simp) ?_
    refine AllReadyH.cons (o := { dst := some 13, op := Op.call { callee := Callee.builtin Builtin.append, args := #[Operand.tmp 10, Operand.tmp 12], argTypes := #[38, 38] }, type := 38, pos := "gate.go:104", after := #[{ on := 5, ground := Ground.data }, { on := 7, ground := Ground.data }], guard := none }) rfl (fun K hK => ?_) ?_
    · rw [if_pos (by rfl)]
      refine app_ev_full (.tmp 10) (.tmp 12) rfl A cap n L HL.out rfl (R1.out _ hHeld.2) _ 1 (xa, xb) rfl NEW.out HX.out hn ?_
      intro g7 c7 w7 GE7 ROW7 BW7
      have BN := Lib.hid (bel_then hHeld.2 BW7)
      have ROW := Lib.hid ROW7
      have GE := Lib.hid (show w.heap.size ≤ g7 from by have := hHeld.2.size; omega)
      clear GE7 ROW7 BW7
      refine hK.out _ _ ?_ (fun hHeld => ?_)
      · (try dsimp only)
        exact KS.out _ BN.out
      clear hK K
      (try simp only [Act.put, List.setIfInBounds_toArray, List.set_cons_zero, List.set_cons_succ])
      refine wpAnyH_take (i := 9) (oi := { dst := some 4, op := Op.assign (Operand.tmp 13), type := 38, pos := "gate.go:104", after := #[{ on := 8, ground := Ground.data }, { on := 8, ground := Ground.chain }, { on := 0, ground := Ground.phase }, { on := 1, ground := Ground.phase }, { on := 2, ground := Ground.phase }, { on := 3, ground := Ground.phase }, { on := 4, ground := Ground.phase }, { on := 5, ground := Ground.phase }, { on := 6, ground := Ground.phase }, { on := 7, ground := Ground.phase }, { on := 8, ground := Ground.phase }], guard := none }) (v := ?_) rfl (by kernel_rfl) (by kernel_rfl) (by kernel_rfl) (fun _ _ _ h => h) (Or.inl ⟨by rfl, ?_⟩) (by assumption) ?_
      rotate_left
      · intro w hSw; (try dsimp only at hSw); go_simp <;> (with_reducible rfl)
      (try simp only [Act.put, List.setIfInBounds_toArray, List.set_cons_zero, List.set_cons_succ])
      refine wpAnyH_done (by kernel_rfl) ?_ _
      refine NoPanic.normal ?_
      go_wp2_with fail
      go_ret
      exact ⟨_, _, rfl, ROW.out, BelW.out _ BN.out, GE.out⟩
    exact AllReadyH.nil
  exact AllReadyH.nil
end Go.Proofs.Ytjfhoaahohinhaa.Mm
