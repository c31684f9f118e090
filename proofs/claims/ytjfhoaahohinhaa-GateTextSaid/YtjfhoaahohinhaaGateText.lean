/- The statement GateText, walked, over the contracts of package gate. -/
import Derived.Test.YtjfhoaahohinhaaGateRef
namespace Go.Proofs.Ytjfhoaahohinhaa.Mm
open Go.ChangeShapes Go.WideShapes Go.ChangeAt Go.RowKit
set_option linter.unusedVariables false

def TextGC : Prop := ∀ (A : Option Addr) (cap n : Nat) (L : List Ev), L.length = n → n ≤ 100 → ∀ w : World, EvRow w A cap L →
  Calls Try.prog 13 #[.slice A n cap] w fun e w' => e = .returned (.string (strOfNums (L.flatMap evL))) ∧ Below w.heap.size w w'
theorem app_ev_op {w : World} {o : Oper} {a : Act} {K : Act → World → Prop} {Q : Exit → Act → World → Prop} (s x : Operand)
    (ho : o.op = .call { callee := .builtin .append, args := #[s, x], argTypes := #[38, 38] })
    (base : Nat) (v : Value) (n : Nat) (L : List Ev) (hs : a.eval s = v) (hown : w.ownsRow base 45 2 v n (L.flatMap evC)) (hW : ∀ x ∈ L, evWf x)
    (g c : Nat) (y : Ev) (hx : a.eval x = .slice (some ⟨g, 0, none⟩) 1 c) (hT : EvAt w ⟨g, 0, none⟩ y) (hy : evWf y) (hlen : n ≤ 100000) (hbase : base ≤ w.heap.size)
    (h : ∀ v' w', w'.ownsRow base 45 2 v' (n + 1) ((L ++ [y]).flatMap evC) → w.grownBy w' v.ownBlock → K (a.put o.dst v') w') : o.wp Try.prog a w K Q := by
  obtain ⟨u0, hu0, hz0, hz1, hz2⟩ := info_parts ev_info
  refine wp_append_own w s x 38 ho base 45 u0 _ 2 16 Try.underlying38 hu0 hz0 hz1 hz2 rfl (by decide) v n (L.flatMap evC) hs hown ⟨g, 0, none⟩ 1 c (evC y) hx rfl
    (cells2V hT rfl) (evC_one y) (by unfold maxLen; omega) (by omega) hbase ?_
  intro v' w' hown' hg _
  exact h v' w' (by rw [flatV_app, flatV_one]; exact hown') hg
set_option maxRecDepth 10000 in
set_option maxHeartbeats 4000000 in
theorem vtext_few (AW : Hid AwG) (TC : Hid TextGC) (A : Option Addr) (cap n : Nat) (L : List Ev) (hl : L.length = n) (hn : n ≤ 40) (w : World) (R : EvRow w A cap L) :
    Calls Try.prog 4 #[.slice A n cap] w fun e w' => e = .returned (.bool true) ∧ Below w.heap.size w w' := by
  have RT := Lib.hid (fun w' (b : Below w.heap.size w w') => rtext12_any A cap n L hl hn w' (R.below b))
  have GT := Lib.hid (fun A' c' w' (r : EvRow w' A' c' L) => TC.out A' c' n L hl (by omega) w' r)
  have R0 := Lib.hid R
  have HW := Lib.hid R.2.2.1
  have HL := Lib.hid hl
  clear R hl
  go_enter Try.func4, Try.ntmps4
  go_wp2_with fail
  refine (AW.out _).mono ?_; rintro e w1 ⟨rfl, hb1⟩
  have B1 := Lib.hid hb1
  have RR := Lib.hid (R0.out.below hb1)
  have B0 := Lib.hid (Below.refl w1.heap.size w1)
  clear hb1
  go_wp2_with fail
  go_loopw [3, 4] (fun v i wr => ∃ (k : Nat), i = .int .i64 k ∧ k ≤ n ∧ Hid (wr.ownsRow w1.heap.size 45 2 v k ((L.take k).flatMap evC)) ∧ Hid (Below w1.heap.size w1 wr)) (fun _ i _ => n - (intOf i).toNat)
  case atStart => exact ⟨0, rfl, Nat.zero_le _, Lib.hid (World.ownsRow_nil _ _ _ _), B0⟩
  case round =>
    obtain ⟨k, rfl, hk, O1, HB⟩ := hrel
    by_cases hlt : k < n
    · have hkL : k < L.length := by rw [HL.out]; exact hlt
      obtain ⟨x, rfl, hxb, hc⟩ := RR.out.2.2.2 (by intro e; rw [e] at hkL; simp at hkL)
      obtain ⟨c0, c1⟩ := hc k hkL
      have YW := Lib.hid (ev_getD HW.out k hkL)
      have TW := Lib.hid (fun y (hy : y ∈ L.take k) => HW.out y (List.mem_of_mem_take hy))
      have TS := Lib.hid (take_snocV L k hkL)
      clear hc hkL
      generalize L.getD k (0, 0) = y at *
      generalize L.take k = F at *
      obtain ⟨ya, yb⟩ := y
      simp only at c0 c1
      have hgs := HB.out.size
      have KS := Lib.hid (fun (w' : World) (b : Below w1.heap.size w1 w') => (show (w'.cell? (x.add (k * 2)) = some (.int .i64 ya) ∧ w'.cell? ⟨(x.add (k * 2)).block, (x.add (k * 2)).off + 1, none⟩ = some (.int .u32 yb)) ∧ Below w1.heap.size w1 w' from ⟨⟨(b.cell (by rw [block_add]; exact hxb)).trans c0, (b.cell (p := ⟨(x.add (k * 2)).block, (x.add (k * 2)).off + 1, none⟩) (by rw [block_add]; exact hxb)).trans c1⟩, b⟩))
      clear c0 c1
      go_wp2_with fail
      refine wp_region_noPanic ?_
      refine wp_region_held_drew (S := (fun w' => (w'.cell? (x.add (k * 2)) = some (.int .i64 ya) ∧ w'.cell? ⟨(x.add (k * 2)).block, (x.add (k * 2)).off + 1, none⟩ = some (.int .u32 yb)) ∧ Below w1.heap.size w1 w')) (by kernel_rfl) ?_ (fun hHeld => ?_)
      · (try dsimp only)
        first | exact KS.out _ HB.out | exact KS.out _ (below_drewV HB.out)
      refine wpAnyH_take (i := 0) (oi := { dst := some 19, op := Op.move (Operand.tmp 3), type := 38, pos := "law.go:122", after := #[], guard := none }) (v := ?_) rfl (by kernel_rfl) (by kernel_rfl) (by kernel_rfl) (fun _ _ _ h => h) (Or.inl ⟨by rfl, ?_⟩) (by assumption) ?_
      rotate_left
      · intro w hSw; (try dsimp only at hSw); go_simp <;> (with_reducible rfl)
      (try simp only [Act.put, List.setIfInBounds_toArray, List.set_cons_zero, List.set_cons_succ])
      refine wpAnyH_take (i := 1) (oi := { dst := some 20, op := Op.move (Operand.tmp 0), type := 47, pos := "law.go:122", after := #[], guard := none }) (v := ?_) rfl (by kernel_rfl) (by kernel_rfl) (by kernel_rfl) (fun _ _ _ h => h) (Or.inl ⟨by rfl, ?_⟩) (by assumption) ?_
      rotate_left
      · intro w hSw; (try dsimp only at hSw); go_simp <;> (with_reducible rfl)
      (try simp only [Act.put, List.setIfInBounds_toArray, List.set_cons_zero, List.set_cons_succ])
      refine wpAnyH_take (i := 2) (oi := { dst := some 21, op := Op.move (Operand.tmp 4), type := 3, pos := "law.go:122", after := #[], guard := none }) (v := ?_) rfl (by kernel_rfl) (by kernel_rfl) (by kernel_rfl) (fun _ _ _ h => h) (Or.inl ⟨by rfl, ?_⟩) (by assumption) ?_
      rotate_left
      · intro w hSw; (try dsimp only at hSw); go_simp <;> (with_reducible rfl)
      (try simp only [Act.put, List.setIfInBounds_toArray, List.set_cons_zero, List.set_cons_succ])
      refine wpAnyH_take (i := 3) (oi := { dst := some 22, op := Op.indexAddr 47 (Operand.tmp 20) (Operand.tmp 21), type := 0, pos := "law.go:122", after := #[{ on := 1, ground := Ground.data }, { on := 2, ground := Ground.data }], guard := none }) (v := ?_) rfl (by kernel_rfl) (by kernel_rfl) (by kernel_rfl) (fun _ _ _ h => h) (Or.inl ⟨by rfl, ?_⟩) (by assumption) ?_
      rotate_left
      · intro w hSw; (try dsimp only at hSw); go_simp <;> (with_reducible rfl)
      (try simp only [Act.put, List.setIfInBounds_toArray, List.set_cons_zero, List.set_cons_succ])
      refine wpAnyH_take (i := 4) (oi := { dst := some 23, op := Op.fieldAddr 48 (Operand.tmp 22) 0, type := 0, pos := "law.go:122", after := #[{ on := 3, ground := Ground.data }], guard := none }) (v := ?_) rfl (by kernel_rfl) (by kernel_rfl) (by kernel_rfl) (fun _ _ _ h => h) (Or.inl ⟨by rfl, ?_⟩) (by assumption) ?_
      rotate_left
      · intro w hSw; (try dsimp only at hSw); go_simp <;> (with_reducible rfl)
      (try simp only [Act.put, List.setIfInBounds_toArray, List.set_cons_zero, List.set_cons_succ])
      refine wpAnyH_take (i := 5) (oi := { dst := some 24, op := Op.load 3 (Operand.tmp 23), type := 3, pos := "law.go:122", after := #[{ on := 4, ground := Ground.data }], guard := none }) (v := ?_) rfl (by kernel_rfl) (by kernel_rfl) (by kernel_rfl) (fun _ _ _ h => h) (Or.inl ⟨by rfl, ?_⟩) (by assumption) ?_
      rotate_left
      · intro w hSw; (try dsimp only at hSw); go_simp <;> (with_reducible rfl)
      (try simp only [Act.put, List.setIfInBounds_toArray, List.set_cons_zero, List.set_cons_succ])
      refine wpAnyH_take (i := 6) (oi := { dst := some 25, op := Op.move (Operand.tmp 0), type := 47, pos := "law.go:122", after := #[], guard := none }) (v := ?_) rfl (by kernel_rfl) (by kernel_rfl) (by kernel_rfl) (fun _ _ _ h => h) (Or.inl ⟨by rfl, ?_⟩) (by assumption) ?_
      rotate_left
      · intro w hSw; (try dsimp only at hSw); go_simp <;> (with_reducible rfl)
      (try simp only [Act.put, List.setIfInBounds_toArray, List.set_cons_zero, List.set_cons_succ])
      refine wpAnyH_take (i := 7) (oi := { dst := some 26, op := Op.move (Operand.tmp 4), type := 3, pos := "law.go:122", after := #[], guard := none }) (v := ?_) rfl (by kernel_rfl) (by kernel_rfl) (by kernel_rfl) (fun _ _ _ h => h) (Or.inl ⟨by rfl, ?_⟩) (by assumption) ?_
      rotate_left
      · intro w hSw; (try dsimp only at hSw); go_simp <;> (with_reducible rfl)
      (try simp only [Act.put, List.setIfInBounds_toArray, List.set_cons_zero, List.set_cons_succ])
      refine wpAnyH_take (i := 8) (oi := { dst := some 27, op := Op.indexAddr 47 (Operand.tmp 25) (Operand.tmp 26), type := 0, pos := "law.go:122", after := #[{ on := 6, ground := Ground.data }, { on := 7, ground := Ground.data }], guard := none }) (v := ?_) rfl (by kernel_rfl) (by kernel_rfl) (by kernel_rfl) (fun _ _ _ h => h) (Or.inl ⟨by rfl, ?_⟩) (by assumption) ?_
      rotate_left
      · intro w hSw; (try dsimp only at hSw); go_simp <;> (with_reducible rfl)
      (try simp only [Act.put, List.setIfInBounds_toArray, List.set_cons_zero, List.set_cons_succ])
      refine wpAnyH_take (i := 9) (oi := { dst := some 28, op := Op.fieldAddr 48 (Operand.tmp 27) 1, type := 0, pos := "law.go:122", after := #[{ on := 8, ground := Ground.data }], guard := none }) (v := ?_) rfl (by kernel_rfl) (by kernel_rfl) (by kernel_rfl) (fun _ _ _ h => h) (Or.inl ⟨by rfl, ?_⟩) (by assumption) ?_
      rotate_left
      · intro w hSw; (try dsimp only at hSw); go_simp <;> (with_reducible rfl)
      (try simp only [Act.put, List.setIfInBounds_toArray, List.set_cons_zero, List.set_cons_succ])
      refine wpAnyH_take (i := 10) (oi := { dst := some 29, op := Op.load 22 (Operand.tmp 28), type := 22, pos := "law.go:122", after := #[{ on := 9, ground := Ground.data }], guard := none }) (v := ?_) rfl (by kernel_rfl) (by kernel_rfl) (by kernel_rfl) (fun _ _ _ h => h) (Or.inl ⟨by rfl, ?_⟩) (by assumption) ?_
      rotate_left
      · intro w hSw; (try dsimp only at hSw); go_simp <;> (with_reducible rfl)
      (try simp only [Act.put, List.setIfInBounds_toArray, List.set_cons_zero, List.set_cons_succ])
      refine wpAnyH_take (i := 11) (oi := { dst := some 30, op := Op.build 45 #[(0, Operand.tmp 24), (1, Operand.tmp 29)], type := 45, pos := "law.go:122", after := #[{ on := 5, ground := Ground.data }, { on := 10, ground := Ground.data }], guard := none }) (v := ?_) rfl (by kernel_rfl) (by kernel_rfl) (by kernel_rfl) (fun _ _ _ h => h) (Or.inl ⟨by rfl, ?_⟩) (by assumption) ?_
      rotate_left
      · intro w hSw; (try dsimp only at hSw); go_simp <;> (with_reducible rfl)
      (try simp only [Act.put, List.setIfInBounds_toArray, List.set_cons_zero, List.set_cons_succ])
      refine wpAnyH_ready (rs := [12]) (by kernel_rfl) (by simp) ?_
      refine AllReadyH.cons (o := { dst := some 31, op := Op.buildSlice 38 1 #[(0, Operand.tmp 30)], type := 38, pos := "law.go:122", after := #[{ on := 11, ground := Ground.data }], guard := none }) rfl (fun K hK => ?_) ?_
      · go_simp
        refine hK.out _ _ ?_ (fun hHeld => ?_)
        · (try dsimp only)
          exact KS.out _ (bel_al hHeld.2 _)
        clear hK K
        (try simp only [Act.put, List.setIfInBounds_toArray, List.set_cons_zero, List.set_cons_succ])
        refine wpAnyH_ready (rs := [13]) (by kernel_rfl) (by simp) ?_
        refine AllReadyH.cons (o := { dst := some 32, op := Op.call { callee := Callee.builtin Builtin.append, args := #[Operand.tmp 19, Operand.tmp 31], argTypes := #[38, 38] }, type := 38, pos := "law.go:122", after := #[{ on := 0, ground := Ground.data }, { on := 12, ground := Ground.data }], guard := none }) rfl (fun K hK => ?_) ?_
        · rw [if_pos (by rfl)]
          refine app_ev_op (.tmp 19) (.tmp 31) rfl w1.heap.size u3 k F rfl (own_alV (own_belowV O1.out (below_drewV (Below.refl _ _))) _) TW.out wr.heap.size 1 (ya, yb) rfl (evAt_new wr.drew (ya, yb) _) YW.out (by omega) (by simp; omega) ?_
          intro v7 w7 own7 grown7
          have BN := Lib.hid (hHeld.2.trans (below_of_ownV (own_alV (own_belowV O1.out (below_drewV (Below.refl _ _))) _) (by have := hHeld.2.size; simpa using this) grown7))
          have S2 := Lib.hid own7
          clear own7 grown7
          refine hK.out _ _ ?_ (fun hHeld => ?_)
          · (try dsimp only)
            exact KS.out _ BN.out
          clear hK K
          (try simp only [Act.put, List.setIfInBounds_toArray, List.set_cons_zero, List.set_cons_succ])
          refine wpAnyH_take (i := 14) (oi := { dst := some 3, op := Op.assign (Operand.tmp 32), type := 38, pos := "law.go:122", after := #[{ on := 13, ground := Ground.data }, { on := 13, ground := Ground.chain }, { on := 0, ground := Ground.phase }, { on := 1, ground := Ground.phase }, { on := 2, ground := Ground.phase }, { on := 3, ground := Ground.phase }, { on := 4, ground := Ground.phase }, { on := 5, ground := Ground.phase }, { on := 6, ground := Ground.phase }, { on := 7, ground := Ground.phase }, { on := 8, ground := Ground.phase }, { on := 9, ground := Ground.phase }, { on := 10, ground := Ground.phase }, { on := 11, ground := Ground.phase }, { on := 12, ground := Ground.phase }, { on := 13, ground := Ground.phase }], guard := none }) (v := ?_) rfl (by kernel_rfl) (by kernel_rfl) (by kernel_rfl) (fun _ _ _ h => h) (Or.inl ⟨by rfl, ?_⟩) (by assumption) ?_
          rotate_left
          · intro w hSw; (try dsimp only at hSw); go_simp <;> (with_reducible rfl)
          (try simp only [Act.put, List.setIfInBounds_toArray, List.set_cons_zero, List.set_cons_succ])
          refine wpAnyH_done (by kernel_rfl) ?_ _
          refine NoPanic.normal ?_
          go_wp2_with fail
          go_roundw
          case rel => exact ⟨k + 1, by go_num, by omega, Lib.hid (by rw [TS.out]; exact S2.out), BN⟩
          case measure => simp [intOf]; omega
        exact AllReadyH.nil
      exact AllReadyH.nil
    · obtain rfl : k = n := by omega
      obtain ⟨A4, c4, rfl, hml, i4⟩ := ev_of_own O1.out (fun y hy => HW.out y (List.mem_of_mem_take hy))
      rw [List.take_of_length_le (by rw [HL.out]; exact Nat.le_refl _)] at i4
      have G1 := Lib.hid (GT.out A4 c4 wr i4)
      have BW := Lib.hid (B1.out.trans (HB.out.mono B1.out.size))
      clear i4 hml
      generalize strOfNums (L.flatMap evL) = txt at *
      go_wp2_with fail
      refine G1.out.mono ?_; rintro e w5 ⟨rfl, hb5⟩
      have B5 := Lib.hid (bel_then BW.out hb5)
      clear hb5
      go_wp2_with fail
      refine (RT.out _ B5.out).mono ?_; rintro e w6 ⟨rfl, hb6⟩
      have B6 := Lib.hid (bel_then B5.out hb6)
      clear hb6
      go_wp2_with fail
      go_ret
      exact ⟨rfl, B6.out⟩
theorem vtext_long (AW : Hid AwG) (A0 : Option Addr) (ca n : Nat) (h1 : n ≤ maxLen) (h : 40 < n) (w : World) :
    Calls Try.prog 4 #[.slice A0 n ca] w fun e w' => e = .returned (.bool true) ∧ Below w.heap.size w w' := by
  unfold maxLen at h1
  go_enter Try.func4, Try.ntmps4
  go_wp2_with fail
  refine (AW.out _).mono ?_; rintro e w1 ⟨rfl, hb1⟩
  have B1 := Lib.hid hb1; clear hb1
  go_wp2_with fail
  refine (AW.out _).mono ?_; rintro e w2 ⟨rfl, hb2⟩
  have B2 := Lib.hid (bel_then B1.out hb2); clear hb2
  go_wp2_with fail
  go_ret
  exact ⟨rfl, B2.out⟩
theorem vtext (AW : Hid AwG) (TC : Hid TextGC) (A : Option Addr) (n cap : Nat) (w : World) (rA : ∃ L : List Ev, n = L.length ∧ EvRow w A cap L) :
    Calls Try.prog 4 #[.slice A n cap] w fun e w' => e = .returned (.bool true) ∧ Below w.heap.size w w' := by
  obtain ⟨L, hl, rA⟩ := rA
  by_cases h : n ≤ 40
  · exact vtext_few AW TC A cap n L hl.symm h w rA
  · exact vtext_long AW A cap n (by rw [hl]; exact Nat.le_trans rA.1 rA.2.1) (by omega) w
end Go.Proofs.Ytjfhoaahohinhaa.Mm
