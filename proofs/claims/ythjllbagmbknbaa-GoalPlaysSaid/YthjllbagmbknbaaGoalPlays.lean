/- The statement GoalPlays, walked. -/
import Derived.Test.YthjllbagmbknbaaGoalMay
import Derived.Test.YthjllbagmbknbaaGoalRefMay
import Derived.Test.YthjllbagmbknbaaGoalTurns
namespace Go.Proofs.Ythjllbagmbknbaa.Mm
open Go.ChangeShapes Go.WideShapes Go.ChangeAt Go.RowKit
set_option linter.unusedVariables false

theorem plays_long (A : Option Addr) (cap n : Nat) (h : 1000 < n) (hm : n ≤ maxLen) (w : World) :
    Calls Try.prog 3 #[.slice A n cap] w fun e w' => e = .returned (.bool true) ∧ Below w.heap.size w w' := by
  unfold maxLen at hm
  go_enter Try.func3, Try.ntmps3
  go_wp2_with fail
  refine (awake_any _).mono ?_; rintro e w1 ⟨rfl, hb1⟩
  have B1 := Lib.hid hb1; clear hb1
  go_wp2_with fail
  refine (awake_any _).mono ?_; rintro e w2 ⟨rfl, hb2⟩
  have B2 := Lib.hid (bel_then B1.out hb2); clear hb2
  go_wp2_with fail
  go_ret
  exact ⟨rfl, B2.out⟩

theorem plays_bad (A : Option Addr) (cap n : Nat) (code : List Int) (hn : code.length = n) (h : n ≤ 1000) (hE : ruleE code ≠ 0) (w : World) (r : RowAt w A cap code) :
    Calls Try.prog 3 #[.slice A n cap] w fun e w' => e = .returned (.bool true) ∧ Below w.heap.size w w' := by
  have C1 := Lib.hid (fun w' (k : Below w.heap.size w w') => Goals_any A cap n code hn w' (r.below k))
  have C2 := Lib.hid (fun w' (k : Below w.heap.size w w') => rSeconds_no A cap n code hn hE w' (r.below k))
  have C3 := Lib.hid (fun w' (k : Below w.heap.size w w') => May_any A cap n code hn w' (r.below k))
  have C4 := Lib.hid (fun w' (k : Below w.heap.size w w') => rMay_any A cap n code hn w' (r.below k))
  unfold GoalsP at C1
  rw [show goalsC code = [] by unfold goalsC; rw [if_neg hE]] at C1
  have hq : (ruleE code == 0) = false := by simpa using hE
  clear r hn hE
  generalize ruleE code = q at *
  generalize mayE code = me at *
  go_enter Try.func3, Try.ntmps3
  go_wp2_with fail
  refine (awake_any _).mono ?_; rintro e w1 ⟨rfl, hb1⟩
  have B1 := Lib.hid hb1; clear hb1
  go_wp2_with fail
  refine (C1.out w1 B1.out).mono ?_; rintro e w2 ⟨A2, c2, rfl, i2, hb2⟩
  have B2 := Lib.hid (bel_then B1.out hb2)
  have I2 := Lib.hid i2
  clear hb2 i2
  go_wp2_with fail
  refine (C2.out w2 B2.out).mono ?_; rintro e w3 ⟨rfl, hb3⟩
  have B3 := Lib.hid (bel_then B2.out hb3)
  have D := Lib.hid (ints_yes [] A2 none c2 0 0 rfl w3 (I2.out.below hb3) (intRow_nil w3))
  clear hb3
  go_wp2_with fail
  refine D.out.mono ?_; rintro e w4 ⟨rfl, hb4⟩
  have B4 := Lib.hid (bel_then B3.out hb4); clear hb4
  go_wp2_with fail
  refine (C3.out w4 B4.out).mono ?_; rintro e w5 ⟨rfl, hb5⟩
  have B5 := Lib.hid (bel_then B4.out hb5); clear hb5
  go_wp2_with fail
  refine (C4.out w5 B5.out).mono ?_; rintro e w6 ⟨rfl, hb6⟩
  have B6 := Lib.hid (bel_then B5.out hb6); clear hb6
  go_wp2
  go_ret
  exact ⟨rfl, B6.out⟩

set_option maxRecDepth 10000 in
set_option maxHeartbeats 4000000 in
theorem plays_ok (A : Option Addr) (cap n : Nat) (code : List Int) (hn : code.length = n) (h : n ≤ 1000) (hE : ruleE code = 0) (w : World) (r : RowAt w A cap code) :
    Calls Try.prog 3 #[.slice A n cap] w fun e w' => e = .returned (.bool true) ∧ Below w.heap.size w w' := by
  have hb := r.2.2.1
  obtain ⟨hs, _, _⟩ := rule_scan hE
  have C1 := Lib.hid (fun w' (k : Below w.heap.size w w') => Goals_any A cap n code hn w' (r.below k))
  have C2 := Lib.hid (fun w' (k : Below w.heap.size w w') => rSeconds_yes A cap n code hn hE w' (r.below k))
  have C5 := Lib.hid (fun w' (k : Below w.heap.size w w') => rscan_any A cap n code hn w' (r.below k))
  have C3 := Lib.hid (fun w' (k : Below w.heap.size w w') => May_any A cap n code hn w' (r.below k))
  have C4 := Lib.hid (fun w' (k : Below w.heap.size w w') => rMay_any A cap n code hn w' (r.below k))
  unfold GoalsP at C1
  unfold ReadP at C5
  rw [show goalsC code = goalL (scanL code) by unfold goalsC; rw [if_pos hE]] at C1
  rw [hE] at C1
  rw [hs] at C5
  have hz := scanL_len hb
  have HO := Lib.hid (fun k hk => scan_oks hb hs (k := k) hk)
  have HP := Lib.hid (fun k hk => scan_place hb hs (k := k) hk)
  have PL := Lib.hid (posI_len (scanL code))
  have IL := Lib.hid (insI_len (scanL code))
  rw [hn] at HP
  clear r hn hE hb hs
  generalize scanL code = L at *
  generalize hzz : L.length = z at C5 PL IL hz
  have HZ := Lib.hid hzz
  clear hzz
  generalize mayE code = me at *
  go_enter Try.func3, Try.ntmps3
  go_wp2_with fail
  refine (awake_any _).mono ?_; rintro e w1 ⟨rfl, hb1⟩
  have B1 := Lib.hid hb1; clear hb1
  generalize hyy : (goalL L).length = yl at C1
  have HY := Lib.hid hyy
  clear hyy
  go_wp2_with fail
  refine (C1.out w1 B1.out).mono ?_; rintro e w2 ⟨A2, c2, rfl, i2, hb2⟩
  have B2 := Lib.hid (bel_then B1.out hb2)
  have I2 := Lib.hid i2
  clear hb2 i2 C1
  go_wp2_with fail
  refine (C2.out w2 B2.out).mono ?_; rintro e w3 ⟨g, rfl, _, _, hb3⟩
  have B3 := Lib.hid (bel_then B2.out hb3)
  have I3 := Lib.hid (I2.out.below hb3)
  clear hb3 C2 I2
  go_wp2_with fail
  refine (C5.out w3 B3.out).mono ?_; rintro e w4 ⟨A4, c4, A5, c5, rfl, i4, i5, hb4⟩
  have B4 := Lib.hid (bel_then B3.out hb4)
  have I4 := Lib.hid (I3.out.below hb4)
  have J4 := Lib.hid i4
  have J5 := Lib.hid i5
  clear hb4 C5 I3 i4 i5
  go_wp2
  go_loopw [7, 11] (fun v i wr => ∃ (k m : Nat), i = .int .i64 k ∧ k ≤ z ∧ m ≤ k ∧ Hid (m = (goalL (L.take k)).length) ∧ Hid (wr.ownsRow w4.heap.size 3 1 v m ((goalL (L.take k)).map (Value.int .i64))) ∧ Hid (Below w4.heap.size w4 wr)) (fun _ i _ => z - (intOf i).toNat)
  case atStart => exact ⟨0, 0, rfl, Nat.zero_le _, Nat.zero_le _, Lib.hid rfl, Lib.hid (World.ownsRow_nil _ _ _ _), Lib.hid (Below.refl _ _)⟩
  case round =>
    obtain ⟨k, m, rfl, hk, hm, HM, O1, HB⟩ := hrel
    by_cases hlt : k < z
    · have hkL : k < L.length := by rw [HZ.out]; exact hlt
      obtain ⟨x, rfl, hxb, hc⟩ := J4.out.2.2 (by intro e; have := PL.out; rw [e] at this; simp at this; omega)
      obtain ⟨y, rfl, hyb, hd⟩ := J5.out.2.2.2 (by intro e; have := IL.out; rw [e] at this; simp at this; omega)
      have PX := Lib.hid (hd k (by rw [IL.out]; exact hlt))
      rw [ins_at hkL] at PX
      have e1 := hc k (by rw [PL.out]; exact hlt)
      rw [pos_at hkL] at e1
      have hpl := HP.out k hkL
      have HOK := Lib.hid (ok_wf (HO.out k hkL))
      have HGO := Lib.hid (fun hp => rGoal_any (L.getD k dfl).1 hp (L.getD k dfl).2 HOK.out)
      have HJ := Lib.hid (rJump_any (L.getD k dfl).2)
      have GY := Lib.hid (fun h => @goal_yes L k hkL h)
      have GN := Lib.hid (fun h => @goal_no L k hkL h)
      have hgv : goalV (L.getD k dfl) = goalV ((L.getD k dfl).1, (L.getD k dfl).2) := rfl
      rw [← hgv] at HGO
      clear hgv hd hc
      generalize goalV (L.getD k dfl) = G at *
      generalize (L.getD k dfl).1 = P at *
      generalize (L.getD k dfl).2 = u at *
      generalize goalL (L.take k) = F at *
      have HGO := Lib.hid (HGO.out (by omega))
      unfold InsV.agg at HJ HGO
      have KS := Lib.hid (fun w' (hb : Below w4.heap.size w4 w') => show (w'.cell? (x.add k) = some (.int .i64 (P : Int)) ∧ w'.cell? (y.add (k * 4)) = some (.int .i64 u.op) ∧ w'.cell? ⟨(y.add (k * 4)).block, (y.add (k * 4)).off + 1, none⟩ = some (.int .i64 u.a) ∧ w'.cell? ⟨(y.add (k * 4)).block, (y.add (k * 4)).off + 2, none⟩ = some (.int .i64 u.b) ∧ w'.cell? ⟨(y.add (k * 4)).block, (y.add (k * 4)).off + 3, none⟩ = some (.int .u32 u.imm)) ∧ Below w4.heap.size w4 w' from
        ⟨⟨(hb.cell (by rw [block_add]; exact hxb)).trans e1, (PX.out.below (by rw [block_add]; exact hyb) hb).c0, (PX.out.below (by rw [block_add]; exact hyb) hb).c1, (PX.out.below (by rw [block_add]; exact hyb) hb).c2, (PX.out.below (by rw [block_add]; exact hyb) hb).c3⟩, hb⟩)
      obtain ⟨⟨_, p0, p1, p2, p3⟩, _⟩ := KS.out wr HB.out
      clear e1 PX hxb hyb
      cases hj : jmpB u
      · rw [hj] at HJ
        have HF := Lib.hid (GN.out hj)
        clear GY GN hj HGO KS
        go_wp2_with fail
        refine (HJ.out _).mono ?_; rintro e w5 ⟨rfl, hb5⟩
        have B5 := Lib.hid (bel_then HB.out hb5)
        have O5 := Lib.hid (own_below O1.out hb5)
        clear hb5
        go_wp2
        go_roundw
        case rel => exact ⟨k + 1, m, by go_num, by omega, by omega, by rw [HF.out]; exact HM, by rw [HF.out]; exact O5, B5⟩
        case measure => simp [intOf]; omega
      · rw [hj] at HJ
        have HF := Lib.hid (GY.out hj)
        clear GY GN hj
        go_wp2_with fail
        refine (HJ.out _).mono ?_; rintro e w5 ⟨rfl, hb5⟩
        have HB5 := Lib.hid (bel_then HB.out hb5)
        have O5 := Lib.hid (own_below O1.out hb5)
        clear hb5 p0 p1 p2 p3 O1 HB HJ
        go_wp2_with fail
        refine wp_region_noPanic ?_
        refine wp_region_held_drew (S := (fun w' => (w'.cell? (x.add k) = some (.int .i64 (P : Int)) ∧ w'.cell? (y.add (k * 4)) = some (.int .i64 u.op) ∧ w'.cell? ⟨(y.add (k * 4)).block, (y.add (k * 4)).off + 1, none⟩ = some (.int .i64 u.a) ∧ w'.cell? ⟨(y.add (k * 4)).block, (y.add (k * 4)).off + 2, none⟩ = some (.int .i64 u.b) ∧ w'.cell? ⟨(y.add (k * 4)).block, (y.add (k * 4)).off + 3, none⟩ = some (.int .u32 u.imm)) ∧ Below w4.heap.size w4 w')) (by kernel_rfl) ?_ (fun hHeld => ?_)
        · (try dsimp only)
          first | exact KS.out _ HB5.out | exact KS.out _ (below_drew1 HB5.out)
        refine wpAnyH_take (i := 0) (oi := { dst := some 49, op := Op.move (Operand.tmp 7), type := 24, pos := "law.go:35", after := #[], guard := none }) (v := ?_) rfl (by kernel_rfl) (by kernel_rfl) (by kernel_rfl) (fun _ _ _ h => h) (Or.inl ⟨by rfl, ?_⟩) (by assumption) ?_
        rotate_left
        · intro w hSw; (try dsimp only at hSw); go_simp <;> (with_reducible rfl)
        (try simp only [Act.put, List.setIfInBounds_toArray, List.set_cons_zero, List.set_cons_succ])
        refine wpAnyH_take (i := 1) (oi := { dst := some 50, op := Op.move (Operand.tmp 8), type := 24, pos := "law.go:35", after := #[], guard := none }) (v := ?_) rfl (by kernel_rfl) (by kernel_rfl) (by kernel_rfl) (fun _ _ _ h => h) (Or.inl ⟨by rfl, ?_⟩) (by assumption) ?_
        rotate_left
        · intro w hSw; (try dsimp only at hSw); go_simp <;> (with_reducible rfl)
        (try simp only [Act.put, List.setIfInBounds_toArray, List.set_cons_zero, List.set_cons_succ])
        refine wpAnyH_take (i := 2) (oi := { dst := some 51, op := Op.move (Operand.tmp 11), type := 3, pos := "law.go:35", after := #[], guard := none }) (v := ?_) rfl (by kernel_rfl) (by kernel_rfl) (by kernel_rfl) (fun _ _ _ h => h) (Or.inl ⟨by rfl, ?_⟩) (by assumption) ?_
        rotate_left
        · intro w hSw; (try dsimp only at hSw); go_simp <;> (with_reducible rfl)
        (try simp only [Act.put, List.setIfInBounds_toArray, List.set_cons_zero, List.set_cons_succ])
        refine wpAnyH_take (i := 3) (oi := { dst := some 52, op := Op.indexAddr 24 (Operand.tmp 50) (Operand.tmp 51), type := 0, pos := "law.go:35", after := #[{ on := 1, ground := Ground.data }, { on := 2, ground := Ground.data }], guard := none }) (v := ?_) rfl (by kernel_rfl) (by kernel_rfl) (by kernel_rfl) (fun _ _ _ h => h) (Or.inl ⟨by rfl, ?_⟩) (by assumption) ?_
        rotate_left
        · intro w hSw; (try dsimp only at hSw); go_simp <;> (with_reducible rfl)
        (try simp only [Act.put, List.setIfInBounds_toArray, List.set_cons_zero, List.set_cons_succ])
        refine wpAnyH_take (i := 4) (oi := { dst := some 53, op := Op.load 3 (Operand.tmp 52), type := 3, pos := "law.go:35", after := #[{ on := 3, ground := Ground.data }], guard := none }) (v := ?_) rfl (by kernel_rfl) (by kernel_rfl) (by kernel_rfl) (fun _ _ _ h => h) (Or.inl ⟨by rfl, ?_⟩) (by assumption) ?_
        rotate_left
        · intro w hSw; (try dsimp only at hSw); go_simp <;> (with_reducible rfl)
        (try simp only [Act.put, List.setIfInBounds_toArray, List.set_cons_zero, List.set_cons_succ])
        refine wpAnyH_take (i := 5) (oi := { dst := some 54, op := Op.move (Operand.tmp 9), type := 31, pos := "law.go:35", after := #[], guard := none }) (v := ?_) rfl (by kernel_rfl) (by kernel_rfl) (by kernel_rfl) (fun _ _ _ h => h) (Or.inl ⟨by rfl, ?_⟩) (by assumption) ?_
        rotate_left
        · intro w hSw; (try dsimp only at hSw); go_simp <;> (with_reducible rfl)
        (try simp only [Act.put, List.setIfInBounds_toArray, List.set_cons_zero, List.set_cons_succ])
        refine wpAnyH_take (i := 6) (oi := { dst := some 55, op := Op.move (Operand.tmp 11), type := 3, pos := "law.go:35", after := #[], guard := none }) (v := ?_) rfl (by kernel_rfl) (by kernel_rfl) (by kernel_rfl) (fun _ _ _ h => h) (Or.inl ⟨by rfl, ?_⟩) (by assumption) ?_
        rotate_left
        · intro w hSw; (try dsimp only at hSw); go_simp <;> (with_reducible rfl)
        (try simp only [Act.put, List.setIfInBounds_toArray, List.set_cons_zero, List.set_cons_succ])
        refine wpAnyH_take (i := 7) (oi := { dst := some 56, op := Op.indexAddr 31 (Operand.tmp 54) (Operand.tmp 55), type := 0, pos := "law.go:35", after := #[{ on := 5, ground := Ground.data }, { on := 6, ground := Ground.data }], guard := none }) (v := ?_) rfl (by kernel_rfl) (by kernel_rfl) (by kernel_rfl) (fun _ _ _ h => h) (Or.inl ⟨by rfl, ?_⟩) (by assumption) ?_
        rotate_left
        · intro w hSw; (try dsimp only at hSw); go_simp <;> (with_reducible rfl)
        (try simp only [Act.put, List.setIfInBounds_toArray, List.set_cons_zero, List.set_cons_succ])
        refine wpAnyH_take (i := 8) (oi := { dst := some 57, op := Op.load 37 (Operand.tmp 56), type := 37, pos := "law.go:35", after := #[{ on := 7, ground := Ground.data }], guard := none }) (v := ?_) rfl (by kernel_rfl) (by kernel_rfl) (by kernel_rfl) (fun _ _ _ h => h) (Or.inl ⟨by rfl, ?_⟩) (by assumption) ?_
        rotate_left
        · intro w hSw; (try dsimp only at hSw); go_simp <;> (with_reducible rfl)
        (try simp only [Act.put, List.setIfInBounds_toArray, List.set_cons_zero, List.set_cons_succ])
        refine wpAnyH_ready (rs := [9]) (by kernel_rfl) (by simp) ?_
        refine AllReadyH.cons (o := { dst := some 58, op := Op.call { callee := Callee.value (Operand.func 12), args := #[Operand.tmp 53, Operand.tmp 57], argTypes := #[3, 37] }, type := 3, pos := "law.go:35", after := #[{ on := 4, ground := Ground.data }, { on := 8, ground := Ground.data }], guard := none }) rfl (fun K hK => ?_) ?_
        · go_simp
          (with_reducible refine (HGO.out _).mono ?_); rintro e w6 ⟨rfl, hbr⟩
          have O6 := Lib.hid (own_below O5.out (bel_then (below_drew1 (Below.refl _ _)) hbr))
          have B6 := Lib.hid (bel_then (below_drew1 HB5.out) hbr)
          have Z6 := B6.out.size
          go_wp2_with fail
          refine hK.out _ _ ?_ (fun hHeld => ?_)
          · (try dsimp only)
            exact KS.out _ (bel_then hHeld.2 hbr)
          clear hK K
          (try simp only [Act.put, List.setIfInBounds_toArray, List.set_cons_zero, List.set_cons_succ])
          refine wpAnyH_ready (rs := [10]) (by kernel_rfl) (by simp) ?_
          refine AllReadyH.cons (o := { dst := some 59, op := Op.buildSlice 24 1 #[(0, Operand.tmp 58)], type := 24, pos := "law.go:35", after := #[{ on := 9, ground := Ground.data }], guard := none }) rfl (fun K hK => ?_) ?_
          · go_simp
            refine hK.out _ _ ?_ (fun hHeld => ?_)
            · (try dsimp only)
              exact KS.out _ (bel_al hHeld.2 _)
            clear hK K
            (try simp only [Act.put, List.setIfInBounds_toArray, List.set_cons_zero, List.set_cons_succ])
            refine wpAnyH_ready (rs := [11]) (by kernel_rfl) (by simp) ?_
            refine AllReadyH.cons (o := { dst := some 60, op := Op.call { callee := Callee.builtin Builtin.append, args := #[Operand.tmp 49, Operand.tmp 59], argTypes := #[24, 24] }, type := 24, pos := "law.go:35", after := #[{ on := 0, ground := Ground.data }, { on := 10, ground := Ground.data }, { on := 9, ground := Ground.chain }], guard := none }) rfl (fun K hK => ?_) ?_
            · rw [if_pos (by rfl)]
              refine app_int_op (.tmp 49) (.tmp 59) rfl w4.heap.size u7 m F rfl (own_al O6.out (.cells #[.int .i64 G] 3)) w6.heap.size 1 G rfl (one_new _ _ _) (by omega) (by simp; omega) ?_
              intro v7 w7 own7 grown7
              have BN := Lib.hid ((bel_al B6.out (.cells #[.int .i64 G] 3)).trans (below_of_own (own_al O6.out (.cells #[.int .i64 G] 3)) (by simp; omega) grown7))
              have S2 := Lib.hid own7
              clear own7 grown7
              refine hK.out _ _ ?_ (fun hHeld => ?_)
              · (try dsimp only)
                exact KS.out _ BN.out
              clear hK K
              (try simp only [Act.put, List.setIfInBounds_toArray, List.set_cons_zero, List.set_cons_succ])
              refine wpAnyH_take (i := 12) (oi := { dst := some 7, op := Op.assign (Operand.tmp 60), type := 24, pos := "law.go:35", after := #[{ on := 11, ground := Ground.data }, { on := 11, ground := Ground.chain }, { on := 0, ground := Ground.phase }, { on := 1, ground := Ground.phase }, { on := 2, ground := Ground.phase }, { on := 3, ground := Ground.phase }, { on := 4, ground := Ground.phase }, { on := 5, ground := Ground.phase }, { on := 6, ground := Ground.phase }, { on := 7, ground := Ground.phase }, { on := 8, ground := Ground.phase }, { on := 9, ground := Ground.phase }, { on := 10, ground := Ground.phase }, { on := 11, ground := Ground.phase }], guard := none }) (v := ?_) rfl (by kernel_rfl) (by kernel_rfl) (by kernel_rfl) (fun _ _ _ h => h) (Or.inl ⟨by rfl, ?_⟩) (by assumption) ?_
              rotate_left
              · intro w hSw; (try dsimp only at hSw); go_simp <;> (with_reducible rfl)
              (try simp only [Act.put, List.setIfInBounds_toArray, List.set_cons_zero, List.set_cons_succ])
              refine wpAnyH_done (by kernel_rfl) ?_ _
              refine NoPanic.normal ?_
              go_wp2
              go_roundw
              case rel => exact ⟨k + 1, m + 1, by go_num, by omega, by omega, Lib.hid (by rw [HF.out, List.length_append, ← HM.out]; rfl), Lib.hid (by rw [HF.out]; exact S2.out), BN⟩
              case measure => simp [intOf]; omega
            exact AllReadyH.nil
          exact AllReadyH.nil
        exact AllReadyH.nil
    · obtain rfl : k = z := by omega
      obtain ⟨A6, c6, rfl, hml, i6⟩ := int_of_own O1.out
      rw [← HZ.out, goal_all] at hml i6
      have D := Lib.hid (ints_yes (goalL L) A2 A6 c2 c6 m hml.symm wr (I4.out.below HB.out) i6)
      have hmy : yl = m := by rw [hml]; exact HY.out.symm
      subst hmy
      have BR := Lib.hid (bel_then B4.out HB.out)
      clear hml i6 HM O1 HB
      go_wp2_with fail
      refine D.out.mono ?_; rintro e w5 ⟨rfl, hb5⟩
      have B5 := Lib.hid (bel_then BR.out hb5); clear hb5
      go_wp2_with fail
      refine (C3.out w5 B5.out).mono ?_; rintro e w6 ⟨rfl, hb6⟩
      have B6 := Lib.hid (bel_then B5.out hb6); clear hb6
      go_wp2_with fail
      refine (C4.out w6 B6.out).mono ?_; rintro e w7 ⟨rfl, hb7⟩
      have B7 := Lib.hid (bel_then B6.out hb7); clear hb7
      go_wp2
      go_ret
      exact ⟨rfl, B7.out⟩

theorem goalPlays_walk (A : Option Addr) (cap : Nat) (code : List Int) (w : World) (r : RowAt w A cap code) :
    Calls Try.prog 3 #[.slice A code.length cap] w fun e w' => e = .returned (.bool true) ∧ Below w.heap.size w w' := by
  rcases Nat.lt_or_ge 1000 code.length with h | h
  · exact plays_long A cap _ h (by have := r.1; have := r.2.1; omega) w
  · by_cases hE : ruleE code = 0
    · exact plays_ok A cap _ code rfl h hE w r
    · exact plays_bad A cap _ code rfl h hE w r
end Go.Proofs.Ythjllbagmbknbaa.Mm
