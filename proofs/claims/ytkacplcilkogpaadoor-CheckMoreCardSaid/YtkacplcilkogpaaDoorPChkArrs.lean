/- Package check: Vars and Arrs. -/
import Derived.Test.YtkacplcilkogpaaDoorPChkApp
import Derived.Test.YtkacplcilkogpaaDoorPPrG
namespace Go.Proofs.YtkacplcilkogpaaDoor.Mm
open Go.ChangeShapes Go.WideShapes Go.ChangeAt Go.RowKit
set_option linter.unusedVariables false
set_option linter.unusedSimpArgs false
set_option maxRecDepth 10000

theorem tree_box (w : World) (dv nv : Value) (b : Int) : ∃ w1, w.alloc (.cells #[dv, nv, .int .i64 b] 28) = w1 ∧ Hid (HasB w1 w.heap.size 28 [dv, nv, .int .i64 b]) ∧ Hid (Below w.heap.size w w1) ∧ w1.heap.size = w.heap.size + 1 :=
  ⟨_, rfl, Lib.hid (HasB.new w _ _), Lib.hid (bel_al (Below.refl _ _) _), by simp⟩
set_option maxHeartbeats 4000000 in
theorem vars_any (v0 nv : Value) (b : Int) (D : List Dc) (w : World) (O : DcO w 0 v0 D) (hl : D.length ≤ 100000) (hs : ∀ d ∈ D, d.1.length ≤ 100000) : Calls Tryd.prog 10 #[treeV v0 nv b] w fun e w' => ∃ v, e = .returned v ∧ StO w' w.heap.size v (varsL D) ∧ Below w.heap.size w w' := by
  obtain ⟨A0, c0, rfl⟩ := own_form O
  have HO := Lib.hid O
  obtain ⟨n, hn⟩ : ∃ n, D.length = n := ⟨_, rfl⟩
  have HN := Lib.hid hn
  rw [hn] at hl ⊢
  have HS := Lib.hid hs
  clear O hn hs
  obtain ⟨w1, e1, H1, B1, s1⟩ := tree_box w (.slice A0 n c0) nv b
  have t0 := H1.out.cell 0
  simp only [List.getElem?_cons_zero, List.getElem?_cons_succ] at t0
  have V0 : Hid (StO w1 w.heap.size (.slice none 0 0) (varsL (D.take 0))) := Lib.hid (World.ownsRow_nil _ _ _ _)
  unfold treeV
  go_enter Tryd.func10, Tryd.ntmps10
  go_wp2
  go_loopw [3, 9] (fun l i wr => ∃ k : Nat, i = .int .i64 k ∧ k ≤ n ∧ Hid (StO wr w.heap.size l (varsL (D.take k))) ∧ Hid (Below w.heap.size w wr)) (fun _ i _ => n - (intOf i).toNat)
  case atStart => exact ⟨0, rfl, Nat.zero_le _, V0, B1⟩
  case round =>
    obtain ⟨k, rfl, hk, HV, HB⟩ := hrel
    clear V0
    by_cases hlt : k < n
    · obtain ⟨x, cap, hv, hs, q0, q1⟩ := dcO_cell (own_belowP HO.out HB.out) (show k < D.length by rw [HN.out]; exact hlt)
      injection hv with hA _ hc
      subst hA
      clear hc hs
      have KM := Lib.hid (take_snocD D k dc0 (by rw [HN.out]; exact hlt))
      have KL := Lib.hid (HS.out (D.getD k dc0) (by rw [List.getD_eq_getElem?_getD, List.getElem?_eq_getElem (by rw [HN.out]; exact hlt)]; exact List.getElem_mem _))
      have KT := Lib.hid (show (varsL (D.take k)).length ≤ 100000 from Nat.le_trans (vars_le _) (by rw [List.length_take]; omega))
      generalize D.getD k dc0 = d at *
      obtain ⟨s, u⟩ := d
      simp only at q0 q1
      replace KL := Lib.hid (show (strB s).size ≤ 281474976710656 by rw [strB_size]; have := KL.out; simp only at this; omega)
      obtain ⟨wa, wl, ea, el, HZ, HL, BL⟩ := dc_st wr (.string (strB s)) (.int .i64 u)
      have z0 := HZ.out.cell 0
      have z1 := HZ.out.cell 1
      have y0 := HZ.out.frozen 0
      have y1 := HZ.out.frozen 1
      have l0 := HL.out.cell 0
      have l1 := HL.out.cell 1
      simp only [List.getElem?_cons_zero, List.getElem?_cons_succ] at z0 z1 l0 l1
      have OV := Lib.hid (own_belowP HV.out BL.out)
      have BD := Lib.hid (bel_then HB.out BL.out)
      by_cases hu : u = -1
      · have hkd : kindD u = 1 := by unfold kindD; rw [if_pos hu]
        have KN := Lib.hid (show varsL (D.take (k + 1)) = varsL (D.take k) ++ [s] by rw [KM.out, vars_snoc, if_pos hu])
        have CK := kindOf_any (strB s) u wl
        rw [hkd] at CK
        replace CK := Lib.hid CK
        clear hkd hu
        go_wp2_with fail
        refine (CK.out).mono ?_; rintro e w2 ⟨rfl, b2⟩
        have H2 := Lib.hid (HL.out.below b2)
        have O2 := Lib.hid (own_belowP OV.out b2)
        have B2 := Lib.hid (bel_then BD.out b2)
        have h0 := H2.out.cell 0
        have h1 := H2.out.cell 1
        simp only [List.getElem?_cons_zero, List.getElem?_cons_succ] at h0 h1
        clear b2 CK
        go_wp2_with fail
        refine (sclone_any _ _ KL.out).mono ?_; rintro e w5 ⟨rfl, b5⟩
        have B5 := Lib.hid (bel_then B2.out b5)
        have O5 := Lib.hid (own_belowP O2.out b5)
        obtain ⟨w7, e7, H7, B7⟩ : ∃ w7, w5.alloc (.cells #[.string (strB s)] 9) = w7 ∧ Hid (HasB w7 w5.heap.size 9 [.string (strB s)]) ∧ Hid (Below w5.heap.size w5 w7) := ⟨_, rfl, Lib.hid (HasB.new w5 _ _), Lib.hid (bel_al (Below.refl _ _) _)⟩
        have O7 := Lib.hid (own_belowP O5.out B7.out)
        have B7 := Lib.hid (bel_then B5.out B7.out)
        clear b5
        go_wp2_with (at_builtin; refine app_strO rfl (.tmp 16) (.tmp 20) rfl O7.out rfl s w5.heap.size rfl H7.out KT.out B7.out.size ?_; intro v8 w8 O8 g8 n8)
        have B8 := Lib.hid (B7.out.grown g8 B7.out.size (fun j hj => (O7.out.lt j hj).1))
        have O8 := Lib.hid (show StO w8 w.heap.size v8 (varsL (D.take (k + 1))) by rw [KN.out]; exact O8)
        go_wp2
        go_roundw
        case rel => exact ⟨k + 1, by go_num, by omega, O8, B8⟩
        case measure => simp [intOf]; omega
      · have hkd : kindD u = 2 := by unfold kindD; rw [if_neg hu]
        have KN := Lib.hid (show varsL (D.take (k + 1)) = varsL (D.take k) by rw [KM.out, vars_snoc, if_neg hu])
        have CK := kindOf_any (strB s) u wl
        rw [hkd] at CK
        replace CK := Lib.hid CK
        clear hkd hu
        go_wp2_with fail
        refine (CK.out).mono ?_; rintro e w2 ⟨rfl, b2⟩
        have H2 := Lib.hid (HL.out.below b2)
        have O2 := Lib.hid (own_belowP OV.out b2)
        have B2 := Lib.hid (bel_then BD.out b2)
        have h0 := H2.out.cell 0
        have h1 := H2.out.cell 1
        simp only [List.getElem?_cons_zero, List.getElem?_cons_succ] at h0 h1
        clear b2 CK
        have O3 := Lib.hid (show StO w2 w.heap.size u3 (varsL (D.take (k + 1))) by rw [KN.out]; exact O2.out)
        go_wp2
        go_roundw
        case rel => exact ⟨k + 1, by go_num, by omega, O3, B2⟩
        case measure => simp [intOf]; omega
    · obtain rfl : k = n := by omega
      have HF := Lib.hid (show StO wr w.heap.size u3 (varsL D) by have := HV.out; rwa [List.take_of_length_le (by rw [HN.out]; exact Nat.le_refl _)] at this)
      go_wp2
      go_ret
      exact ⟨_, rfl, HF.out, HB.out⟩
set_option maxHeartbeats 4000000 in
theorem arrs_any (v0 nv : Value) (b : Int) (D : List Dc) (w : World) (O : DcO w 0 v0 D) (hl : D.length ≤ 100000) (hs : ∀ d ∈ D, d.1.length ≤ 100000) : Calls Tryd.prog 11 #[treeV v0 nv b] w fun e w' => ∃ v, e = .returned v ∧ DcO w' w.heap.size v (arrsL D) ∧ Below w.heap.size w w' := by
  obtain ⟨A0, c0, rfl⟩ := own_form O
  have HO := Lib.hid O
  obtain ⟨n, hn⟩ : ∃ n, D.length = n := ⟨_, rfl⟩
  have HN := Lib.hid hn
  rw [hn] at hl ⊢
  have HS := Lib.hid hs
  clear O hn hs
  obtain ⟨w1, e1, H1, B1, s1⟩ := tree_box w (.slice A0 n c0) nv b
  have t0 := H1.out.cell 0
  simp only [List.getElem?_cons_zero, List.getElem?_cons_succ] at t0
  have V0 : Hid (DcO w1 w.heap.size (.slice none 0 0) (arrsL (D.take 0))) := Lib.hid (World.ownsRow_nil _ _ _ _)
  unfold treeV
  go_enter Tryd.func11, Tryd.ntmps11
  go_wp2
  go_loopw [3, 9] (fun l i wr => ∃ k : Nat, i = .int .i64 k ∧ k ≤ n ∧ Hid (DcO wr w.heap.size l (arrsL (D.take k))) ∧ Hid (Below w.heap.size w wr)) (fun _ i _ => n - (intOf i).toNat)
  case atStart => exact ⟨0, rfl, Nat.zero_le _, V0, B1⟩
  case round =>
    obtain ⟨k, rfl, hk, HV, HB⟩ := hrel
    clear V0
    by_cases hlt : k < n
    · obtain ⟨x, cap, hv, hs, q0, q1⟩ := dcO_cell (own_belowP HO.out HB.out) (show k < D.length by rw [HN.out]; exact hlt)
      injection hv with hA _ hc
      subst hA
      clear hc hs
      have KM := Lib.hid (take_snocD D k dc0 (by rw [HN.out]; exact hlt))
      have KL := Lib.hid (HS.out (D.getD k dc0) (by rw [List.getD_eq_getElem?_getD, List.getElem?_eq_getElem (by rw [HN.out]; exact hlt)]; exact List.getElem_mem _))
      have KT := Lib.hid (show (arrsL (D.take k)).length ≤ 100000 from Nat.le_trans (arrs_le _) (by rw [List.length_take]; omega))
      generalize D.getD k dc0 = d at *
      obtain ⟨s, u⟩ := d
      simp only at q0 q1
      replace KL := Lib.hid (show (strB s).size ≤ 281474976710656 by rw [strB_size]; have := KL.out; simp only at this; omega)
      obtain ⟨wa, wl, ea, el, HZ, HL, BL⟩ := dc_st wr (.string (strB s)) (.int .i64 u)
      have z0 := HZ.out.cell 0
      have z1 := HZ.out.cell 1
      have y0 := HZ.out.frozen 0
      have y1 := HZ.out.frozen 1
      have l0 := HL.out.cell 0
      have l1 := HL.out.cell 1
      simp only [List.getElem?_cons_zero, List.getElem?_cons_succ] at z0 z1 l0 l1
      have OV := Lib.hid (own_belowP HV.out BL.out)
      have BD := Lib.hid (bel_then HB.out BL.out)
      by_cases hu : u = -1
      · have hkd : kindD u = 1 := by unfold kindD; rw [if_pos hu]
        have KN := Lib.hid (show arrsL (D.take (k + 1)) = arrsL (D.take k) by rw [KM.out, arrs_snoc, if_pos hu])
        have CK := kindOf_any (strB s) u wl
        rw [hkd] at CK
        replace CK := Lib.hid CK
        clear hkd hu
        go_wp2_with fail
        refine (CK.out).mono ?_; rintro e w2 ⟨rfl, b2⟩
        have H2 := Lib.hid (HL.out.below b2)
        have O2 := Lib.hid (own_belowP OV.out b2)
        have B2 := Lib.hid (bel_then BD.out b2)
        have h0 := H2.out.cell 0
        have h1 := H2.out.cell 1
        simp only [List.getElem?_cons_zero, List.getElem?_cons_succ] at h0 h1
        clear b2 CK
        have O3 := Lib.hid (show DcO w2 w.heap.size u3 (arrsL (D.take (k + 1))) by rw [KN.out]; exact O2.out)
        go_wp2
        go_roundw
        case rel => exact ⟨k + 1, by go_num, by omega, O3, B2⟩
        case measure => simp [intOf]; omega
      · have hkd : kindD u = 2 := by unfold kindD; rw [if_neg hu]
        have KN := Lib.hid (show arrsL (D.take (k + 1)) = arrsL (D.take k) ++ [(s, u)] by rw [KM.out, arrs_snoc, if_neg hu])
        have CK := kindOf_any (strB s) u wl
        rw [hkd] at CK
        replace CK := Lib.hid CK
        clear hkd hu
        go_wp2_with fail
        refine (CK.out).mono ?_; rintro e w2 ⟨rfl, b2⟩
        have H2 := Lib.hid (HL.out.below b2)
        have O2 := Lib.hid (own_belowP OV.out b2)
        have B2 := Lib.hid (bel_then BD.out b2)
        have h0 := H2.out.cell 0
        have h1 := H2.out.cell 1
        simp only [List.getElem?_cons_zero, List.getElem?_cons_succ] at h0 h1
        clear b2 CK
        have KS := Lib.hid (fun (w' : World) (H : HasB w' wr.heap.size 31 [.string (strB s), .int .i64 u]) => (show (fun w' => w'.cell? ⟨wr.heap.size, 0, none⟩ = some (.string (strB s)) ∧ w'.cell? ⟨wr.heap.size, 1, none⟩ = some (.int .i64 u)) w' from ⟨H.cell 0, H.cell 1⟩))
        have NEQ : Hid (some wr.heap.size ≠ u3.ownBlock) := Lib.hid (fun e => by have := (HV.out.lt _ e.symm).2; omega)
        go_wp2_with fail
        refine wp_region_noPanic ?_
        refine wp_region_held_drew (S := (fun w' => w'.cell? ⟨wr.heap.size, 0, none⟩ = some (.string (strB s)) ∧ w'.cell? ⟨wr.heap.size, 1, none⟩ = some (.int .i64 u))) (by kernel_rfl) ?_ (fun hHeld => ?_)
        · (try dsimp only)
          exact KS.out _ (hasDrew H2.out)
        refine wpAnyH_take (i := 0) (oi := { dst := some 16, op := Op.move (Operand.tmp 3), type := 25, pos := "check.go:37", after := #[], guard := none }) (v := ?_) rfl (by kernel_rfl) (by kernel_rfl) (by kernel_rfl) (fun _ _ _ h => h) (Or.inl ⟨by rfl, ?_⟩) (by assumption) ?_
        rotate_left
        · intro w hSw; (try dsimp only at hSw); go_simp <;> (with_reducible rfl)
        (try simp only [Act.put, List.setIfInBounds_toArray, List.set_cons_zero, List.set_cons_succ])
        refine wpAnyH_take (i := 1) (oi := { dst := some 17, op := Op.fieldAddr 31 (Operand.tmp 5) 0, type := 0, pos := "check.go:37", after := #[], guard := none }) (v := ?_) rfl (by kernel_rfl) (by kernel_rfl) (by kernel_rfl) (fun _ _ _ h => h) (Or.inl ⟨by rfl, ?_⟩) (by assumption) ?_
        rotate_left
        · intro w hSw; (try dsimp only at hSw); go_simp <;> (with_reducible rfl)
        (try simp only [Act.put, List.setIfInBounds_toArray, List.set_cons_zero, List.set_cons_succ])
        refine wpAnyH_take (i := 2) (oi := { dst := some 18, op := Op.load 9 (Operand.tmp 17), type := 9, pos := "check.go:37", after := #[{ on := 1, ground := Ground.data }], guard := none }) (v := ?_) rfl (by kernel_rfl) (by kernel_rfl) (by kernel_rfl) (fun _ _ _ h => h) (Or.inl ⟨by rfl, ?_⟩) (by assumption) ?_
        rotate_left
        · intro w hSw; (try dsimp only at hSw); go_simp <;> (with_reducible rfl)
        (try simp only [Act.put, List.setIfInBounds_toArray, List.set_cons_zero, List.set_cons_succ])
        refine wpAnyH_take (i := 4) (oi := { dst := some 20, op := Op.fieldAddr 31 (Operand.tmp 5) 1, type := 0, pos := "check.go:37", after := #[], guard := none }) (v := ?_) rfl (by kernel_rfl) (by kernel_rfl) (by kernel_rfl) (fun _ _ _ h => h) (Or.inl ⟨by rfl, ?_⟩) (by assumption) ?_
        rotate_left
        · intro w hSw; (try dsimp only at hSw); go_simp <;> (with_reducible rfl)
        (try simp only [Act.put, List.setIfInBounds_toArray, List.set_cons_zero, List.set_cons_succ])
        refine wpAnyH_take (i := 5) (oi := { dst := some 21, op := Op.load 3 (Operand.tmp 20), type := 3, pos := "check.go:37", after := #[{ on := 4, ground := Ground.data }], guard := none }) (v := ?_) rfl (by kernel_rfl) (by kernel_rfl) (by kernel_rfl) (fun _ _ _ h => h) (Or.inl ⟨by rfl, ?_⟩) (by assumption) ?_
        rotate_left
        · intro w hSw; (try dsimp only at hSw); go_simp <;> (with_reducible rfl)
        (try simp only [Act.put, List.setIfInBounds_toArray, List.set_cons_zero, List.set_cons_succ])
        refine wpAnyH_ready (rs := [3]) (by kernel_rfl) (by simp) ?_
        refine AllReadyH.cons (o := { dst := some 19, op := Op.call { callee := Callee.value (Operand.func 17), args := #[Operand.tmp 18], argTypes := #[9] }, type := 9, pos := "check.go:37", after := #[{ on := 2, ground := Ground.data }], guard := none }) rfl (fun K hK => ?_) ?_
        · go_simp
          (with_reducible refine (sclone_any _ _ KL.out).mono ?_); rintro e w5 ⟨rfl, b5⟩
          go_wp2_with fail
          have H5 := Lib.hid ((hasDrew H2.out).below b5)
          have B5 := Lib.hid (bel_then (below_drewP B2.out) b5)
          have O5 := Lib.hid (own_belowP (own_belowP O2.out (below_drewP (Below.refl _ _))) b5)
          obtain ⟨w7, e7, Q7, B7⟩ : ∃ w7, w5.alloc (.cells #[.string (strB s), .int .i64 u] 31) = w7 ∧ Hid (HasB w7 w5.heap.size 31 [.string (strB s), .int .i64 u]) ∧ Hid (Below w5.heap.size w5 w7) := ⟨_, rfl, Lib.hid (HasB.new w5 _ _), Lib.hid (bel_al (Below.refl _ _) _)⟩
          have H7 := Lib.hid (H5.out.below B7.out)
          have O7 := Lib.hid (own_belowP O5.out B7.out)
          have B7 := Lib.hid (bel_then B5.out B7.out)
          clear b5
          refine hK.out _ _ ?_ (fun hHeld => ?_)
          · (try dsimp only)
            exact KS.out _ H5.out
          clear hK K
          (try simp only [Act.put, List.setIfInBounds_toArray, List.set_cons_zero, List.set_cons_succ])
          refine wpAnyH_take (i := 6) (oi := { dst := some 22, op := Op.build 31 #[(0, Operand.tmp 19), (1, Operand.tmp 21)], type := 31, pos := "check.go:37", after := #[{ on := 3, ground := Ground.data }, { on := 5, ground := Ground.data }], guard := none }) (v := ?_) rfl (by kernel_rfl) (by kernel_rfl) (by kernel_rfl) (fun _ _ _ h => h) (Or.inl ⟨by rfl, ?_⟩) (by assumption) ?_
          rotate_left
          · intro w hSw; (try dsimp only at hSw); go_simp <;> (with_reducible rfl)
          (try simp only [Act.put, List.setIfInBounds_toArray, List.set_cons_zero, List.set_cons_succ])
          refine wpAnyH_ready (rs := [7]) (by kernel_rfl) (by simp) ?_
          refine AllReadyH.cons (o := { dst := some 23, op := Op.buildSlice 25 1 #[(0, Operand.tmp 22)], type := 25, pos := "check.go:37", after := #[{ on := 6, ground := Ground.data }], guard := none }) rfl (fun K hK => ?_) ?_
          · go_simp
            refine hK.out _ _ ?_ (fun hHeld => ?_)
            · (try dsimp only)
              first | exact KS.out _ H7.out | exact KS.out _ H5.out
            clear hK K
            (try simp only [Act.put, List.setIfInBounds_toArray, List.set_cons_zero, List.set_cons_succ])
            refine wpAnyH_ready (rs := [8]) (by kernel_rfl) (by simp) ?_
            refine AllReadyH.cons (o := { dst := some 24, op := Op.call { callee := Callee.builtin Builtin.append, args := #[Operand.tmp 16, Operand.tmp 23], argTypes := #[25, 25] }, type := 25, pos := "check.go:37", after := #[{ on := 0, ground := Ground.data }, { on := 7, ground := Ground.data }, { on := 3, ground := Ground.chain }], guard := none }) rfl (fun K hK => ?_) ?_
            · refine app_dcO (.tmp 16) (.tmp 23) rfl O7.out rfl (s, u) w5.heap.size rfl Q7.out KT.out B7.out.size ?_
              intro v8 w8 O8 g8 n8 one8
              have B8 := Lib.hid (B7.out.grown g8 B7.out.size (fun j hj => (O7.out.lt j hj).1))
              have H8 := Lib.hid (H7.out.grown g8 NEQ.out)
              have O8 := Lib.hid (show DcO w8 w.heap.size v8 (arrsL (D.take (k + 1))) by rw [KN.out]; exact O8)
              clear g8 n8
              refine hK.out _ _ ?_ (fun hHeld => ?_)
              · (try dsimp only)
                exact KS.out _ H8.out
              clear hK K
              (try simp only [Act.put, List.setIfInBounds_toArray, List.set_cons_zero, List.set_cons_succ])
              refine wpAnyH_take (i := 9) (oi := { dst := some 3, op := Op.assign (Operand.tmp 24), type := 25, pos := "check.go:37", after := #[{ on := 8, ground := Ground.data }, { on := 8, ground := Ground.chain }, { on := 0, ground := Ground.phase }, { on := 1, ground := Ground.phase }, { on := 2, ground := Ground.phase }, { on := 3, ground := Ground.phase }, { on := 4, ground := Ground.phase }, { on := 5, ground := Ground.phase }, { on := 6, ground := Ground.phase }, { on := 7, ground := Ground.phase }, { on := 8, ground := Ground.phase }], guard := none }) (v := ?_) rfl (by kernel_rfl) (by kernel_rfl) (by kernel_rfl) (fun _ _ _ h => h) (Or.inl ⟨by rfl, ?_⟩) (by assumption) ?_
              rotate_left
              · intro w hSw; (try dsimp only at hSw); go_simp <;> (with_reducible rfl)
              (try simp only [Act.put, List.setIfInBounds_toArray, List.set_cons_zero, List.set_cons_succ])
              refine wpAnyH_done (by kernel_rfl) ?_ _
              refine NoPanic.normal ?_
              clear hHeld
              go_wp2
              go_roundw
              case rel => exact ⟨k + 1, by go_num, by omega, O8, B8⟩
              case measure => simp [intOf]; omega
            exact AllReadyH.nil
          exact AllReadyH.nil
        exact AllReadyH.nil
    · obtain rfl : k = n := by omega
      have HF := Lib.hid (show DcO wr w.heap.size u3 (arrsL D) by have := HV.out; rwa [List.take_of_length_le (by rw [HN.out]; exact Nat.le_refl _)] at this)
      go_wp2
      go_ret
      exact ⟨_, rfl, HF.out, HB.out⟩
end Go.Proofs.YtkacplcilkogpaaDoor.Mm
