/- Package check: what each name is declared as. -/
import Derived.Test.YtkacplcilkogpaaDoorPChkRow
import Derived.Test.YtkacplcilkogpaaDoorPLxB
import Derived.Carry
namespace Go.Proofs.YtkacplcilkogpaaDoor.Mm
open Go.ChangeShapes Go.WideShapes Go.ChangeAt Go.RowKit
set_option linter.unusedVariables false
set_option linter.unusedSimpArgs false
set_option maxRecDepth 10000

theorem hasDrew {w : World} {g : Nat} {t : TypeId} {cs : List Value} (h : HasB w g t cs) : HasB w.drew g t cs := h
theorem dc_st (w : World) (c0 c1 : Value) : ∃ wa w', w.alloc (.cells #[.string ⟨#[]⟩, .int .i64 0] 31) = wa ∧ (wa.setCell ⟨w.heap.size, 0, none⟩ c0).setCell ⟨w.heap.size, 1, none⟩ c1 = w' ∧
    Hid (HasB wa w.heap.size 31 [.string ⟨#[]⟩, .int .i64 0]) ∧ Hid (HasB w' w.heap.size 31 [c0, c1]) ∧ Hid (Below w.heap.size w w') :=
  ⟨_, _, rfl, rfl, Lib.hid (HasB.new w _ _), Lib.hid (has_set (has_set (HasB.new w _ _) 0 c0) 1 c1), Lib.hid (((bel_al (Below.refl _ _) _).setCell (p := ⟨w.heap.size, 0, none⟩) (Nat.le_refl _) c0).setCell (p := ⟨w.heap.size, 1, none⟩) (Nat.le_refl _) c1)⟩
theorem zero_kind (w : World) : (zeroValue 55).run Tryd.prog w = .ok (.int .i64 0) w := by kernel_rfl
set_option maxHeartbeats 4000000 in
theorem kindsOf_any (v0 : Value) (D : List Dc) (w : World) (O : DcO w 0 v0 D) (hl : D.length ≤ 100000) : Calls Tryd.prog 13 #[v0] w fun e w' => e = .returned (.map (some w.heap.size)) ∧ SMap w' w.heap.size (kmap D) ∧ Below w.heap.size w w' := by
  obtain ⟨A0, c0, rfl⟩ := own_form O
  have HO := Lib.hid O
  have M0 := Lib.hid (SMap.made w)
  have B0 := Lib.hid (bel_al (Below.refl w.heap.size w) (.map #[] 0))
  have hmm := @run_makeMap Tryd.prog
  obtain ⟨n, hn⟩ : ∃ n, D.length = n := ⟨_, rfl⟩
  have HN := Lib.hid hn
  rw [hn] at hl ⊢
  clear O hn
  go_enter Tryd.func13, Tryd.ntmps13
  go_wp2
  go_loopw [9] (fun i wr => ∃ k : Nat, i = .int .i64 k ∧ k ≤ n ∧ Hid (SMap wr w.heap.size (kmap (D.take k))) ∧ Hid (Below w.heap.size w wr)) (fun i _ => n - (intOf i).toNat)
  case atStart => exact ⟨0, rfl, Nat.zero_le _, M0, B0⟩
  case round =>
    obtain ⟨k, rfl, hk, HM, HB⟩ := hrel
    by_cases hlt : k < n
    · obtain ⟨x, cap, hv, hs, q0, q1⟩ := dcO_cell (own_belowP HO.out HB.out) (show k < D.length by rw [HN.out]; exact hlt)
      injection hv with hA _ hc
      subst hA
      clear hc
      have KM := Lib.hid (take_snocD D k dc0 (by rw [HN.out]; exact hlt))
      generalize D.getD k dc0 = d at *
      obtain ⟨s, u⟩ := d
      simp only at q0 q1
      have KN := Lib.hid (show kmap (D.take (k + 1)) = putA (kmap (D.take k)) s (kindD u) by rw [KM.out, kmap_snoc])
      clear KM
      obtain ⟨wa, wl, ea, el, HZ, HL, BL⟩ := dc_st wr (.string (strB s)) (.int .i64 u)
      have z0 := HZ.out.cell 0
      have z1 := HZ.out.cell 1
      have y0 := HZ.out.frozen 0
      have y1 := HZ.out.frozen 1
      simp only [List.getElem?_cons_zero, List.getElem?_cons_succ] at z0 z1
      have ML := Lib.hid ((HM.out.below BL.out).drew)
      have BD := Lib.hid (below_drewP (bel_then HB.out BL.out))
      have KS := Lib.hid (fun (w' : World) (H : HasB w' wr.heap.size 31 [.string (strB s), .int .i64 u]) => (show (fun w' => w'.cell? ⟨wr.heap.size, 0, none⟩ = some (.string (strB s)) ∧ w'.cell? ⟨wr.heap.size, 1, none⟩ = some (.int .i64 u)) w' from ⟨H.cell 0, H.cell 1⟩))
      clear hmm M0 B0
      go_wp2_with fail
      refine wp_region_noPanic ?_
      refine wp_region_held_drew (S := (fun w' => w'.cell? ⟨wr.heap.size, 0, none⟩ = some (.string (strB s)) ∧ w'.cell? ⟨wr.heap.size, 1, none⟩ = some (.int .i64 u))) (by kernel_rfl) ?_ (fun hHeld => ?_)
      · (try dsimp only)
        exact KS.out _ (hasDrew HL.out)
      refine wpAnyH_take (i := 0) (oi := { dst := some 13, op := Op.move (Operand.tmp 3), type := 51, pos := "check.go:87", after := #[], guard := none }) (v := ?_) rfl (by kernel_rfl) (by kernel_rfl) (by kernel_rfl) (fun _ _ _ h => h) (Or.inl ⟨by rfl, ?_⟩) (by assumption) ?_
      rotate_left
      · intro w hSw; (try dsimp only at hSw); go_simp <;> (with_reducible rfl)
      (try simp only [Act.put, List.setIfInBounds_toArray, List.set_cons_zero, List.set_cons_succ])
      refine wpAnyH_take (i := 1) (oi := { dst := some 14, op := Op.fieldAddr 31 (Operand.tmp 5) 0, type := 0, pos := "check.go:87", after := #[], guard := none }) (v := ?_) rfl (by kernel_rfl) (by kernel_rfl) (by kernel_rfl) (fun _ _ _ h => h) (Or.inl ⟨by rfl, ?_⟩) (by assumption) ?_
      rotate_left
      · intro w hSw; (try dsimp only at hSw); go_simp <;> (with_reducible rfl)
      (try simp only [Act.put, List.setIfInBounds_toArray, List.set_cons_zero, List.set_cons_succ])
      refine wpAnyH_take (i := 2) (oi := { dst := some 15, op := Op.load 9 (Operand.tmp 14), type := 9, pos := "check.go:87", after := #[{ on := 1, ground := Ground.data }], guard := none }) (v := ?_) rfl (by kernel_rfl) (by kernel_rfl) (by kernel_rfl) (fun _ _ _ h => h) (Or.inl ⟨by rfl, ?_⟩) (by assumption) ?_
      rotate_left
      · intro w hSw; (try dsimp only at hSw); go_simp <;> (with_reducible rfl)
      (try simp only [Act.put, List.setIfInBounds_toArray, List.set_cons_zero, List.set_cons_succ])
      refine wpAnyH_take (i := 3) (oi := { dst := some 16, op := Op.load 31 (Operand.tmp 5), type := 31, pos := "check.go:87", after := #[], guard := none }) (v := ?_) rfl (by kernel_rfl) (by kernel_rfl) (by kernel_rfl) (fun _ _ _ h => h) (Or.inl ⟨by rfl, ?_⟩) (by assumption) ?_
      rotate_left
      · intro w hSw; (try dsimp only at hSw); go_simp <;> (with_reducible rfl)
      (try simp only [Act.put, List.setIfInBounds_toArray, List.set_cons_zero, List.set_cons_succ])
      refine wpAnyH_ready (rs := [4]) (by kernel_rfl) (by simp) ?_
      refine AllReadyH.cons (o := { dst := some 17, op := Op.call { callee := Callee.value (Operand.func 16), args := #[Operand.tmp 16], argTypes := #[31] }, type := 55, pos := "check.go:87", after := #[{ on := 3, ground := Ground.data }], guard := none }) rfl (fun K hK => ?_) ?_
      · go_simp
        (with_reducible refine (kindOf_any _ _ _).mono ?_); rintro e w5 ⟨rfl, b5⟩
        go_wp2_with fail
        have H5 := Lib.hid ((hasDrew HL.out).below b5)
        obtain ⟨w6, hrun, M6, g6, z6⟩ := (ML.out.below b5).put (P := Tryd.prog) (mt := 51) Tryd.underlying51 Tryd.underlying9 s (kindD u)
        have B5 := Lib.hid (bel_then BD.out b5)
        have M6 := Lib.hid (show SMap w6 w.heap.size (kmap (D.take (k + 1))) by rw [KN.out]; exact M6)
        have B6 := Lib.hid (B5.out.grown g6 B5.out.size (fun j e => by injection e with e; omega))
        have H6 := Lib.hid (H5.out.grown g6 (by have := HB.out.size; have := HM.out.lt; intro e; injection e with e; omega))
        clear b5 g6 z6
        refine hK.out _ _ ?_ (fun hHeld => ?_)
        · (try dsimp only)
          exact KS.out _ H5.out
        clear hK K
        (try simp only [Act.put, List.setIfInBounds_toArray, List.set_cons_zero, List.set_cons_succ])
        refine wpAnyH_ready (rs := [5]) (by kernel_rfl) (by simp) ?_
        refine AllReadyH.cons (o := { dst := none, op := Op.mapUpdate 51 (Operand.tmp 13) (Operand.tmp 15) (Operand.tmp 17), type := 0, pos := "check.go:87", after := #[{ on := 0, ground := Ground.data }, { on := 2, ground := Ground.data }, { on := 4, ground := Ground.data }, { on := 4, ground := Ground.chain }, { on := 0, ground := Ground.phase }, { on := 1, ground := Ground.phase }, { on := 2, ground := Ground.phase }, { on := 3, ground := Ground.phase }, { on := 4, ground := Ground.phase }], guard := none }) rfl (fun K hK => ?_) ?_
        · go_simp
          refine hK.out _ _ ?_ (fun hHeld => ?_)
          · (try dsimp only)
            exact KS.out _ H6.out
          clear hK K
          (try simp only [Act.put, List.setIfInBounds_toArray, List.set_cons_zero, List.set_cons_succ])
          refine wpAnyH_done (by kernel_rfl) ?_ _
          refine NoPanic.normal ?_
          clear hHeld
          go_wp2
          go_roundw
          case rel => exact ⟨k + 1, by go_num, by omega, M6, B6⟩
          case measure => simp [intOf]; omega
        exact AllReadyH.nil
      exact AllReadyH.nil
    · obtain rfl : k = n := by omega
      have HF := Lib.hid (show SMap wr w.heap.size (kmap D) by have := HM.out; rwa [List.take_of_length_le (by rw [HN.out]; exact Nat.le_refl _)] at this)
      go_wp2
      go_ret
      exact ⟨rfl, HF.out, HB.out⟩
end Go.Proofs.YtkacplcilkogpaaDoor.Mm
