/- The statement SlabAdds, walked, over the contracts of package slab. -/
import Derived.Test.YtalglocplebonaaSlabC
namespace Go.Proofs.Ytalglocplebonaa.Mm
open Go.ChangeShapes Go.WideShapes Go.ChangeAt Go.RowKit
set_option linter.unusedVariables false

set_option maxRecDepth 10000 in
set_option maxHeartbeats 8000000 in
theorem vadds_few (AW : Hid AwS) (AC : Hid AddC) (DC : Hid DropC) (A0 : Option Addr) (ca n : Nat) (L : List Rg) (hl : L.length = n) (hn : n ≤ 100) (x : Rg) (hx : rgWf x) (w : World) (rA : RgRow w A0 ca L) :
    Calls Try.prog 6 #[.slice A0 n ca, .agg #[.int .i64 x.1, .int .i64 x.2]] w fun e w' => e = .returned (.bool true) ∧ Below w.heap.size w w' := by
  have RA := Lib.hid rA
  have HL := Lib.hid hl
  have HX := Lib.hid hx
  obtain ⟨xa, xb⟩ := x
  simp only
  have OF := Lib.hid (fun w' (b : Below w.heap.size w w') => of_any A0 ca n L hl hn w' (rA.below b))
  have A1 := Lib.hid (fun A c w' (r : RgRow w' A c L) => AC.out A c n L (xa, xb) hl (by omega) hx w' r)
  clear rA hl hx
  simp only at A1
  go_enter Try.func6, Try.ntmps6
  go_wp2_with fail
  refine (AW.out _).mono ?_; rintro e w1 ⟨rfl, hb1⟩
  have HA := Lib.hid (((HasB.new w 42 [.int .i64 xa, .int .i64 xb])).below hb1)
  have B1 := Lib.hid (bel_then (bel_al (Below.refl _ w) (.cells #[.int .i64 xa, .int .i64 xb] 42)) hb1)
  clear hb1
  have ca0 := HA.out.cell 0
  have ca1 := HA.out.cell 1
  simp at ca0 ca1
  go_wp2_with fail
  have HY := Lib.hid (HasB.new w1 26 [.int .i64 xa, .int .i64 xb])
  have HA2 := Lib.hid (HA.out.below (bel_al (Below.refl _ w1) (.cells #[.int .i64 xa, .int .i64 xb] 26)))
  have B2 := Lib.hid (bel_al B1.out (.cells #[.int .i64 xa, .int .i64 xb] 26))
  clear ca0 ca1 HA
  have hW2 : w1.alloc (.cells #[.int .i64 xa, .int .i64 xb] 26) = w1.alloc (.cells [.int .i64 xa, .int .i64 xb].toArray 26) := rfl
  rw [← hW2] at HY
  clear hW2
  generalize w1.alloc (.cells #[.int .i64 xa, .int .i64 xb] 26) = w2 at *
  generalize w1.heap.size = g1 at *
  have KS := Lib.hid (fun (w' : World) (b : Below w2.heap.size w2 w') => (show (w'.cell? ⟨g1, 0, none⟩ = some (.int .i64 xa) ∧ w'.cell? ⟨g1, 1, none⟩ = some (.int .i64 xb)) ∧ Below w2.heap.size w2 w' from ⟨⟨(HY.out.below b).cell 0, (HY.out.below b).cell 1⟩, b⟩))
  have BR := Lib.hid (Below.refl w2.heap.size w2)
  go_region_held3 (fun w' => (w'.cell? ⟨g1, 0, none⟩ = some (.int .i64 xa) ∧ w'.cell? ⟨g1, 1, none⟩ = some (.int .i64 xb)) ∧ Below w2.heap.size w2 w')
    (first | exact KS.out _ BR.out | exact KS.out _ (below_drewG BR.out) | exact KS.out _ (bel_then (‹_ ∧ Below _ _ _›).2 hb))
    (first | (go_at_call 12; (with_reducible refine (OF.out _ (B2.out.trans ((‹_ ∧ Below w2.heap.size w2 _›).2.mono B2.out.size))).mono ?_); rintro e w' ⟨A5, c5, rfl, r5, hb⟩) | (go_at_call 16; (with_reducible refine (A1.out _ _ _ r5).mono ?_); rintro e w' ⟨A6, c6, M, P, Q, rfl, ha, r6, hb⟩))
  have R6 := Lib.hid r6
  have HM := Lib.hid ha
  have LM : Hid (M.length = n + 1) := Lib.hid (by rw [add_len ha, HL.out])
  have B6 := Lib.hid (B2.out.trans ((‹_ ∧ Below w2.heap.size w2 _›).2.mono B2.out.size))
  have HA6 := Lib.hid (HA2.out.below (‹_ ∧ Below w2.heap.size w2 _›).2)
  have HY6 := Lib.hid (HY.out.below (‹_ ∧ Below w2.heap.size w2 _›).2)
  have hPQ : P.length + Q.length = n := by have := ha.was; have := HL.out; subst ‹L = P ++ Q›; simpa using this
  rename_i hHeld
  clear hHeld hb r6 ha r5 KS BR A1 HY HA2
  generalize hq : w' = wq at *
  clear hq
  go_wp2_with fail
  go_loopw [7, 8] (fun v i wr => ∃ (k j : Nat), v = .int .i64 k ∧ i = .int .i64 j ∧ j ≤ n + 1 ∧ Hid (ToldI P.length (P.length + Q.length) j k) ∧ Hid (Below wq.heap.size wq wr)) (fun _ i _ => n + 1 - (intOf i).toNat)
  case atStart => exact ⟨0, 0, rfl, rfl, by omega, Lib.hid (told_start _ _), Lib.hid (Below.refl _ _)⟩
  case round =>
    obtain ⟨k, j, rfl, rfl, hj, TI, HB⟩ := hrel
    by_cases hlt : j < n + 1
    · obtain ⟨x6, rfl, hxb, hc⟩ := (R6.out.below HB.out).2.2.2 (by intro e; have := LM.out; rw [e] at this; simp at this)
      have c0 := (hc j (by rw [LM.out]; exact hlt)).c0
      have c1 := (hc j (by rw [LM.out]; exact hlt)).c1
      clear hc
      by_cases hk : k < n
      · have TS := Lib.hid (told_step (x := (xa, xb)) TI.out (show j < P.length + Q.length + 1 by omega))
        rw [← HM.out.now, ← HM.out.was] at TS
        have FK := Lib.hid (fun A c w' (r : RgRow w' A c L) => (by
          obtain ⟨x, h1, h2, h3⟩ := r.2.2.2 (by intro e; have := HL.out; rw [e] at this; simp at this; omega)
          exact ⟨x, h1, (h3 k (by rw [HL.out]; exact hk)).c0, (h3 k (by rw [HL.out]; exact hk)).c1⟩ : ∃ x, A = some x ∧ w'.cell? (x.add (k * 2)) = some (.int .i64 (L.getD k (0, 0)).1) ∧ w'.cell? ⟨(x.add (k * 2)).block, (x.add (k * 2)).off + 1, none⟩ = some (.int .i64 (L.getD k (0, 0)).2)))
        generalize M.getD j (0, 0) = y at *
        generalize L.getD k (0, 0) = z at *
        obtain ⟨ya, yb⟩ := y
        obtain ⟨za, zb⟩ := z
        simp only at c0 c1 FK
        have KM := Lib.hid (fun (w' : World) (b : Below wr.heap.size wr w') => (show (w'.cell? (x6.add (j * 2)) = some (.int .i64 ya) ∧ w'.cell? ⟨(x6.add (j * 2)).block, (x6.add (j * 2)).off + 1, none⟩ = some (.int .i64 yb)) ∧ Below wr.heap.size wr w' from ⟨⟨(b.cell (by rw [block_add]; exact hxb)).trans c0, (b.cell (p := ⟨(x6.add (j * 2)).block, (x6.add (j * 2)).off + 1, none⟩) (by rw [block_add]; exact hxb)).trans c1⟩, b⟩))
        have BW := Lib.hid (B6.out.trans (HB.out.mono B6.out.size))
        have BR := Lib.hid (Below.refl wr.heap.size wr)
        clear c0 c1 hb
        go_wp2_with fail
        by_cases hq : (ya, yb) = (za, zb)
        · rw [if_pos ⟨by omega, hq⟩] at TS
          obtain ⟨rfl, rfl⟩ := Prod.mk.inj hq
          clear hq
          refine wp_region_noPanic ?_
          refine wp_region_held_drew (S := (fun w' => (w'.cell? (x6.add (j * 2)) = some (.int .i64 ya) ∧ w'.cell? ⟨(x6.add (j * 2)).block, (x6.add (j * 2)).off + 1, none⟩ = some (.int .i64 yb)) ∧ Below wr.heap.size wr w')) (by kernel_rfl) ?_ (fun hHeld => ?_)
          · (try dsimp only)
            first | exact KM.out _ BR.out | exact KM.out _ (below_drewG BR.out)
          refine wpAnyH_take (i := 0) (oi := { dst := some 38, op := Op.move (Operand.tmp 7), type := 3, pos := "law.go:106", after := #[], guard := none }) (v := ?_) rfl (by kernel_rfl) (by kernel_rfl) (by kernel_rfl) (fun _ _ _ h => h) (Or.inl ⟨by rfl, ?_⟩) (by assumption) ?_
          rotate_left
          · intro w hSw; (try dsimp only at hSw); go_simp <;> (with_reducible rfl)
          (try simp only [Act.put, List.setIfInBounds_toArray, List.set_cons_zero, List.set_cons_succ])
          refine wpAnyH_take (i := 1) (oi := { dst := some 39, op := Op.move (Operand.tmp 0), type := 22, pos := "law.go:106", after := #[], guard := none }) (v := ?_) rfl (by kernel_rfl) (by kernel_rfl) (by kernel_rfl) (fun _ _ _ h => h) (Or.inl ⟨by rfl, ?_⟩) (by assumption) ?_
          rotate_left
          · intro w hSw; (try dsimp only at hSw); go_simp <;> (with_reducible rfl)
          (try simp only [Act.put, List.setIfInBounds_toArray, List.set_cons_zero, List.set_cons_succ])
          refine wpAnyH_take (i := 2) (oi := { dst := some 40, op := Op.call { callee := Callee.builtin Builtin.len, args := #[Operand.tmp 39], argTypes := #[22] }, type := 3, pos := "law.go:106", after := #[{ on := 1, ground := Ground.data }], guard := none }) (v := ?_) rfl (by kernel_rfl) (by kernel_rfl) (by kernel_rfl) (fun _ _ _ h => h) (Or.inl ⟨by rfl, ?_⟩) (by assumption) ?_
          rotate_left
          · intro w hSw; (try dsimp only at hSw); go_simp <;> (with_reducible rfl)
          (try simp only [Act.put, List.setIfInBounds_toArray, List.set_cons_zero, List.set_cons_succ])
          refine wpAnyH_take (i := 3) (oi := { dst := some 41, op := Op.binOp BinOp.lss 3 (Operand.tmp 38) (Operand.tmp 40) 3, type := 4, pos := "law.go:106", after := #[{ on := 0, ground := Ground.data }, { on := 2, ground := Ground.data }], guard := none }) (v := ?_) rfl (by kernel_rfl) (by kernel_rfl) (by kernel_rfl) (fun _ _ _ h => h) (Or.inl ⟨by rfl, ?_⟩) (by assumption) ?_
          rotate_left
          · intro w hSw; (try dsimp only at hSw); go_simp <;> (with_reducible rfl)
          (try simp only [Act.put, List.setIfInBounds_toArray, List.set_cons_zero, List.set_cons_succ])
          refine wpAnyH_take (i := 4) (oi := { dst := some 42, op := Op.move (Operand.tmp 41), type := 4, pos := "law.go:106", after := #[{ on := 3, ground := Ground.data }], guard := none }) (v := ?_) rfl (by kernel_rfl) (by kernel_rfl) (by kernel_rfl) (fun _ _ _ h => h) (Or.inl ⟨by rfl, ?_⟩) (by assumption) ?_
          rotate_left
          · intro w hSw; (try dsimp only at hSw); go_simp <;> (with_reducible rfl)
          (try simp only [Act.put, List.setIfInBounds_toArray, List.set_cons_zero, List.set_cons_succ])
          refine wpAnyH_take (i := 5) (oi := { dst := some 43, op := Op.move (Operand.tmp 6), type := 30, pos := "law.go:106", after := #[{ on := 4, ground := Ground.guard }], guard := some (4, true) }) (v := ?_) rfl (by kernel_rfl) (by kernel_rfl) (by kernel_rfl) (fun _ _ _ h => h) (Or.inl ⟨by rfl, ?_⟩) (by assumption) ?_
          rotate_left
          · intro w hSw; (try dsimp only at hSw); go_simp <;> (with_reducible rfl)
          (try simp only [Act.put, List.setIfInBounds_toArray, List.set_cons_zero, List.set_cons_succ])
          refine wpAnyH_take (i := 6) (oi := { dst := some 44, op := Op.move (Operand.tmp 8), type := 3, pos := "law.go:106", after := #[{ on := 4, ground := Ground.guard }], guard := some (4, true) }) (v := ?_) rfl (by kernel_rfl) (by kernel_rfl) (by kernel_rfl) (fun _ _ _ h => h) (Or.inl ⟨by rfl, ?_⟩) (by assumption) ?_
          rotate_left
          · intro w hSw; (try dsimp only at hSw); go_simp <;> (with_reducible rfl)
          (try simp only [Act.put, List.setIfInBounds_toArray, List.set_cons_zero, List.set_cons_succ])
          refine wpAnyH_take (i := 7) (oi := { dst := some 45, op := Op.indexAddr 30 (Operand.tmp 43) (Operand.tmp 44), type := 0, pos := "law.go:106", after := #[{ on := 5, ground := Ground.data }, { on := 6, ground := Ground.data }, { on := 4, ground := Ground.guard }], guard := some (4, true) }) (v := ?_) rfl (by kernel_rfl) (by kernel_rfl) (by kernel_rfl) (fun _ _ _ h => h) (Or.inl ⟨by rfl, ?_⟩) (by assumption) ?_
          rotate_left
          · intro w hSw; (try dsimp only at hSw); go_simp <;> (with_reducible rfl)
          (try simp only [Act.put, List.setIfInBounds_toArray, List.set_cons_zero, List.set_cons_succ])
          refine wpAnyH_take (i := 8) (oi := { dst := some 46, op := Op.load 26 (Operand.tmp 45), type := 26, pos := "law.go:106", after := #[{ on := 7, ground := Ground.data }, { on := 4, ground := Ground.guard }], guard := some (4, true) }) (v := ?_) rfl (by kernel_rfl) (by kernel_rfl) (by kernel_rfl) (fun _ _ _ h => h) (Or.inl ⟨by rfl, ?_⟩) (by assumption) ?_
          rotate_left
          · intro w hSw; (try dsimp only at hSw); go_simp <;> (with_reducible rfl)
          (try simp only [Act.put, List.setIfInBounds_toArray, List.set_cons_zero, List.set_cons_succ])
          refine wpAnyH_take (i := 9) (oi := { dst := some 47, op := Op.move (Operand.tmp 0), type := 22, pos := "law.go:106", after := #[{ on := 4, ground := Ground.guard }], guard := some (4, true) }) (v := ?_) rfl (by kernel_rfl) (by kernel_rfl) (by kernel_rfl) (fun _ _ _ h => h) (Or.inl ⟨by rfl, ?_⟩) (by assumption) ?_
          rotate_left
          · intro w hSw; (try dsimp only at hSw); go_simp <;> (with_reducible rfl)
          (try simp only [Act.put, List.setIfInBounds_toArray, List.set_cons_zero, List.set_cons_succ])
          refine wpAnyH_take (i := 11) (oi := { dst := some 49, op := Op.move (Operand.tmp 7), type := 3, pos := "law.go:106", after := #[{ on := 4, ground := Ground.guard }], guard := some (4, true) }) (v := ?_) rfl (by kernel_rfl) (by kernel_rfl) (by kernel_rfl) (fun _ _ _ h => h) (Or.inl ⟨by rfl, ?_⟩) (by assumption) ?_
          rotate_left
          · intro w hSw; (try dsimp only at hSw); go_simp <;> (with_reducible rfl)
          (try simp only [Act.put, List.setIfInBounds_toArray, List.set_cons_zero, List.set_cons_succ])
          refine wpAnyH_ready (rs := [10]) (by kernel_rfl) (by simp) ?_
          refine AllReadyH.cons (o := { dst := some 48, op := Op.call { callee := Callee.value (Operand.func 12), args := #[Operand.tmp 47], argTypes := #[22] }, type := 30, pos := "law.go:106", after := #[{ on := 9, ground := Ground.data }, { on := 4, ground := Ground.chain }, { on := 4, ground := Ground.guard }], guard := some (4, true) }) rfl (fun K hK => ?_) ?_
          · go_simp
            (with_reducible refine (OF.out _ (BW.out.trans (hHeld.2.mono BW.out.size))).mono ?_); rintro e w' ⟨A7, c7, rfl, r7, hb⟩
            obtain ⟨x7, rfl, d0, d1⟩ := FK.out _ _ _ r7
            go_wp2_with fail
            refine hK.out _ _ ?_ (fun hHeld => ?_)
            · (try dsimp only)
              exact KM.out _ (bel_then hHeld.2 hb)
            clear hK K
            (try simp only [Act.put, List.setIfInBounds_toArray, List.set_cons_zero, List.set_cons_succ])
            refine wpAnyH_take (i := 12) (oi := { dst := some 50, op := Op.indexAddr 30 (Operand.tmp 48) (Operand.tmp 49), type := 0, pos := "law.go:106", after := #[{ on := 10, ground := Ground.data }, { on := 11, ground := Ground.data }, { on := 4, ground := Ground.guard }], guard := some (4, true) }) (v := ?_) rfl (by kernel_rfl) (by kernel_rfl) (by kernel_rfl) (fun _ _ _ h => h) (Or.inl ⟨by rfl, ?_⟩) (by assumption) ?_
            rotate_left
            · intro w hSw; (try dsimp only at hSw); go_simp <;> (with_reducible rfl)
            (try simp only [Act.put, List.setIfInBounds_toArray, List.set_cons_zero, List.set_cons_succ])
            refine wpAnyH_ready (rs := [13]) (by kernel_rfl) (by simp) ?_
            refine AllReadyH.cons (o := { dst := some 51, op := Op.load 26 (Operand.tmp 50), type := 26, pos := "law.go:106", after := #[{ on := 12, ground := Ground.data }, { on := 4, ground := Ground.guard }], guard := some (4, true) }) rfl (fun K hK => ?_) ?_
            · go_simp
              refine hK.out _ _ ?_ (fun hHeld => ?_)
              · (try dsimp only)
                exact hHeld
              clear hK K
              (try simp only [Act.put, List.setIfInBounds_toArray, List.set_cons_zero, List.set_cons_succ])
              refine wpAnyH_take (i := 14) (oi := { dst := some 52, op := Op.binOp BinOp.eql 26 (Operand.tmp 46) (Operand.tmp 51) 26, type := 4, pos := "law.go:106", after := #[{ on := 8, ground := Ground.data }, { on := 13, ground := Ground.data }, { on := 4, ground := Ground.guard }], guard := some (4, true) }) (v := ?_) rfl (by kernel_rfl) (by kernel_rfl) (by kernel_rfl) (fun _ _ _ h => h) (Or.inl ⟨by rfl, ?_⟩) (by assumption) ?_
              rotate_left
              · intro w hSw; (try dsimp only at hSw); go_simp <;> (with_reducible rfl)
              (try simp only [Act.put, List.setIfInBounds_toArray, List.set_cons_zero, List.set_cons_succ])
              refine wpAnyH_take (i := 15) (oi := { dst := some 53, op := Op.pick (Operand.tmp 42) (Operand.tmp 52) (Operand.const (Value.bool false)), type := 4, pos := "law.go:106", after := #[{ on := 4, ground := Ground.data }, { on := 14, ground := Ground.data }], guard := none }) (v := ?_) rfl (by kernel_rfl) (by kernel_rfl) (by kernel_rfl) (fun _ _ _ h => h) (Or.inl ⟨by rfl, ?_⟩) (by assumption) ?_
              rotate_left
              · intro w hSw; (try dsimp only at hSw); go_simp <;> (with_reducible rfl)
              (try simp only [Act.put, List.setIfInBounds_toArray, List.set_cons_zero, List.set_cons_succ])
              refine wpAnyH_done (by kernel_rfl) ?_ _
              refine NoPanic.normal ?_
              have BN := Lib.hid (HB.out.trans (hHeld.2.mono HB.out.size))
              go_wp2_with fail
              go_roundw
              case rel => exact ⟨k + 1, j + 1, by go_num, by go_num, by omega, TS, BN⟩
              case measure => simp [intOf]; omega
            exact AllReadyH.nil
          exact AllReadyH.nil
        · rw [if_neg (fun h => hq h.2)] at TS
          by_cases h1 : ya = za
          · subst h1
            have h2 : ¬ yb = zb := fun e => hq (by rw [e])
            clear hq
            refine wp_region_noPanic ?_
            refine wp_region_held_drew (S := (fun w' => (w'.cell? (x6.add (j * 2)) = some (.int .i64 ya) ∧ w'.cell? ⟨(x6.add (j * 2)).block, (x6.add (j * 2)).off + 1, none⟩ = some (.int .i64 yb)) ∧ Below wr.heap.size wr w')) (by kernel_rfl) ?_ (fun hHeld => ?_)
            · (try dsimp only)
              first | exact KM.out _ BR.out | exact KM.out _ (below_drewG BR.out)
            refine wpAnyH_take (i := 0) (oi := { dst := some 38, op := Op.move (Operand.tmp 7), type := 3, pos := "law.go:106", after := #[], guard := none }) (v := ?_) rfl (by kernel_rfl) (by kernel_rfl) (by kernel_rfl) (fun _ _ _ h => h) (Or.inl ⟨by rfl, ?_⟩) (by assumption) ?_
            rotate_left
            · intro w hSw; (try dsimp only at hSw); go_simp <;> (with_reducible rfl)
            (try simp only [Act.put, List.setIfInBounds_toArray, List.set_cons_zero, List.set_cons_succ])
            refine wpAnyH_take (i := 1) (oi := { dst := some 39, op := Op.move (Operand.tmp 0), type := 22, pos := "law.go:106", after := #[], guard := none }) (v := ?_) rfl (by kernel_rfl) (by kernel_rfl) (by kernel_rfl) (fun _ _ _ h => h) (Or.inl ⟨by rfl, ?_⟩) (by assumption) ?_
            rotate_left
            · intro w hSw; (try dsimp only at hSw); go_simp <;> (with_reducible rfl)
            (try simp only [Act.put, List.setIfInBounds_toArray, List.set_cons_zero, List.set_cons_succ])
            refine wpAnyH_take (i := 2) (oi := { dst := some 40, op := Op.call { callee := Callee.builtin Builtin.len, args := #[Operand.tmp 39], argTypes := #[22] }, type := 3, pos := "law.go:106", after := #[{ on := 1, ground := Ground.data }], guard := none }) (v := ?_) rfl (by kernel_rfl) (by kernel_rfl) (by kernel_rfl) (fun _ _ _ h => h) (Or.inl ⟨by rfl, ?_⟩) (by assumption) ?_
            rotate_left
            · intro w hSw; (try dsimp only at hSw); go_simp <;> (with_reducible rfl)
            (try simp only [Act.put, List.setIfInBounds_toArray, List.set_cons_zero, List.set_cons_succ])
            refine wpAnyH_take (i := 3) (oi := { dst := some 41, op := Op.binOp BinOp.lss 3 (Operand.tmp 38) (Operand.tmp 40) 3, type := 4, pos := "law.go:106", after := #[{ on := 0, ground := Ground.data }, { on := 2, ground := Ground.data }], guard := none }) (v := ?_) rfl (by kernel_rfl) (by kernel_rfl) (by kernel_rfl) (fun _ _ _ h => h) (Or.inl ⟨by rfl, ?_⟩) (by assumption) ?_
            rotate_left
            · intro w hSw; (try dsimp only at hSw); go_simp <;> (with_reducible rfl)
            (try simp only [Act.put, List.setIfInBounds_toArray, List.set_cons_zero, List.set_cons_succ])
            refine wpAnyH_take (i := 4) (oi := { dst := some 42, op := Op.move (Operand.tmp 41), type := 4, pos := "law.go:106", after := #[{ on := 3, ground := Ground.data }], guard := none }) (v := ?_) rfl (by kernel_rfl) (by kernel_rfl) (by kernel_rfl) (fun _ _ _ h => h) (Or.inl ⟨by rfl, ?_⟩) (by assumption) ?_
            rotate_left
            · intro w hSw; (try dsimp only at hSw); go_simp <;> (with_reducible rfl)
            (try simp only [Act.put, List.setIfInBounds_toArray, List.set_cons_zero, List.set_cons_succ])
            refine wpAnyH_take (i := 5) (oi := { dst := some 43, op := Op.move (Operand.tmp 6), type := 30, pos := "law.go:106", after := #[{ on := 4, ground := Ground.guard }], guard := some (4, true) }) (v := ?_) rfl (by kernel_rfl) (by kernel_rfl) (by kernel_rfl) (fun _ _ _ h => h) (Or.inl ⟨by rfl, ?_⟩) (by assumption) ?_
            rotate_left
            · intro w hSw; (try dsimp only at hSw); go_simp <;> (with_reducible rfl)
            (try simp only [Act.put, List.setIfInBounds_toArray, List.set_cons_zero, List.set_cons_succ])
            refine wpAnyH_take (i := 6) (oi := { dst := some 44, op := Op.move (Operand.tmp 8), type := 3, pos := "law.go:106", after := #[{ on := 4, ground := Ground.guard }], guard := some (4, true) }) (v := ?_) rfl (by kernel_rfl) (by kernel_rfl) (by kernel_rfl) (fun _ _ _ h => h) (Or.inl ⟨by rfl, ?_⟩) (by assumption) ?_
            rotate_left
            · intro w hSw; (try dsimp only at hSw); go_simp <;> (with_reducible rfl)
            (try simp only [Act.put, List.setIfInBounds_toArray, List.set_cons_zero, List.set_cons_succ])
            refine wpAnyH_take (i := 7) (oi := { dst := some 45, op := Op.indexAddr 30 (Operand.tmp 43) (Operand.tmp 44), type := 0, pos := "law.go:106", after := #[{ on := 5, ground := Ground.data }, { on := 6, ground := Ground.data }, { on := 4, ground := Ground.guard }], guard := some (4, true) }) (v := ?_) rfl (by kernel_rfl) (by kernel_rfl) (by kernel_rfl) (fun _ _ _ h => h) (Or.inl ⟨by rfl, ?_⟩) (by assumption) ?_
            rotate_left
            · intro w hSw; (try dsimp only at hSw); go_simp <;> (with_reducible rfl)
            (try simp only [Act.put, List.setIfInBounds_toArray, List.set_cons_zero, List.set_cons_succ])
            refine wpAnyH_take (i := 8) (oi := { dst := some 46, op := Op.load 26 (Operand.tmp 45), type := 26, pos := "law.go:106", after := #[{ on := 7, ground := Ground.data }, { on := 4, ground := Ground.guard }], guard := some (4, true) }) (v := ?_) rfl (by kernel_rfl) (by kernel_rfl) (by kernel_rfl) (fun _ _ _ h => h) (Or.inl ⟨by rfl, ?_⟩) (by assumption) ?_
            rotate_left
            · intro w hSw; (try dsimp only at hSw); go_simp <;> (with_reducible rfl)
            (try simp only [Act.put, List.setIfInBounds_toArray, List.set_cons_zero, List.set_cons_succ])
            refine wpAnyH_take (i := 9) (oi := { dst := some 47, op := Op.move (Operand.tmp 0), type := 22, pos := "law.go:106", after := #[{ on := 4, ground := Ground.guard }], guard := some (4, true) }) (v := ?_) rfl (by kernel_rfl) (by kernel_rfl) (by kernel_rfl) (fun _ _ _ h => h) (Or.inl ⟨by rfl, ?_⟩) (by assumption) ?_
            rotate_left
            · intro w hSw; (try dsimp only at hSw); go_simp <;> (with_reducible rfl)
            (try simp only [Act.put, List.setIfInBounds_toArray, List.set_cons_zero, List.set_cons_succ])
            refine wpAnyH_take (i := 11) (oi := { dst := some 49, op := Op.move (Operand.tmp 7), type := 3, pos := "law.go:106", after := #[{ on := 4, ground := Ground.guard }], guard := some (4, true) }) (v := ?_) rfl (by kernel_rfl) (by kernel_rfl) (by kernel_rfl) (fun _ _ _ h => h) (Or.inl ⟨by rfl, ?_⟩) (by assumption) ?_
            rotate_left
            · intro w hSw; (try dsimp only at hSw); go_simp <;> (with_reducible rfl)
            (try simp only [Act.put, List.setIfInBounds_toArray, List.set_cons_zero, List.set_cons_succ])
            refine wpAnyH_ready (rs := [10]) (by kernel_rfl) (by simp) ?_
            refine AllReadyH.cons (o := { dst := some 48, op := Op.call { callee := Callee.value (Operand.func 12), args := #[Operand.tmp 47], argTypes := #[22] }, type := 30, pos := "law.go:106", after := #[{ on := 9, ground := Ground.data }, { on := 4, ground := Ground.chain }, { on := 4, ground := Ground.guard }], guard := some (4, true) }) rfl (fun K hK => ?_) ?_
            · go_simp
              (with_reducible refine (OF.out _ (BW.out.trans (hHeld.2.mono BW.out.size))).mono ?_); rintro e w' ⟨A7, c7, rfl, r7, hb⟩
              obtain ⟨x7, rfl, d0, d1⟩ := FK.out _ _ _ r7
              go_wp2_with fail
              refine hK.out _ _ ?_ (fun hHeld => ?_)
              · (try dsimp only)
                exact KM.out _ (bel_then hHeld.2 hb)
              clear hK K
              (try simp only [Act.put, List.setIfInBounds_toArray, List.set_cons_zero, List.set_cons_succ])
              refine wpAnyH_take (i := 12) (oi := { dst := some 50, op := Op.indexAddr 30 (Operand.tmp 48) (Operand.tmp 49), type := 0, pos := "law.go:106", after := #[{ on := 10, ground := Ground.data }, { on := 11, ground := Ground.data }, { on := 4, ground := Ground.guard }], guard := some (4, true) }) (v := ?_) rfl (by kernel_rfl) (by kernel_rfl) (by kernel_rfl) (fun _ _ _ h => h) (Or.inl ⟨by rfl, ?_⟩) (by assumption) ?_
              rotate_left
              · intro w hSw; (try dsimp only at hSw); go_simp <;> (with_reducible rfl)
              (try simp only [Act.put, List.setIfInBounds_toArray, List.set_cons_zero, List.set_cons_succ])
              refine wpAnyH_ready (rs := [13]) (by kernel_rfl) (by simp) ?_
              refine AllReadyH.cons (o := { dst := some 51, op := Op.load 26 (Operand.tmp 50), type := 26, pos := "law.go:106", after := #[{ on := 12, ground := Ground.data }, { on := 4, ground := Ground.guard }], guard := some (4, true) }) rfl (fun K hK => ?_) ?_
              · go_simp
                refine hK.out _ _ ?_ (fun hHeld => ?_)
                · (try dsimp only)
                  exact hHeld
                clear hK K
                (try simp only [Act.put, List.setIfInBounds_toArray, List.set_cons_zero, List.set_cons_succ])
                refine wpAnyH_take (i := 14) (oi := { dst := some 52, op := Op.binOp BinOp.eql 26 (Operand.tmp 46) (Operand.tmp 51) 26, type := 4, pos := "law.go:106", after := #[{ on := 8, ground := Ground.data }, { on := 13, ground := Ground.data }, { on := 4, ground := Ground.guard }], guard := some (4, true) }) (v := ?_) rfl (by kernel_rfl) (by kernel_rfl) (by kernel_rfl) (fun _ _ _ h => h) (Or.inl ⟨by rfl, ?_⟩) (by assumption) ?_
                rotate_left
                · intro w hSw; (try dsimp only at hSw); go_simp <;> (with_reducible rfl)
                (try simp only [Act.put, List.setIfInBounds_toArray, List.set_cons_zero, List.set_cons_succ])
                refine wpAnyH_take (i := 15) (oi := { dst := some 53, op := Op.pick (Operand.tmp 42) (Operand.tmp 52) (Operand.const (Value.bool false)), type := 4, pos := "law.go:106", after := #[{ on := 4, ground := Ground.data }, { on := 14, ground := Ground.data }], guard := none }) (v := ?_) rfl (by kernel_rfl) (by kernel_rfl) (by kernel_rfl) (fun _ _ _ h => h) (Or.inl ⟨by rfl, ?_⟩) (by assumption) ?_
                rotate_left
                · intro w hSw; (try dsimp only at hSw); go_simp <;> (with_reducible rfl)
                (try simp only [Act.put, List.setIfInBounds_toArray, List.set_cons_zero, List.set_cons_succ])
                refine wpAnyH_done (by kernel_rfl) ?_ _
                refine NoPanic.normal ?_
                have BN := Lib.hid (HB.out.trans (hHeld.2.mono HB.out.size))
                go_wp2_with fail
                go_roundw
                case rel => exact ⟨k, j + 1, rfl, by go_num, by omega, TS, BN⟩
                case measure => simp [intOf]; omega
              exact AllReadyH.nil
            exact AllReadyH.nil
          · clear hq
            refine wp_region_noPanic ?_
            refine wp_region_held_drew (S := (fun w' => (w'.cell? (x6.add (j * 2)) = some (.int .i64 ya) ∧ w'.cell? ⟨(x6.add (j * 2)).block, (x6.add (j * 2)).off + 1, none⟩ = some (.int .i64 yb)) ∧ Below wr.heap.size wr w')) (by kernel_rfl) ?_ (fun hHeld => ?_)
            · (try dsimp only)
              first | exact KM.out _ BR.out | exact KM.out _ (below_drewG BR.out)
            refine wpAnyH_take (i := 0) (oi := { dst := some 38, op := Op.move (Operand.tmp 7), type := 3, pos := "law.go:106", after := #[], guard := none }) (v := ?_) rfl (by kernel_rfl) (by kernel_rfl) (by kernel_rfl) (fun _ _ _ h => h) (Or.inl ⟨by rfl, ?_⟩) (by assumption) ?_
            rotate_left
            · intro w hSw; (try dsimp only at hSw); go_simp <;> (with_reducible rfl)
            (try simp only [Act.put, List.setIfInBounds_toArray, List.set_cons_zero, List.set_cons_succ])
            refine wpAnyH_take (i := 1) (oi := { dst := some 39, op := Op.move (Operand.tmp 0), type := 22, pos := "law.go:106", after := #[], guard := none }) (v := ?_) rfl (by kernel_rfl) (by kernel_rfl) (by kernel_rfl) (fun _ _ _ h => h) (Or.inl ⟨by rfl, ?_⟩) (by assumption) ?_
            rotate_left
            · intro w hSw; (try dsimp only at hSw); go_simp <;> (with_reducible rfl)
            (try simp only [Act.put, List.setIfInBounds_toArray, List.set_cons_zero, List.set_cons_succ])
            refine wpAnyH_take (i := 2) (oi := { dst := some 40, op := Op.call { callee := Callee.builtin Builtin.len, args := #[Operand.tmp 39], argTypes := #[22] }, type := 3, pos := "law.go:106", after := #[{ on := 1, ground := Ground.data }], guard := none }) (v := ?_) rfl (by kernel_rfl) (by kernel_rfl) (by kernel_rfl) (fun _ _ _ h => h) (Or.inl ⟨by rfl, ?_⟩) (by assumption) ?_
            rotate_left
            · intro w hSw; (try dsimp only at hSw); go_simp <;> (with_reducible rfl)
            (try simp only [Act.put, List.setIfInBounds_toArray, List.set_cons_zero, List.set_cons_succ])
            refine wpAnyH_take (i := 3) (oi := { dst := some 41, op := Op.binOp BinOp.lss 3 (Operand.tmp 38) (Operand.tmp 40) 3, type := 4, pos := "law.go:106", after := #[{ on := 0, ground := Ground.data }, { on := 2, ground := Ground.data }], guard := none }) (v := ?_) rfl (by kernel_rfl) (by kernel_rfl) (by kernel_rfl) (fun _ _ _ h => h) (Or.inl ⟨by rfl, ?_⟩) (by assumption) ?_
            rotate_left
            · intro w hSw; (try dsimp only at hSw); go_simp <;> (with_reducible rfl)
            (try simp only [Act.put, List.setIfInBounds_toArray, List.set_cons_zero, List.set_cons_succ])
            refine wpAnyH_take (i := 4) (oi := { dst := some 42, op := Op.move (Operand.tmp 41), type := 4, pos := "law.go:106", after := #[{ on := 3, ground := Ground.data }], guard := none }) (v := ?_) rfl (by kernel_rfl) (by kernel_rfl) (by kernel_rfl) (fun _ _ _ h => h) (Or.inl ⟨by rfl, ?_⟩) (by assumption) ?_
            rotate_left
            · intro w hSw; (try dsimp only at hSw); go_simp <;> (with_reducible rfl)
            (try simp only [Act.put, List.setIfInBounds_toArray, List.set_cons_zero, List.set_cons_succ])
            refine wpAnyH_take (i := 5) (oi := { dst := some 43, op := Op.move (Operand.tmp 6), type := 30, pos := "law.go:106", after := #[{ on := 4, ground := Ground.guard }], guard := some (4, true) }) (v := ?_) rfl (by kernel_rfl) (by kernel_rfl) (by kernel_rfl) (fun _ _ _ h => h) (Or.inl ⟨by rfl, ?_⟩) (by assumption) ?_
            rotate_left
            · intro w hSw; (try dsimp only at hSw); go_simp <;> (with_reducible rfl)
            (try simp only [Act.put, List.setIfInBounds_toArray, List.set_cons_zero, List.set_cons_succ])
            refine wpAnyH_take (i := 6) (oi := { dst := some 44, op := Op.move (Operand.tmp 8), type := 3, pos := "law.go:106", after := #[{ on := 4, ground := Ground.guard }], guard := some (4, true) }) (v := ?_) rfl (by kernel_rfl) (by kernel_rfl) (by kernel_rfl) (fun _ _ _ h => h) (Or.inl ⟨by rfl, ?_⟩) (by assumption) ?_
            rotate_left
            · intro w hSw; (try dsimp only at hSw); go_simp <;> (with_reducible rfl)
            (try simp only [Act.put, List.setIfInBounds_toArray, List.set_cons_zero, List.set_cons_succ])
            refine wpAnyH_take (i := 7) (oi := { dst := some 45, op := Op.indexAddr 30 (Operand.tmp 43) (Operand.tmp 44), type := 0, pos := "law.go:106", after := #[{ on := 5, ground := Ground.data }, { on := 6, ground := Ground.data }, { on := 4, ground := Ground.guard }], guard := some (4, true) }) (v := ?_) rfl (by kernel_rfl) (by kernel_rfl) (by kernel_rfl) (fun _ _ _ h => h) (Or.inl ⟨by rfl, ?_⟩) (by assumption) ?_
            rotate_left
            · intro w hSw; (try dsimp only at hSw); go_simp <;> (with_reducible rfl)
            (try simp only [Act.put, List.setIfInBounds_toArray, List.set_cons_zero, List.set_cons_succ])
            refine wpAnyH_take (i := 8) (oi := { dst := some 46, op := Op.load 26 (Operand.tmp 45), type := 26, pos := "law.go:106", after := #[{ on := 7, ground := Ground.data }, { on := 4, ground := Ground.guard }], guard := some (4, true) }) (v := ?_) rfl (by kernel_rfl) (by kernel_rfl) (by kernel_rfl) (fun _ _ _ h => h) (Or.inl ⟨by rfl, ?_⟩) (by assumption) ?_
            rotate_left
            · intro w hSw; (try dsimp only at hSw); go_simp <;> (with_reducible rfl)
            (try simp only [Act.put, List.setIfInBounds_toArray, List.set_cons_zero, List.set_cons_succ])
            refine wpAnyH_take (i := 9) (oi := { dst := some 47, op := Op.move (Operand.tmp 0), type := 22, pos := "law.go:106", after := #[{ on := 4, ground := Ground.guard }], guard := some (4, true) }) (v := ?_) rfl (by kernel_rfl) (by kernel_rfl) (by kernel_rfl) (fun _ _ _ h => h) (Or.inl ⟨by rfl, ?_⟩) (by assumption) ?_
            rotate_left
            · intro w hSw; (try dsimp only at hSw); go_simp <;> (with_reducible rfl)
            (try simp only [Act.put, List.setIfInBounds_toArray, List.set_cons_zero, List.set_cons_succ])
            refine wpAnyH_take (i := 11) (oi := { dst := some 49, op := Op.move (Operand.tmp 7), type := 3, pos := "law.go:106", after := #[{ on := 4, ground := Ground.guard }], guard := some (4, true) }) (v := ?_) rfl (by kernel_rfl) (by kernel_rfl) (by kernel_rfl) (fun _ _ _ h => h) (Or.inl ⟨by rfl, ?_⟩) (by assumption) ?_
            rotate_left
            · intro w hSw; (try dsimp only at hSw); go_simp <;> (with_reducible rfl)
            (try simp only [Act.put, List.setIfInBounds_toArray, List.set_cons_zero, List.set_cons_succ])
            refine wpAnyH_ready (rs := [10]) (by kernel_rfl) (by simp) ?_
            refine AllReadyH.cons (o := { dst := some 48, op := Op.call { callee := Callee.value (Operand.func 12), args := #[Operand.tmp 47], argTypes := #[22] }, type := 30, pos := "law.go:106", after := #[{ on := 9, ground := Ground.data }, { on := 4, ground := Ground.chain }, { on := 4, ground := Ground.guard }], guard := some (4, true) }) rfl (fun K hK => ?_) ?_
            · go_simp
              (with_reducible refine (OF.out _ (BW.out.trans (hHeld.2.mono BW.out.size))).mono ?_); rintro e w' ⟨A7, c7, rfl, r7, hb⟩
              obtain ⟨x7, rfl, d0, d1⟩ := FK.out _ _ _ r7
              go_wp2_with fail
              refine hK.out _ _ ?_ (fun hHeld => ?_)
              · (try dsimp only)
                exact KM.out _ (bel_then hHeld.2 hb)
              clear hK K
              (try simp only [Act.put, List.setIfInBounds_toArray, List.set_cons_zero, List.set_cons_succ])
              refine wpAnyH_take (i := 12) (oi := { dst := some 50, op := Op.indexAddr 30 (Operand.tmp 48) (Operand.tmp 49), type := 0, pos := "law.go:106", after := #[{ on := 10, ground := Ground.data }, { on := 11, ground := Ground.data }, { on := 4, ground := Ground.guard }], guard := some (4, true) }) (v := ?_) rfl (by kernel_rfl) (by kernel_rfl) (by kernel_rfl) (fun _ _ _ h => h) (Or.inl ⟨by rfl, ?_⟩) (by assumption) ?_
              rotate_left
              · intro w hSw; (try dsimp only at hSw); go_simp <;> (with_reducible rfl)
              (try simp only [Act.put, List.setIfInBounds_toArray, List.set_cons_zero, List.set_cons_succ])
              refine wpAnyH_ready (rs := [13]) (by kernel_rfl) (by simp) ?_
              refine AllReadyH.cons (o := { dst := some 51, op := Op.load 26 (Operand.tmp 50), type := 26, pos := "law.go:106", after := #[{ on := 12, ground := Ground.data }, { on := 4, ground := Ground.guard }], guard := some (4, true) }) rfl (fun K hK => ?_) ?_
              · go_simp
                refine hK.out _ _ ?_ (fun hHeld => ?_)
                · (try dsimp only)
                  exact hHeld
                clear hK K
                (try simp only [Act.put, List.setIfInBounds_toArray, List.set_cons_zero, List.set_cons_succ])
                refine wpAnyH_take (i := 14) (oi := { dst := some 52, op := Op.binOp BinOp.eql 26 (Operand.tmp 46) (Operand.tmp 51) 26, type := 4, pos := "law.go:106", after := #[{ on := 8, ground := Ground.data }, { on := 13, ground := Ground.data }, { on := 4, ground := Ground.guard }], guard := some (4, true) }) (v := ?_) rfl (by kernel_rfl) (by kernel_rfl) (by kernel_rfl) (fun _ _ _ h => h) (Or.inl ⟨by rfl, ?_⟩) (by assumption) ?_
                rotate_left
                · intro w hSw; (try dsimp only at hSw); go_simp <;> (with_reducible rfl)
                (try simp only [Act.put, List.setIfInBounds_toArray, List.set_cons_zero, List.set_cons_succ])
                refine wpAnyH_take (i := 15) (oi := { dst := some 53, op := Op.pick (Operand.tmp 42) (Operand.tmp 52) (Operand.const (Value.bool false)), type := 4, pos := "law.go:106", after := #[{ on := 4, ground := Ground.data }, { on := 14, ground := Ground.data }], guard := none }) (v := ?_) rfl (by kernel_rfl) (by kernel_rfl) (by kernel_rfl) (fun _ _ _ h => h) (Or.inl ⟨by rfl, ?_⟩) (by assumption) ?_
                rotate_left
                · intro w hSw; (try dsimp only at hSw); go_simp <;> (with_reducible rfl)
                (try simp only [Act.put, List.setIfInBounds_toArray, List.set_cons_zero, List.set_cons_succ])
                refine wpAnyH_done (by kernel_rfl) ?_ _
                refine NoPanic.normal ?_
                have BN := Lib.hid (HB.out.trans (hHeld.2.mono HB.out.size))
                go_wp2_with fail
                go_roundw
                case rel => exact ⟨k, j + 1, rfl, by go_num, by omega, TS, BN⟩
                case measure => simp [intOf]; omega
              exact AllReadyH.nil
            exact AllReadyH.nil
      · have TS := Lib.hid (told_step (x := (xa, xb)) TI.out (show j < P.length + Q.length + 1 by omega))
        rw [if_neg (fun h => hk (by omega))] at TS
        go_wp2_with fail
        go_quiet (fail)
        go_wp2_with fail
        go_roundw
        case rel => exact ⟨k, j + 1, rfl, by go_num, by omega, TS, Lib.hid (below_drewN HB.out _)⟩
        case measure => simp [intOf]; omega
    · obtain rfl : j = n + 1 := by omega
      have hkn : k = n := by
        have := TI.out
        rw [hPQ, ← hPQ] at this
        have := told_end this
        omega
      subst hkn
      have BW := Lib.hid (B6.out.trans (HB.out.mono B6.out.size))
      have RM := Lib.hid (R6.out.below HB.out)
      have HAR := Lib.hid (HA6.out.below HB.out)
      have HYR := Lib.hid (HY6.out.below HB.out)
      have MX : Hid (M.getD P.length (0, 0) = (xa, xb)) := Lib.hid (by rw [HM.out.now, List.getD_eq_getElem?_getD, List.getElem?_append_right (Nat.le_refl _)]; simp)
      clear R6 HY6 HA6 B6 HB TI hlt hj
      go_wp2_with fail
      generalize hq : wr = ws at *
      clear hq
      go_loopw [9, 10] (fun v i wr => ∃ (f j : Nat), v = .int .i64 f ∧ i = .int .i64 j ∧ j ≤ k + 1 ∧ f ≤ j ∧ (P.length < j → 1 ≤ f) ∧ Hid (Below ws.heap.size ws wr)) (fun _ i _ => k + 1 - (intOf i).toNat)
      case atStart => exact ⟨0, 0, rfl, rfl, by omega, by omega, by omega, Lib.hid (Below.refl _ _)⟩
      case round =>
        obtain ⟨f, j, rfl, rfl, hj, hf, hP, HB⟩ := hrel
        by_cases hlt : j < k + 1
        · obtain ⟨x6, rfl, hxb, hc⟩ := (RM.out.below HB.out).2.2.2 (by intro e; have := LM.out; rw [e] at this; simp at this)
          have c0 := (hc j (by rw [LM.out]; exact hlt)).c0
          have c1 := (hc j (by rw [LM.out]; exact hlt)).c1
          have d0 := (HYR.out.below HB.out).cell 0
          have d1 := (HYR.out.below HB.out).cell 1
          simp at d0 d1
          clear hc
          have MJ : j = P.length → M.getD j (0, 0) = (xa, xb) := fun e => by rw [e]; exact MX.out
          generalize M.getD j (0, 0) = y at *
          obtain ⟨ya, yb⟩ := y
          simp only at c0 c1
          by_cases h1 : ya = xa
          · by_cases h2 : yb = xb
            · subst h1
              subst h2
              clear MJ
              go_wp2_with fail
              go_quiet (fail)
              go_wp2_with fail
              go_roundw
              case rel => exact ⟨f + 1, j + 1, by go_num, by go_num, by omega, by omega, fun _ => by omega, Lib.hid (below_drewN HB.out _)⟩
              case measure => simp [intOf]; omega
            · have hjP : j ≠ P.length := fun e => h2 (Prod.mk.inj (MJ e)).2
              clear MJ
              subst h1
              go_wp2_with fail
              go_quiet (fail)
              go_wp2_with fail
              go_roundw
              case rel => exact ⟨f, j + 1, rfl, by go_num, by omega, by omega, fun h => hP (by omega), Lib.hid (below_drewN HB.out _)⟩
              case measure => simp [intOf]; omega
          · have hjP : j ≠ P.length := fun e => h1 (Prod.mk.inj (MJ e)).1
            clear MJ
            go_wp2_with fail
            go_quiet (fail)
            go_wp2_with fail
            go_roundw
            case rel => exact ⟨f, j + 1, rfl, by go_num, by omega, by omega, fun h => hP (by omega), Lib.hid (below_drewN HB.out _)⟩
            case measure => simp [intOf]; omega
        · have hf1 : 1 ≤ f := hP (by have := hPQ; omega)
          have xa0 := (HAR.out.below HB.out).cell 0
          have xa1 := (HAR.out.below HB.out).cell 1
          simp at xa0 xa1
          have D1 := Lib.hid (DC.out A6 c6 (k + 1) M xa LM.out (by omega) (by have := HX.out; unfold rgWf at this; unfold I64r; simp only at this; omega) wr (RM.out.below HB.out))
          have D2 := Lib.hid (fun w => DC.out none 0 0 [] xa rfl (by omega) (by have := HX.out; unfold rgWf at this; unfold I64r; simp only at this; omega) w (rgRow_nil w))
          have MI : Hid ((xa, xb) ∈ M) := Lib.hid (by rw [HM.out.now]; simp)
          have BN := Lib.hid (BW.out.trans (HB.out.mono BW.out.size))
          have HAN := Lib.hid (HAR.out.below HB.out)
          clear HYR HB
          go_wp2_with fail
          refine D1.out.mono ?_; rintro e w2 (⟨hno, rfl, hb2⟩ | ⟨A7, c7, M7, P7, Q7, y', rfl, hd, r7, hb2⟩)
          · exact absurd rfl (hno (xa, xb) MI.out)
          · have LM7 : Hid (M7.length = k) := Lib.hid (by have := drop_len hd; have := LM.out; omega)
            have B2 := Lib.hid (bel_then BN.out hb2)
            have za0 := (HAN.out.below hb2).cell 0
            have za1 := (HAN.out.below hb2).cell 1
            simp at za0 za1
            clear hd r7 hb2
            have hk1 : k + 1 - 1 = k := by omega
            rw [hk1]
            go_wp2_with fail
            refine (D2.out _).mono ?_; rintro e w3 (⟨hno, rfl, hb3⟩ | ⟨A8, c8, M8, P8, Q8, y', rfl, hd, r8, hb3⟩)
            · have B3 := Lib.hid (bel_then B2.out hb3)
              have hff : (1 : Int) ≤ (f : Int) := by omega
              clear hb3 hno
              go_wp2_with fail
              go_ret
              exact ⟨rfl, B3.out⟩
            · exact absurd hd.was (by simp)
theorem vadds_long (AW : Hid AwS) (A0 : Option Addr) (ca n : Nat) (h1 : n ≤ maxLen) (h : 100 < n) (x : Rg) (w : World) :
    Calls Try.prog 6 #[.slice A0 n ca, .agg #[.int .i64 x.1, .int .i64 x.2]] w fun e w' => e = .returned (.bool true) ∧ Below w.heap.size w w' := by
  unfold maxLen at h1
  obtain ⟨xa, xb⟩ := x
  go_enter Try.func6, Try.ntmps6
  go_wp2_with fail
  refine (AW.out _).mono ?_; rintro e w1 ⟨rfl, hb1⟩
  have B1 := Lib.hid (bel_then (bel_al (Below.refl _ w) (.cells #[.int .i64 xa, .int .i64 xb] 42)) hb1)
  clear hb1
  go_wp2_with fail
  refine (AW.out _).mono ?_; rintro e w2 ⟨rfl, hb2⟩
  have B2 := Lib.hid (bel_then B1.out hb2); clear hb2
  go_wp2_with fail
  go_ret
  exact ⟨rfl, B2.out⟩
theorem vadds (AW : Hid AwS) (AC : Hid AddC) (DC : Hid DropC) (A0 : Option Addr) (ca n : Nat) (x : Rg) (hx : rgWf x) (w : World) (rA : ∃ L : List Rg, n = L.length ∧ RgRow w A0 ca L) :
    Calls Try.prog 6 #[.slice A0 n ca, .agg #[.int .i64 x.1, .int .i64 x.2]] w fun e w' => e = .returned (.bool true) ∧ Below w.heap.size w w' := by
  obtain ⟨L, hl, rA⟩ := rA
  by_cases h : n ≤ 100
  · exact vadds_few AW AC DC A0 ca n L hl.symm h x hx w rA
  · exact vadds_long AW A0 ca n (by rw [hl]; exact Nat.le_trans rA.1 rA.2.1) (by omega) x w
end Go.Proofs.Ytalglocplebonaa.Mm
