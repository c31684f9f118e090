/- Package slab as it landed: Add. -/
import Derived.Test.YtalglocplebonaaSlabCat
namespace Go.Proofs.Ytalglocplebonaa.Mm
open Go.ChangeShapes Go.WideShapes Go.ChangeAt Go.RowKit
set_option linter.unusedVariables false
set_option linter.unusedSimpArgs false

theorem add_is {L : List Rg} {x : Rg} {k : Nat} (hk : k ≤ L.length) (h1 : ∀ j, k ≤ j → j < L.length → x.1 < (L.getD j (0, 0)).1) (h2 : k = 0 ∨ (L.getD (k - 1) (0, 0)).1 ≤ x.1) : AddIs L x (L.take k ++ x :: L.drop k) (L.take k) (L.drop k) := by
  refine ⟨(List.take_append_drop k L).symm, rfl, fun hr r hm => ?_, fun _ r hm => ?_⟩
  · obtain ⟨i, hi, rfl⟩ := List.mem_iff_getElem.1 hm
    have hik : i < k := by rw [List.length_take] at hi; omega
    rcases h2 with h | h
    · omega
    · have e : (L.take k)[i] = L.getD i (0, 0) := by
        rw [← take_getDG L hik, List.getD_eq_getElem?_getD, List.getElem?_eq_getElem hi]; rfl
      rw [e]
      by_cases hj : i = k - 1
      · rw [hj]; exact h
      · have := List.pairwise_iff_getElem.1 hr i (k - 1) (by omega) (by omega) (by omega)
        rw [List.getD_eq_getElem?_getD, List.getElem?_eq_getElem (by omega : k - 1 < L.length)] at h
        rw [List.getD_eq_getElem?_getD, List.getElem?_eq_getElem (by omega : i < L.length)]
        simp only [Option.getD_some] at h ⊢
        omega
  · obtain ⟨i, hi, rfl⟩ := List.mem_iff_getElem.1 hm
    rw [List.length_drop] at hi
    have := h1 (k + i) (by omega) (by omega)
    rw [List.getD_eq_getElem?_getD, List.getElem?_eq_getElem (by omega : k + i < L.length)] at this
    simpa using this
theorem parts3 (ws : World) (A1 : Option Addr) (c1 : Nat) (L1 : List Rg) (A2 : Option Addr) (c2 : Nat) (L2 : List Rg) (x : Rg) (r1 : RgRow ws A1 c1 L1) (r2 : RgRow ws A2 c2 L2) (hx : rgWf x) :
    PartsG (((ws.alloc (.cells #[.int .i64 x.1, .int .i64 x.2] 26)).alloc (.cells #[.slice A1 L1.length c1, .slice (some ⟨ws.heap.size, 0, none⟩) 1 1, .slice A2 L2.length c2] 30)).drew) (ws.heap.size + 1) [⟨A1, c1, L1⟩, ⟨some ⟨ws.heap.size, 0, none⟩, 1, [x]⟩, ⟨A2, c2, L2⟩] := by
  have b1 := bel_al (Below.refl ws.heap.size ws) (.cells #[.int .i64 x.1, .int .i64 x.2] 26)
  have hs : (ws.alloc (.cells #[.int .i64 x.1, .int .i64 x.2] 26)).heap.size = ws.heap.size + 1 := Array.size_push _
  have b2 := bel_al (Below.refl _ (ws.alloc (.cells #[.int .i64 x.1, .int .i64 x.2] 26))) (.cells #[.slice A1 L1.length c1, .slice (some ⟨ws.heap.size, 0, none⟩) 1 1, .slice A2 L2.length c2] 30)
  have H := HasB.new (ws.alloc (.cells #[.int .i64 x.1, .int .i64 x.2] 26)) 30 [.slice A1 L1.length c1, .slice (some ⟨ws.heap.size, 0, none⟩) 1 1, .slice A2 L2.length c2]
  rw [hs] at H
  have hX : RgRow (ws.alloc (.cells #[.int .i64 x.1, .int .i64 x.2] 26)) (some ⟨ws.heap.size, 0, none⟩) 1 [x] := by
    refine ⟨Nat.le_refl _, by unfold maxLen; omega, fun y hy => by rw [List.mem_singleton.1 hy]; exact hx, fun _ => ⟨_, rfl, by rw [hs]; exact Nat.lt_succ_self _, fun i hi => ?_⟩⟩
    obtain rfl : i = 0 := by simpa using hi
    exact rgAt_new ws x _
  refine ⟨H, fun p hp => ?_⟩
  simp only [List.mem_cons, List.not_mem_nil, or_false] at hp
  rcases hp with rfl | rfl | rfl
  · exact r1.below (below_drewG (bel_then b1 b2))
  · exact hX.below (below_drewG b2)
  · exact r2.below (below_drewG (bel_then b1 b2))
theorem cat3 (ws : World) (A1 : Option Addr) (c1 : Nat) (L1 : List Rg) (A2 : Option Addr) (c2 : Nat) (L2 : List Rg) (x : Rg) (r1 : RgRow ws A1 c1 L1) (r2 : RgRow ws A2 c2 L2) (hx : rgWf x) (k m N : Nat) (hk : L1.length = k) (hm : L2.length = m) (hN : k + 1 + m = N) (hb : N ≤ 5000) :
    ∀ W, W = (((ws.alloc (.cells #[.int .i64 x.1, .int .i64 x.2] 26)).alloc (.cells #[.slice A1 k c1, .slice (some ⟨ws.heap.size, 0, none⟩) 1 1, .slice A2 m c2] 30)).drew) →
    Calls Try.prog 23 #[.slice (some ⟨ws.heap.size + 1, 0, none⟩) 3 3] W fun e w' => ∃ A cap, e = .returned (.slice A N cap) ∧ RgRow w' A cap (L1 ++ x :: L2) ∧ Below W.heap.size W w' := by
  intro W hW
  have P := parts3 ws A1 c1 L1 A2 c2 L2 x r1 r2 hx
  rw [hk, hm, ← hW] at P
  have e : flatP [⟨A1, c1, L1⟩, ⟨some ⟨ws.heap.size, 0, none⟩, 1, [x]⟩, ⟨A2, c2, L2⟩] = L1 ++ x :: L2 := by simp [flatP]
  have hl : (L1 ++ x :: L2).length = N := by simp; omega
  have C := concat_any _ (ws.heap.size + 1) 3 W rfl P (by rw [e, hl]; omega) (by omega)
  rw [e, hl] at C
  exact C
set_option maxRecDepth 10000 in
set_option maxHeartbeats 4000000 in
theorem add_code : AddC := by
  intro A cap n L x hl hn hx w R
  obtain ⟨xa, xb⟩ := x
  have RR := Lib.hid R
  have HL := Lib.hid hl
  have HW := Lib.hid hx
  have HX := Lib.hid (HasB.new w 26 [.int .i64 xa, .int .i64 xb])
  have B0 := Lib.hid (bel_al (Below.refl w.heap.size w) (.cells #[.int .i64 xa, .int .i64 xb] 26))
  have hX2 : w.alloc (.cells #[.int .i64 xa, .int .i64 xb] 26) = w.alloc (.cells [.int .i64 xa, .int .i64 xb].toArray 26) := rfl
  rw [← hX2] at HX
  clear hX2 R hl hx
  simp only
  go_enter Try.func16, Try.ntmps16
  go_wp2_with fail
  go_loopw [5] (fun v wr => ∃ (k : Nat), v = .int .i64 k ∧ k ≤ n ∧ Hid (∀ j, k ≤ j → j < n → xa < (L.getD j (0, 0)).1) ∧ Hid (HasB wr w.heap.size 26 [.int .i64 xa, .int .i64 xb]) ∧ Hid (Below w.heap.size w wr)) (fun v _ => (intOf v).toNat)
  case atStart => exact ⟨n, rfl, Nat.le_refl _, Lib.hid (fun j h1 h2 => by omega), HX, B0⟩
  case round =>
    obtain ⟨k, rfl, hk, UP, HG, HB⟩ := hrel
    clear HX B0
    have d0 := HG.out.cell 0
    simp only [List.getElem?_cons_zero, List.getElem?_cons_succ] at d0
    have STOP : k = 0 ∨ (0 < k ∧ (L.getD (k - 1) (0, 0)).1 ≤ xa) ∨ (0 < k ∧ xa < (L.getD (k - 1) (0, 0)).1) := by omega
    have CUTL := Lib.hid (cut_toG RR.out n HL.out k (k : Int) rfl hk)
    have CUTR := Lib.hid (cut_fromG RR.out n HL.out k (n - k) (k : Int) rfl (by omega))
    rcases STOP with h0 | ⟨h0, h1⟩ | ⟨h0, h1⟩
    · have kp : decide ((0 : Int) < (k : Int)) = false := by simp; omega
      have kp' : decide (0 < k) = false := by simp; omega
      have h0' : ¬ (0 : Int) < (k : Int) := by omega
      have ADD := Lib.hid (add_is (L := L) (x := (xa, xb)) (k := k) (by rw [HL.out]; exact hk) (fun j h1 h2 => UP.out j h1 (by rw [← HL.out]; exact h2)) (.inl h0))
      clear UP h0
      go_wp2_with fail
      go_quiet (fail)
      go_wp2_with fail
      have HG2 := Lib.hid (HG.out.below (below_drewN (Below.refl wr.heap.size wr) nq))
      have HB2 := Lib.hid (below_drewN HB.out nq)
      clear HG HB d0
      (try clear c0)
      generalize wr.drewN nq = ws at *
      have KS := Lib.hid (fun (w' : World) (b : Below ws.heap.size ws w') => (show (w'.cell? ⟨w.heap.size, 0, none⟩ = some (.int .i64 xa) ∧ w'.cell? ⟨w.heap.size, 1, none⟩ = some (.int .i64 xb)) ∧ Below ws.heap.size ws w' from ⟨⟨(HG2.out.below b).cell 0, (HG2.out.below b).cell 1⟩, b⟩))
      have BR := Lib.hid (Below.refl ws.heap.size ws)
      obtain ⟨A1, c1, s1, t1⟩ := CUTL.out
      obtain ⟨A2, c2, s2, t2⟩ := CUTR.out
      replace t1 := Lib.hid t1
      replace t2 := Lib.hid t2
      clear CUTL CUTR
      have RW := RR.out.below HB2.out
      have C3 := Lib.hid (cat3 ws A1 c1 _ A2 c2 _ (xa, xb) (t1.out _ RW) (t2.out _ RW) HW.out k (n - k) (n + 1) (by rw [List.length_take, HL.out]; omega) (by rw [List.length_drop, HL.out]) (by omega) (by omega))
      simp only at C3
      clear RW
      refine wp_region_noPanic ?_
      refine wp_region_held_drew (S := (fun w' => (w'.cell? ⟨w.heap.size, 0, none⟩ = some (.int .i64 xa) ∧ w'.cell? ⟨w.heap.size, 1, none⟩ = some (.int .i64 xb)) ∧ Below ws.heap.size ws w')) (by kernel_rfl) ?_ (fun hHeld => ?_)
      · (try dsimp only)
        first | exact KS.out _ BR.out | exact KS.out _ (below_drewG BR.out)
      refine wpAnyH_take (i := 0) (oi := { dst := some 23, op := Op.move (Operand.tmp 0), type := 30, pos := "slab.go:41", after := #[], guard := none }) (v := ?_) rfl (by kernel_rfl) (by kernel_rfl) (by kernel_rfl) (fun _ _ _ h => h) (Or.inl ⟨by rfl, ?_⟩) (by assumption) ?_
      rotate_left
      · intro w hSw; (try dsimp only at hSw); go_simp <;> (with_reducible rfl)
      (try simp only [Act.put, List.setIfInBounds_toArray, List.set_cons_zero, List.set_cons_succ])
      refine wpAnyH_take (i := 1) (oi := { dst := some 24, op := Op.move (Operand.tmp 5), type := 3, pos := "slab.go:41", after := #[], guard := none }) (v := ?_) rfl (by kernel_rfl) (by kernel_rfl) (by kernel_rfl) (fun _ _ _ h => h) (Or.inl ⟨by rfl, ?_⟩) (by assumption) ?_
      rotate_left
      · intro w hSw; (try dsimp only at hSw); go_simp <;> (with_reducible rfl)
      (try simp only [Act.put, List.setIfInBounds_toArray, List.set_cons_zero, List.set_cons_succ])
      refine wpAnyH_take (i := 2) (oi := { dst := some 25, op := Op.slice 30 (Operand.tmp 23) none (some (Operand.tmp 24)) none, type := 30, pos := "slab.go:41", after := #[{ on := 0, ground := Ground.data }, { on := 1, ground := Ground.data }], guard := none }) (v := ?_) rfl (by kernel_rfl) (by kernel_rfl) (by kernel_rfl) (fun _ _ _ h => h) (Or.inl ⟨by rfl, ?_⟩) (by assumption) ?_
      rotate_left
      · intro w hSw; (try dsimp only at hSw); go_simp <;> (with_reducible rfl)
      (try simp only [Act.put, List.setIfInBounds_toArray, List.set_cons_zero, List.set_cons_succ])
      refine wpAnyH_take (i := 3) (oi := { dst := some 26, op := Op.load 26 (Operand.tmp 3), type := 26, pos := "slab.go:41", after := #[], guard := none }) (v := ?_) rfl (by kernel_rfl) (by kernel_rfl) (by kernel_rfl) (fun _ _ _ h => h) (Or.inl ⟨by rfl, ?_⟩) (by assumption) ?_
      rotate_left
      · intro w hSw; (try dsimp only at hSw); go_simp <;> (with_reducible rfl)
      (try simp only [Act.put, List.setIfInBounds_toArray, List.set_cons_zero, List.set_cons_succ])
      refine wpAnyH_take (i := 5) (oi := { dst := some 28, op := Op.move (Operand.tmp 0), type := 30, pos := "slab.go:41", after := #[], guard := none }) (v := ?_) rfl (by kernel_rfl) (by kernel_rfl) (by kernel_rfl) (fun _ _ _ h => h) (Or.inl ⟨by rfl, ?_⟩) (by assumption) ?_
      rotate_left
      · intro w hSw; (try dsimp only at hSw); go_simp <;> (with_reducible rfl)
      (try simp only [Act.put, List.setIfInBounds_toArray, List.set_cons_zero, List.set_cons_succ])
      refine wpAnyH_take (i := 6) (oi := { dst := some 29, op := Op.move (Operand.tmp 5), type := 3, pos := "slab.go:41", after := #[], guard := none }) (v := ?_) rfl (by kernel_rfl) (by kernel_rfl) (by kernel_rfl) (fun _ _ _ h => h) (Or.inl ⟨by rfl, ?_⟩) (by assumption) ?_
      rotate_left
      · intro w hSw; (try dsimp only at hSw); go_simp <;> (with_reducible rfl)
      (try simp only [Act.put, List.setIfInBounds_toArray, List.set_cons_zero, List.set_cons_succ])
      refine wpAnyH_take (i := 7) (oi := { dst := some 30, op := Op.slice 30 (Operand.tmp 28) (some (Operand.tmp 29)) none none, type := 30, pos := "slab.go:41", after := #[{ on := 5, ground := Ground.data }, { on := 6, ground := Ground.data }], guard := none }) (v := ?_) rfl (by kernel_rfl) (by kernel_rfl) (by kernel_rfl) (fun _ _ _ h => h) (Or.inl ⟨by rfl, ?_⟩) (by assumption) ?_
      rotate_left
      · intro w hSw; (try dsimp only at hSw); go_simp <;> (with_reducible rfl)
      (try simp only [Act.put, List.setIfInBounds_toArray, List.set_cons_zero, List.set_cons_succ])
      refine wpAnyH_ready (rs := [4]) (by kernel_rfl) (by simp) ?_
      refine AllReadyH.cons (o := { dst := some 27, op := Op.buildSlice 30 1 #[(0, Operand.tmp 26)], type := 30, pos := "slab.go:41", after := #[{ on := 3, ground := Ground.data }], guard := none }) rfl (fun K hK => ?_) ?_
      · go_simp
        refine hK.out _ _ ?_ (fun hHeld => ?_)
        · (try dsimp only)
          exact KS.out _ (bel_al hHeld.2 _)
        clear hK K
        (try simp only [Act.put, List.setIfInBounds_toArray, List.set_cons_zero, List.set_cons_succ])
        refine wpAnyH_ready (rs := [8]) (by kernel_rfl) (by simp) ?_
        refine AllReadyH.cons (o := { dst := some 31, op := Op.buildSlice 55 3 #[(0, Operand.tmp 25), (1, Operand.tmp 27), (2, Operand.tmp 30)], type := 55, pos := "slab.go:41", after := #[{ on := 2, ground := Ground.data }, { on := 4, ground := Ground.data }, { on := 7, ground := Ground.data }], guard := none }) rfl (fun K hK => ?_) ?_
        · go_simp
          refine hK.out _ _ ?_ (fun hHeld => ?_)
          · (try dsimp only)
            exact KS.out _ (bel_al hHeld.2 _)
          clear hK K
          (try simp only [Act.put, List.setIfInBounds_toArray, List.set_cons_zero, List.set_cons_succ])
          refine wpAnyH_ready (rs := [9]) (by kernel_rfl) (by simp) ?_
          refine AllReadyH.cons (o := { dst := some 32, op := Op.call { callee := Callee.value (Operand.func 23), args := #[Operand.tmp 31], argTypes := #[55] }, type := 30, pos := "slab.go:41", after := #[{ on := 8, ground := Ground.data }], guard := none }) rfl (fun K hK => ?_) ?_
          · go_simp
            (with_reducible refine (C3.out _ rfl).mono ?_); rintro e w' ⟨A9, c9, rfl, r9, hb⟩
            go_wp2_with fail
            refine hK.out _ _ ?_ (fun hHeld => ?_)
            · (try dsimp only)
              exact KS.out _ (bel_then hHeld.2 hb)
            clear hK K
            (try simp only [Act.put, List.setIfInBounds_toArray, List.set_cons_zero, List.set_cons_succ])
            refine wpAnyH_take (i := 10) (oi := { dst := some 4, op := Op.assign (Operand.tmp 32), type := 30, pos := "slab.go:41", after := #[{ on := 9, ground := Ground.data }, { on := 9, ground := Ground.chain }, { on := 0, ground := Ground.phase }, { on := 1, ground := Ground.phase }, { on := 2, ground := Ground.phase }, { on := 3, ground := Ground.phase }, { on := 4, ground := Ground.phase }, { on := 5, ground := Ground.phase }, { on := 6, ground := Ground.phase }, { on := 7, ground := Ground.phase }, { on := 8, ground := Ground.phase }, { on := 9, ground := Ground.phase }], guard := none }) (v := ?_) rfl (by kernel_rfl) (by kernel_rfl) (by kernel_rfl) (fun _ _ _ h => h) (Or.inl ⟨by rfl, ?_⟩) (by assumption) ?_
            rotate_left
            · intro w hSw; (try dsimp only at hSw); go_simp <;> (with_reducible rfl)
            (try simp only [Act.put, List.setIfInBounds_toArray, List.set_cons_zero, List.set_cons_succ])
            refine wpAnyH_done (by kernel_rfl) ?_ _
            refine NoPanic.normal ?_
            have R9 := Lib.hid r9
            have BN := Lib.hid (HB2.out.trans (hHeld.2.mono HB2.out.size))
            clear r9 hHeld hb
            go_wp2_with fail
            go_ret
            exact ⟨A9, c9, _, _, _, rfl, ADD.out, R9.out, BN.out⟩
          exact AllReadyH.nil
        exact AllReadyH.nil
      exact AllReadyH.nil
    · obtain ⟨j, hj⟩ : ∃ j : Nat, k - 1 = j := ⟨_, rfl⟩
      have hjk : j < k := by omega
      have ADD := Lib.hid (add_is (L := L) (x := (xa, xb)) (k := k) (by rw [HL.out]; exact hk) (fun j h1 h2 => UP.out j h1 (by rw [← HL.out]; exact h2)) (.inr h1))
      obtain ⟨p, rfl, hpb, hc⟩ := (RR.out.below HB.out).2.2.2 (by intro e; have := HL.out; rw [e] at this; simp at this; omega)
      have c0 := (hc j (by rw [HL.out]; omega)).c0
      rw [hj] at h1
      clear hc UP
      generalize (L.getD j (0, 0)).1 = ya at *
      have wj : wrap64 ((k : Int) - 1) = j := by rw [w64 (by omega)]; omega
      have wj2 : IntKind.i64.wrap ((k : Int) - 1) = j := by rw [IntWalk.i64_in _ (by omega)]; omega
      have kp : decide ((0 : Int) < (k : Int)) = true := by simp; omega
      have kp' : decide (0 < k) = true := by simp; omega
      have h0' : (0 : Int) < (k : Int) := by omega
      have hjn : (j : Int) < (n : Int) := by omega
      have hjn' : j < n := by omega
      have hd : decide (xa < ya) = false := by simp; omega
      go_wp2_with fail
      go_quiet (fail)
      go_wp2_with fail
      have HG2 := Lib.hid (HG.out.below (below_drewN (Below.refl wr.heap.size wr) nq))
      have HB2 := Lib.hid (below_drewN HB.out nq)
      clear HG HB d0
      (try clear c0)
      generalize wr.drewN nq = ws at *
      have KS := Lib.hid (fun (w' : World) (b : Below ws.heap.size ws w') => (show (w'.cell? ⟨w.heap.size, 0, none⟩ = some (.int .i64 xa) ∧ w'.cell? ⟨w.heap.size, 1, none⟩ = some (.int .i64 xb)) ∧ Below ws.heap.size ws w' from ⟨⟨(HG2.out.below b).cell 0, (HG2.out.below b).cell 1⟩, b⟩))
      have BR := Lib.hid (Below.refl ws.heap.size ws)
      obtain ⟨A1, c1, s1, t1⟩ := CUTL.out
      obtain ⟨A2, c2, s2, t2⟩ := CUTR.out
      replace t1 := Lib.hid t1
      replace t2 := Lib.hid t2
      clear CUTL CUTR
      have RW := RR.out.below HB2.out
      have C3 := Lib.hid (cat3 ws A1 c1 _ A2 c2 _ (xa, xb) (t1.out _ RW) (t2.out _ RW) HW.out k (n - k) (n + 1) (by rw [List.length_take, HL.out]; omega) (by rw [List.length_drop, HL.out]) (by omega) (by omega))
      simp only at C3
      clear RW
      refine wp_region_noPanic ?_
      refine wp_region_held_drew (S := (fun w' => (w'.cell? ⟨w.heap.size, 0, none⟩ = some (.int .i64 xa) ∧ w'.cell? ⟨w.heap.size, 1, none⟩ = some (.int .i64 xb)) ∧ Below ws.heap.size ws w')) (by kernel_rfl) ?_ (fun hHeld => ?_)
      · (try dsimp only)
        first | exact KS.out _ BR.out | exact KS.out _ (below_drewG BR.out)
      refine wpAnyH_take (i := 0) (oi := { dst := some 23, op := Op.move (Operand.tmp 0), type := 30, pos := "slab.go:41", after := #[], guard := none }) (v := ?_) rfl (by kernel_rfl) (by kernel_rfl) (by kernel_rfl) (fun _ _ _ h => h) (Or.inl ⟨by rfl, ?_⟩) (by assumption) ?_
      rotate_left
      · intro w hSw; (try dsimp only at hSw); go_simp <;> (with_reducible rfl)
      (try simp only [Act.put, List.setIfInBounds_toArray, List.set_cons_zero, List.set_cons_succ])
      refine wpAnyH_take (i := 1) (oi := { dst := some 24, op := Op.move (Operand.tmp 5), type := 3, pos := "slab.go:41", after := #[], guard := none }) (v := ?_) rfl (by kernel_rfl) (by kernel_rfl) (by kernel_rfl) (fun _ _ _ h => h) (Or.inl ⟨by rfl, ?_⟩) (by assumption) ?_
      rotate_left
      · intro w hSw; (try dsimp only at hSw); go_simp <;> (with_reducible rfl)
      (try simp only [Act.put, List.setIfInBounds_toArray, List.set_cons_zero, List.set_cons_succ])
      refine wpAnyH_take (i := 2) (oi := { dst := some 25, op := Op.slice 30 (Operand.tmp 23) none (some (Operand.tmp 24)) none, type := 30, pos := "slab.go:41", after := #[{ on := 0, ground := Ground.data }, { on := 1, ground := Ground.data }], guard := none }) (v := ?_) rfl (by kernel_rfl) (by kernel_rfl) (by kernel_rfl) (fun _ _ _ h => h) (Or.inl ⟨by rfl, ?_⟩) (by assumption) ?_
      rotate_left
      · intro w hSw; (try dsimp only at hSw); go_simp <;> (with_reducible rfl)
      (try simp only [Act.put, List.setIfInBounds_toArray, List.set_cons_zero, List.set_cons_succ])
      refine wpAnyH_take (i := 3) (oi := { dst := some 26, op := Op.load 26 (Operand.tmp 3), type := 26, pos := "slab.go:41", after := #[], guard := none }) (v := ?_) rfl (by kernel_rfl) (by kernel_rfl) (by kernel_rfl) (fun _ _ _ h => h) (Or.inl ⟨by rfl, ?_⟩) (by assumption) ?_
      rotate_left
      · intro w hSw; (try dsimp only at hSw); go_simp <;> (with_reducible rfl)
      (try simp only [Act.put, List.setIfInBounds_toArray, List.set_cons_zero, List.set_cons_succ])
      refine wpAnyH_take (i := 5) (oi := { dst := some 28, op := Op.move (Operand.tmp 0), type := 30, pos := "slab.go:41", after := #[], guard := none }) (v := ?_) rfl (by kernel_rfl) (by kernel_rfl) (by kernel_rfl) (fun _ _ _ h => h) (Or.inl ⟨by rfl, ?_⟩) (by assumption) ?_
      rotate_left
      · intro w hSw; (try dsimp only at hSw); go_simp <;> (with_reducible rfl)
      (try simp only [Act.put, List.setIfInBounds_toArray, List.set_cons_zero, List.set_cons_succ])
      refine wpAnyH_take (i := 6) (oi := { dst := some 29, op := Op.move (Operand.tmp 5), type := 3, pos := "slab.go:41", after := #[], guard := none }) (v := ?_) rfl (by kernel_rfl) (by kernel_rfl) (by kernel_rfl) (fun _ _ _ h => h) (Or.inl ⟨by rfl, ?_⟩) (by assumption) ?_
      rotate_left
      · intro w hSw; (try dsimp only at hSw); go_simp <;> (with_reducible rfl)
      (try simp only [Act.put, List.setIfInBounds_toArray, List.set_cons_zero, List.set_cons_succ])
      refine wpAnyH_take (i := 7) (oi := { dst := some 30, op := Op.slice 30 (Operand.tmp 28) (some (Operand.tmp 29)) none none, type := 30, pos := "slab.go:41", after := #[{ on := 5, ground := Ground.data }, { on := 6, ground := Ground.data }], guard := none }) (v := ?_) rfl (by kernel_rfl) (by kernel_rfl) (by kernel_rfl) (fun _ _ _ h => h) (Or.inl ⟨by rfl, ?_⟩) (by assumption) ?_
      rotate_left
      · intro w hSw; (try dsimp only at hSw); go_simp <;> (with_reducible rfl)
      (try simp only [Act.put, List.setIfInBounds_toArray, List.set_cons_zero, List.set_cons_succ])
      refine wpAnyH_ready (rs := [4]) (by kernel_rfl) (by simp) ?_
      refine AllReadyH.cons (o := { dst := some 27, op := Op.buildSlice 30 1 #[(0, Operand.tmp 26)], type := 30, pos := "slab.go:41", after := #[{ on := 3, ground := Ground.data }], guard := none }) rfl (fun K hK => ?_) ?_
      · go_simp
        refine hK.out _ _ ?_ (fun hHeld => ?_)
        · (try dsimp only)
          exact KS.out _ (bel_al hHeld.2 _)
        clear hK K
        (try simp only [Act.put, List.setIfInBounds_toArray, List.set_cons_zero, List.set_cons_succ])
        refine wpAnyH_ready (rs := [8]) (by kernel_rfl) (by simp) ?_
        refine AllReadyH.cons (o := { dst := some 31, op := Op.buildSlice 55 3 #[(0, Operand.tmp 25), (1, Operand.tmp 27), (2, Operand.tmp 30)], type := 55, pos := "slab.go:41", after := #[{ on := 2, ground := Ground.data }, { on := 4, ground := Ground.data }, { on := 7, ground := Ground.data }], guard := none }) rfl (fun K hK => ?_) ?_
        · go_simp
          refine hK.out _ _ ?_ (fun hHeld => ?_)
          · (try dsimp only)
            exact KS.out _ (bel_al hHeld.2 _)
          clear hK K
          (try simp only [Act.put, List.setIfInBounds_toArray, List.set_cons_zero, List.set_cons_succ])
          refine wpAnyH_ready (rs := [9]) (by kernel_rfl) (by simp) ?_
          refine AllReadyH.cons (o := { dst := some 32, op := Op.call { callee := Callee.value (Operand.func 23), args := #[Operand.tmp 31], argTypes := #[55] }, type := 30, pos := "slab.go:41", after := #[{ on := 8, ground := Ground.data }], guard := none }) rfl (fun K hK => ?_) ?_
          · go_simp
            (with_reducible refine (C3.out _ rfl).mono ?_); rintro e w' ⟨A9, c9, rfl, r9, hb⟩
            go_wp2_with fail
            refine hK.out _ _ ?_ (fun hHeld => ?_)
            · (try dsimp only)
              exact KS.out _ (bel_then hHeld.2 hb)
            clear hK K
            (try simp only [Act.put, List.setIfInBounds_toArray, List.set_cons_zero, List.set_cons_succ])
            refine wpAnyH_take (i := 10) (oi := { dst := some 4, op := Op.assign (Operand.tmp 32), type := 30, pos := "slab.go:41", after := #[{ on := 9, ground := Ground.data }, { on := 9, ground := Ground.chain }, { on := 0, ground := Ground.phase }, { on := 1, ground := Ground.phase }, { on := 2, ground := Ground.phase }, { on := 3, ground := Ground.phase }, { on := 4, ground := Ground.phase }, { on := 5, ground := Ground.phase }, { on := 6, ground := Ground.phase }, { on := 7, ground := Ground.phase }, { on := 8, ground := Ground.phase }, { on := 9, ground := Ground.phase }], guard := none }) (v := ?_) rfl (by kernel_rfl) (by kernel_rfl) (by kernel_rfl) (fun _ _ _ h => h) (Or.inl ⟨by rfl, ?_⟩) (by assumption) ?_
            rotate_left
            · intro w hSw; (try dsimp only at hSw); go_simp <;> (with_reducible rfl)
            (try simp only [Act.put, List.setIfInBounds_toArray, List.set_cons_zero, List.set_cons_succ])
            refine wpAnyH_done (by kernel_rfl) ?_ _
            refine NoPanic.normal ?_
            have R9 := Lib.hid r9
            have BN := Lib.hid (HB2.out.trans (hHeld.2.mono HB2.out.size))
            clear r9 hHeld hb
            go_wp2_with fail
            go_ret
            exact ⟨A9, c9, _, _, _, rfl, ADD.out, R9.out, BN.out⟩
          exact AllReadyH.nil
        exact AllReadyH.nil
      exact AllReadyH.nil
    · obtain ⟨j, hj⟩ : ∃ j : Nat, k - 1 = j := ⟨_, rfl⟩
      have hjk : j < k := by omega
      obtain ⟨p, rfl, hpb, hc⟩ := (RR.out.below HB.out).2.2.2 (by intro e; have := HL.out; rw [e] at this; simp at this; omega)
      have c0 := (hc j (by rw [HL.out]; omega)).c0
      have UP2 := Lib.hid (fun i (h2 : j ≤ i) (h3 : i < n) => (by
        rcases Nat.lt_or_ge i k with h | h
        · obtain rfl : i = j := by omega
          rw [← hj]; exact h1
        · exact UP.out i h h3 : xa < (L.getD i (0, 0)).1))
      rw [hj] at h1
      clear hc UP
      generalize (L.getD j (0, 0)).1 = ya at *
      have wj : wrap64 ((k : Int) - 1) = j := by rw [w64 (by omega)]; omega
      have wj2 : IntKind.i64.wrap ((k : Int) - 1) = j := by rw [IntWalk.i64_in _ (by omega)]; omega
      have kp : decide ((0 : Int) < (k : Int)) = true := by simp; omega
      have kp' : decide (0 < k) = true := by simp; omega
      have h0' : (0 : Int) < (k : Int) := by omega
      have hjn : (j : Int) < (n : Int) := by omega
      have hjn' : j < n := by omega
      have hd : decide (xa < ya) = true := by simp; omega
      go_wp2_with fail
      go_quiet (fail)
      go_wp2_with fail
      go_roundw
      case rel => exact ⟨j, rfl, by omega, UP2, Lib.hid (HG.out.below (below_drewN (Below.refl _ _) _)), Lib.hid (below_drewN HB.out _)⟩
      case measure => simp [intOf]; omega
end Go.Proofs.Ytalglocplebonaa.Mm
