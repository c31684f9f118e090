/- Package check: fits. -/
import Derived.Test.YtkacplcilkogpaaDoorPChkArrs
namespace Go.Proofs.YtkacplcilkogpaaDoor.Mm
open Go.ChangeShapes Go.WideShapes Go.ChangeAt Go.RowKit
set_option linter.unusedVariables false
set_option linter.unusedSimpArgs false
set_option maxRecDepth 10000

theorem any_take {D : List Dc} {k : Nat} (h : k < D.length) : (D.take (k + 1)).any wrongD = ((D.take k).any wrongD || wrongD (D.getD k dc0)) := by
  rw [take_snocD D k dc0 h, List.any_append]; simp
set_option maxHeartbeats 1000000 in
theorem index_any (v0 : Value) (D : List Dc) (B : Nat) (w : World) (O : DcO w B v0 D) (hl : D.length ≤ 100000) :
    Calls Tryd.prog 25 #[v0, .func (.func 20) #[] #[]] w fun e w' => ∃ i : Int, e = .returned (.int .i64 i) ∧ decide (0 ≤ i) = D.any wrongD ∧ Below w.heap.size w w' := by
  obtain ⟨A0, c0, rfl⟩ := own_form O
  have HO := Lib.hid O
  obtain ⟨n, hn⟩ : ∃ n, D.length = n := ⟨_, rfl⟩
  have HN := Lib.hid hn
  rw [hn] at hl ⊢
  have B0 := Lib.hid (Below.refl w.heap.size w)
  clear O hn
  go_enter Tryd.func25, Tryd.ntmps25
  go_wp2
  go_loopw [8] (fun i wr => ∃ (k : Nat), i = .int .i64 k ∧ k ≤ n ∧ Hid ((D.take k).any wrongD = false) ∧ Hid (Below w.heap.size w wr)) (fun i _ => n - (intOf i).toNat)
  case atStart => exact ⟨0, rfl, Nat.zero_le _, Lib.hid rfl, B0⟩
  case round =>
    obtain ⟨k, rfl, hk, HI, HB⟩ := hrel
    by_cases hlt : k < n
    · obtain ⟨x, cap, hv, hs, q0, q1⟩ := dcO_cell (own_belowP HO.out HB.out) (show k < D.length by rw [HN.out]; exact hlt)
      injection hv with hA _ hc
      subst hA
      clear hc hs
      have KM := Lib.hid (any_take (D := D) (k := k) (by rw [HN.out]; exact hlt))
      have KX := Lib.hid (show D.getD k dc0 ∈ D by rw [List.getD_eq_getElem?_getD, List.getElem?_eq_getElem (by rw [HN.out]; exact hlt)]; exact List.getElem_mem _)
      generalize D.getD k dc0 = d at *
      have C := wrong_any d wr
      by_cases hq : wrongD d = true
      · have HA := Lib.hid (show decide ((0 : Int) ≤ (k : Int)) = D.any wrongD by rw [decide_eq_true (by omega), eq_comm, List.any_eq_true]; exact ⟨d, KX.out, hq⟩)
        rw [hq] at C
        replace C := Lib.hid C
        clear hq KM KX
        obtain ⟨s, u⟩ := d
        simp only at q0 q1 C
        go_wp2_with fail
        refine C.out.mono ?_; rintro e w1 ⟨rfl, hb1⟩
        have B1 := Lib.hid (bel_then HB.out hb1)
        clear hb1
        go_wp2
        go_ret
        exact ⟨k, rfl, HA.out, B1.out⟩
      · have hq := Bool.eq_false_iff.2 hq
        have HA := Lib.hid (show (D.take (k + 1)).any wrongD = false by rw [KM.out, HI.out, hq]; rfl)
        rw [hq] at C
        replace C := Lib.hid C
        clear hq KM KX
        obtain ⟨s, u⟩ := d
        simp only at q0 q1 C
        go_wp2_with fail
        refine C.out.mono ?_; rintro e w1 ⟨rfl, hb1⟩
        have B1 := Lib.hid (bel_then HB.out hb1)
        clear hb1
        go_wp2
        go_roundw
        case rel => exact ⟨k + 1, by go_num, by omega, HA, B1⟩
        case measure => simp [intOf]; omega
    · obtain rfl : k = n := by omega
      have H1 : Hid (decide ((0 : Int) ≤ -1) = D.any wrongD) := Lib.hid (by
        have := HI.out
        rw [List.take_of_length_le (by rw [HN.out]; exact Nat.le_refl _)] at this
        rw [this]; rfl)
      go_wp2
      go_ret
      exact ⟨-1, rfl, H1.out, HB.out⟩
theorem contains_any (v0 : Value) (D : List Dc) (B : Nat) (w : World) (O : DcO w B v0 D) (hl : D.length ≤ 100000) :
    Calls Tryd.prog 19 #[v0, .func (.func 20) #[] #[]] w fun e w' => e = .returned (.bool (D.any wrongD)) ∧ Below w.heap.size w w' := by
  have C := Lib.hid (index_any v0 D B w O hl)
  clear O
  go_enter Tryd.func19, Tryd.ntmps19
  go_wp2_with fail
  refine C.out.mono ?_; rintro e w1 ⟨i, rfl, hi, hb1⟩
  have HI := Lib.hid hi
  have B1 := Lib.hid hb1
  clear hi hb1 C
  go_wp2
  go_ret
  exact ⟨by rw [← HI.out]; rfl, B1.out⟩
set_option maxHeartbeats 4000000 in
theorem fits_any (v0 nv : Value) (b : Int) (D : List Dc) (w : World) (O : DcO w 0 v0 D) (hl : D.length ≤ 100000) (hs : ∀ d ∈ D, d.1.length ≤ 100000) :
    Calls Tryd.prog 14 #[treeV v0 nv b] w fun e w' => e = .returned (.bool (fitB D)) ∧ Below w.heap.size w w' := by
  have HO := Lib.hid O
  have HS := Lib.hid hs
  have ha := arrs_le D
  have hv := vars_le D
  obtain ⟨w1, e1, H1, B1, s1⟩ := tree_box w v0 nv b
  have CA := Lib.hid (arrs_any v0 nv b D w1 (own_belowP O B1.out) hl hs)
  have one : v0.oneCell' = true := by obtain ⟨A, c, rfl⟩ := own_form O; rfl
  obtain ⟨A0, c0, rfl⟩ := own_form O
  obtain ⟨f, hf⟩ : ∃ f, fitB D = f := ⟨_, rfl⟩
  have HF := Lib.hid hf
  rw [hf]
  clear O hs hf
  have t0 := H1.out.cell 0
  have t1 := H1.out.cell 1
  have t2 := H1.out.cell 2
  simp only [List.getElem?_cons_zero, List.getElem?_cons_succ] at t0 t1 t2
  unfold treeV at CA
  unfold treeV
  go_enter Tryd.func14, Tryd.ntmps14
  go_wp2_with fail
  refine CA.out.mono ?_; rintro e w2 ⟨v2, rfl, o2, b2⟩
  have B2 := Lib.hid (bel_then B1.out b2)
  have O2 := Lib.hid o2
  have H2 := Lib.hid (H1.out.below b2)
  obtain ⟨A2, c2, rfl⟩ := own_form o2
  have CC := Lib.hid (contains_any _ (arrsL D) _ w2 o2 (by omega))
  clear o2 b2 CA
  go_wp2_with fail
  refine CC.out.mono ?_; rintro e w3 ⟨rfl, b3⟩
  have B3 := Lib.hid (bel_then B2.out b3)
  have H3 := Lib.hid (H2.out.below b3)
  have h0 := H3.out.cell 0
  have h1 := H3.out.cell 1
  have h2 := H3.out.cell 2
  simp only [List.getElem?_cons_zero, List.getElem?_cons_succ] at h0 h1 h2
  have CV := Lib.hid (vars_any (.slice A0 D.length c0) nv b D w3 (own_belowP HO.out B3.out) hl HS.out)
  unfold treeV at CV
  unfold fitB at HF
  clear b3 CC
  cases hany : (arrsL D).any wrongD with
  | true =>
    have : f = false := by rw [← HF.out, hany]; rfl
    subst this
    clear HF
    go_wp2
    go_ret
    exact ⟨rfl, B3.out⟩
  | false =>
    by_cases h4 : (arrsL D).length ≤ 4
    · have h4i : ((arrsL D).length : Int) ≤ 4 := by omega
      have d4 : decide (((arrsL D).length : Int) ≤ 4) = true := decide_eq_true h4i
      go_wp2_with fail
      refine CV.out.mono ?_; rintro e w4 ⟨v4, rfl, o4, b4⟩
      have B4 := Lib.hid (bel_then B3.out b4)
      obtain ⟨A4, c4, rfl⟩ := own_form o4
      clear o4 b4
      have hfx : f = decide (((varsL D).length : Int) ≤ 16) := by
        rw [← HF.out, hany, decide_eq_true h4, Bool.not_false, Bool.true_and, Bool.true_and]
        congr 1
        exact propext (by omega)
      subst hfx
      clear HF
      go_wp2
      go_ret
      exact ⟨by first | rfl | simp, B4.out⟩
    · have h4i : ¬ ((arrsL D).length : Int) ≤ 4 := by omega
      have d4 : decide (((arrsL D).length : Int) ≤ 4) = false := decide_eq_false h4i
      have : f = false := by rw [← HF.out, decide_eq_false h4, Bool.false_and, Bool.and_false]
      subst this
      clear HF
      go_wp2
      go_ret
      exact ⟨by first | rfl | simp, B3.out⟩
end Go.Proofs.YtkacplcilkogpaaDoor.Mm
