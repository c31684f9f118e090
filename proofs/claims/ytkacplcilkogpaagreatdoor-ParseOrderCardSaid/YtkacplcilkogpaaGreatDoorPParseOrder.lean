/- The statement ParseOrder, walked. -/
import Derived.Test.YtkacplcilkogpaaGreatDoorPPrsTexts
import Derived.BigQuiet
import Derived.Deep.CutRange
namespace Go.Proofs.YtkacplcilkogpaaGreatDoor.Mm
open Go.ChangeShapes Go.WideShapes Go.ChangeAt Go.RowKit
set_option linter.unusedVariables false
set_option linter.unusedSimpArgs false
set_option maxRecDepth 10000

theorem addr_noneO {x : Addr} (h : x.spot = none) (n : Nat) : (⟨(x.add n).block, (x.add n).off + 0, none⟩ : Addr) = x.add n := by
  obtain ⟨b, o, s⟩ := x
  simp only at h
  subst h
  unfold Addr.add
  split <;> simp_all
theorem ndo_st (w : World) (c0 c1 c2 c3 c4 c5 c6 : Value) : ∃ wa w', w.alloc (.cells #[.int .i64 0, .int .i64 0, .int .i64 0, .int .i64 0, .string ⟨#[]⟩, .int .u32 0, .slice none 0 0] 35) = wa ∧
    ((((((wa.setCell ⟨w.heap.size, 0, none⟩ c0).setCell ⟨w.heap.size, 1, none⟩ c1).setCell ⟨w.heap.size, 2, none⟩ c2).setCell ⟨w.heap.size, 3, none⟩ c3).setCell ⟨w.heap.size, 4, none⟩ c4).setCell ⟨w.heap.size, 5, none⟩ c5).setCell ⟨w.heap.size, 6, none⟩ c6 = w' ∧
    Hid (HasB wa w.heap.size 35 [.int .i64 0, .int .i64 0, .int .i64 0, .int .i64 0, .string ⟨#[]⟩, .int .u32 0, .slice none 0 0]) ∧ Hid (HasB w' w.heap.size 35 [c0, c1, c2, c3, c4, c5, c6]) ∧ Hid (Below w.heap.size w w') :=
  ⟨_, _, rfl, rfl, Lib.hid (HasB.new w _ _), Lib.hid (has_set (has_set (has_set (has_set (has_set (has_set (has_set (HasB.new w _ _) 0 c0) 1 c1) 2 c2) 3 c3) 4 c4) 5 c5) 6 c6), Lib.hid (set7_bel (Nat.le_refl _) (bel_al (Below.refl _ _) _) c0 c1 c2 c3 c4 c5 c6)⟩
/-- what is asked of a row of nodes: the cells of its nodes, in any world behind -/
structure RowN (w : World) (x : Addr) (N : List (NdR × Value)) : Prop where
  c : ∀ W, Below w.heap.size w W → ∀ k, k < N.length → ∀ j u, (ndP (N.getD k nv0))[j]? = some u → W.cell? ⟨(x.add (k * 7)).block, (x.add (k * 7)).off + j, none⟩ = some u
  l : ∀ W, Below w.heap.size w W → ∀ k, k < N.length → ∃ A cap, (N.getD k nv0).2 = .slice A (N.getD k nv0).1.l.length cap ∧ ∀ j, j < (N.getD k nv0).1.l.length → ∃ y, A = some y ∧ W.cell? (y.add j) = some (.int .i64 ((N.getD k nv0).1.l.getD j 0))
  s : x.spot = none
theorem rowN_of {w : World} {A : Option Addr} {cap : Nat} {dv : Value} {D : List Dc} {N : List (NdR × Value)} (T : TreeAt w dv D (.slice A N.length cap) N) (hE : EnvV w) (h0 : 0 < N.length) : ∃ x, A = some x ∧ RowN w x N := by
  have W : ∀ W', Below w.heap.size w W' → ShW w.heap.size (.slice A N.length cap) N W' := fun W' k => ⟨w, Nat.le_refl _, hE, T.nodes, T.lists, k⟩
  obtain ⟨x, cp, hx, hs, _⟩ := (W w (Below.refl _ _)).node h0
  injection hx with hx
  refine ⟨x, hx, ?_, fun W' k i hi => (W W' k).list hi, hs⟩
  intro W' k i hi j u hu
  obtain ⟨x', cp', hx', _, hc⟩ := (W W' k).node hi
  injection hx' with hx'
  rw [hx] at hx'
  injection hx' with hx'
  subst hx'
  exact hc j u hu
/-- a node's kind, where it lies -/
theorem RowN.kind {w : World} {x : Addr} {N : List (NdR × Value)} (r : RowN w x N) {W : World} (b : Below w.heap.size w W) {k : Nat} (hk : k < N.length) : W.cell? (x.add (k * 7)) = some (.int .i64 (N.getD k nv0).1.k) := by
  have := r.c W b k hk 0 _ rfl
  rwa [addr_noneO r.s] at this
theorem getD_fst {N : List (NdR × Value)} {G : List NdR} (h : N.map Prod.fst = G) (k : Nat) : (N.getD k nv0).1 = G.getD k nd0 := by
  rw [← h]
  by_cases hk : k < N.length
  · simp [List.getD, hk]
  · simp [List.getD, Nat.le_of_not_lt hk, nv0]
set_option maxHeartbeats 64000000 in
theorem parseOrder_walk (s : ByteArray) (w : World) (hs : s.size ≤ maxLen) (hE : EnvP w) :
    Calls Tryz.prog 4 #[.string s] w fun e w' => e = .returned (.bool true) ∧ Below w.heap.size w w' := by
  have AW := Lib.hid (fun W (k : Below w.heap.size w W) => awake_any W (hE.below k))
  have HE := Lib.hid (fun W (k : Below w.heap.size w W) => hE.below k)
  have B0 := Lib.hid (Below.refl w.heap.size w)
  clear hE
  by_cases hz : 4100 < s.size
  · have hzi : (4100 : Int) < (s.size : Int) := by omega
    go_enter Tryz.func4, Tryz.ntmps4
    go_wp2_with fail
    refine (AW.out _ B0.out).mono ?_; rintro e w1 ⟨rfl, hb⟩
    have B1 := Lib.hid hb
    clear hb
    go_wp2_with fail
    refine (AW.out _ B1.out).mono ?_; rintro e w2 ⟨rfl, hb⟩
    have B2 := Lib.hid (bel_then B1.out hb)
    clear hb
    go_wp2
    go_ret
    exact ⟨rfl, B2.out⟩
  have hzi : ¬ (4100 : Int) < (s.size : Int) := by omega
  have CR := Lib.hid (fun W (k : Below w.heap.size w W) => parse_any s (by omega) W (HE.out W k).1 (HE.out W k).2.sg)
  cases e1 : parE s.data.toList with
  | error y =>
    obtain ⟨k, x⟩ := y
    have hx : ¬ x = 0 := by have := parE_er e1; omega
    have C1 := fun W (k : Below w.heap.size w W) => CR.out W k
    unfold ParP at C1
    rw [e1] at C1
    simp only at C1
    replace C1 := Lib.hid C1
    clear e1 CR
    go_enter Tryz.func4, Tryz.ntmps4
    go_wp2_with fail
    refine (AW.out _ B0.out).mono ?_; rintro e w1 ⟨rfl, hb⟩
    have B1 := Lib.hid hb
    clear hb
    go_wp2_with fail
    refine (C1.out _ B1.out).mono ?_; rintro e w2 ⟨rfl, hb⟩
    have B2 := Lib.hid (bel_then B1.out hb)
    clear hb
    unfold treeV
    obtain ⟨wa, w3, ea, e3, HZ, H3, B3⟩ := tl_st w2 (.slice none 0 0) (.slice none 0 0) (.int .i64 0)
    have z0 := HZ.out.cell 0
    have y0 := HZ.out.frozen 0
    have z1 := HZ.out.cell 1
    have y1 := HZ.out.frozen 1
    have z2 := HZ.out.cell 2
    have y2 := HZ.out.frozen 2
    simp only [List.getElem?_cons_zero, List.getElem?_cons_succ] at z0 z1 z2
    have B4 := Lib.hid (bel_then B2.out B3.out)
    go_wp2
    go_ret
    exact ⟨rfl, B4.out⟩
  | ok y =>
    obtain ⟨D, b⟩ := y
    obtain ⟨ws, d, _, hrl, G⟩ := parE_ok e1
    have hcf := G.few
    have hcp := cnt_pos b
    obtain ⟨ho1, ho2, ho3⟩ := ordN_all G.okB
    have HO := Lib.hid ho2
    have HF := Lib.hid (fun i => (few_get (few_flB G.okB G.few) i).2.1)
    have HL := Lib.hid ho3
    have C1 := fun W (k : Below w.heap.size w W) => CR.out W k
    unfold ParP at C1
    rw [e1] at C1
    simp only at C1
    replace C1 := Lib.hid C1
    clear e1 CR hrl G ho1 ho2 ho3
    go_enter Tryz.func4, Tryz.ntmps4
    go_wp2_with fail
    refine (AW.out _ B0.out).mono ?_; rintro e w1 ⟨rfl, hb⟩
    have B1 := Lib.hid hb
    clear hb
    go_wp2_with fail
    refine (C1.out _ B1.out).mono ?_; rintro e w2 ⟨A, B, ca, cb, N, rfl, T, hN, hc, hb⟩
    have B2 := Lib.hid (bel_then B1.out hb)
    obtain ⟨x, rfl, hrow⟩ := rowN_of T (HE.out _ B2.out).2 (by omega)
    have RN := Lib.hid hrow
    have HG := Lib.hid (getD_fst hN)
    obtain ⟨n, hn⟩ : ∃ n, N.length = n := ⟨_, rfl⟩
    have HNL := Lib.hid hn
    have hrt : rt 0 b = (n : Int) - 1 := by unfold rt; omega
    have hn1 : 1 ≤ n := by omega
    have hn2 : n ≤ 1000 := by omega
    have HO2 : Hid (∀ i, i < n → OrdN (flB 0 b) i ((flB 0 b).getD i nd0)) := Lib.hid (fun i hi => HO.out i (by omega))
    have HL2 : Hid (((flB 0 b).getD (n - 1) nd0).k = 13) := Lib.hid (by rw [← hn, hc]; exact HL.out)
    rw [hrt, hn]
    clear hb T hN C1 hc hrow hn HO HL hrt
    unfold treeV
    obtain ⟨wa, w3, ea, e3, HZ, H3, B3⟩ := tl_st w2 (.slice A D.length ca) (.slice (some x) n cb) (.int .i64 ((n : Int) - 1))
    have z0 := HZ.out.cell 0
    have y0 := HZ.out.frozen 0
    have z1 := HZ.out.cell 1
    have y1 := HZ.out.frozen 1
    have z2 := HZ.out.cell 2
    have y2 := HZ.out.frozen 2
    simp only [List.getElem?_cons_zero, List.getElem?_cons_succ] at z0 z1 z2
    have n0 := H3.out.cell 0
    have n1 := H3.out.cell 1
    have n2 := H3.out.cell 2
    simp only [List.getElem?_cons_zero, List.getElem?_cons_succ] at n0 n1 n2
    have B4 := Lib.hid (bel_then B2.out B3.out)
    have kl := RN.out.kind B3.out (k := n - 1) (by rw [HNL.out]; omega)
    rw [HG.out, HL2.out] at kl
    have hb1 : ((n - 1 : Nat) : Int) = (n : Int) - 1 := by omega
    have hb2 : (n : Int) - 1 < (n : Int) := by omega
    have hb6 : (0 : Int) ≤ (n : Int) - 1 := by omega
    have hb3 : ((n : Int) ≤ 1000) := by omega
    have hb4 : (1 : Int) ≤ (n : Int) := by omega
    have hb5 : ((n : Int) - 1).toNat = n - 1 := by omega
    go_wp2
    go_loopw [6] (fun i wd => ∃ (k : Nat), i = .int .i64 k ∧ k ≤ n ∧ Hid (Below w3.heap.size w3 wd)) (fun i _ => n - (intOf i).toNat)
    case atStart => exact ⟨0, rfl, Nat.zero_le _, Lib.hid (Below.refl _ _)⟩
    case round =>
      obtain ⟨k, rfl, hk, HB⟩ := hrel
      have HX := Lib.hid (H3.out.below HB.out)
      clear n0 n1 n2 kl hb1 hb2 hb5 hb6 z0 z1 z2 y0 y1 y2 ea e3
      have n1 := HX.out.cell 1
      simp only [List.getElem?_cons_zero, List.getElem?_cons_succ] at n1
      by_cases hlt : k < n
      · have hkN : k < N.length := by rw [HNL.out]; exact hlt
        have BX := Lib.hid (bel_then B3.out HB.out)
        have hki : (k : Int) < (n : Int) := by omega
        have OR := HO2.out k hlt
        have hq := RN.out.c wr BX.out k hkN
        have hl := RN.out.l wr BX.out k hkN
        have hg := HG.out k
        generalize N.getD k nv0 = y at *
        obtain ⟨y, L⟩ := y
        simp only at hg
        rw [← hg] at OR
        have hll := HF.out k
        rw [← hg] at hll
        obtain ⟨LA, Lc, hL, hcell⟩ := hl
        simp only at hL hcell
        subst hL
        have HC0 := Lib.hid (fun W (b : Below wr.heap.size wr W) => (fun j hj => by
          obtain ⟨z, e, hz⟩ := hcell j hj
          exact ⟨z, e, by rw [b.cell (block_of_cell hz)]; exact hz⟩ : ∀ j, j < y.l.length → ∃ z, LA = some z ∧ W.cell? (z.add j) = some (.int .i64 (y.l.getD j 0))))
        clear hcell hg
        obtain ⟨yk, ya, yb, yc, yt, yv, yl⟩ := y
        have q0 : wr.cell? (x.add (k * 7)) = some (.int .i64 yk) := by
          have := hq 0 _ rfl
          rwa [addr_noneO RN.out.s] at this
        have q1 := hq 1 _ rfl
        have q2 := hq 2 _ rfl
        have q3 := hq 3 _ rfl
        have q4 := hq 4 _ rfl
        have q5 := hq 5 _ rfl
        have q6 := hq 6 _ rfl
        obtain ⟨o1, oa, ob, oc, ⟨ola, olb, olc⟩, oka, okb, okc, ol⟩ := OR
        simp only at o1 oa ob oc ola olb olc oka okb okc ol HC0 hll
        have hlli : (yl.length : Int) ≤ 1000 := by omega
        have OL := Lib.hid ol
        clear hq ol
        obtain ⟨wb, wl, eb, el, HY, HW, BL⟩ := ndo_st wr (.int .i64 yk) (.int .i64 ya) (.int .i64 yb) (.int .i64 yc) (.string (strB yt)) (.int .u32 yv) (.slice LA yl.length Lc)
        have z0 := HY.out.cell 0
        have z1 := HY.out.cell 1
        have z2 := HY.out.cell 2
        have z3 := HY.out.cell 3
        have z4 := HY.out.cell 4
        have z5 := HY.out.cell 5
        have z6 := HY.out.cell 6
        have f0 := HY.out.frozen 0
        have f1 := HY.out.frozen 1
        have f2 := HY.out.frozen 2
        have f3 := HY.out.frozen 3
        have f4 := HY.out.frozen 4
        have f5 := HY.out.frozen 5
        have f6 := HY.out.frozen 6
        have p0 := HW.out.cell 0
        have p1 := HW.out.cell 1
        have p2 := HW.out.cell 2
        have p3 := HW.out.cell 3
        have p4 := HW.out.cell 4
        have p5 := HW.out.cell 5
        have p6 := HW.out.cell 6
        have m1 := (HX.out.below BL.out).cell 1
        simp only [List.getElem?_cons_zero, List.getElem?_cons_succ] at z0 z1 z2 z3 z4 z5 z6 p0 p1 p2 p3 p4 p5 p6 m1
        have BY := Lib.hid (bel_then BX.out BL.out)
        have HC := Lib.hid (HC0.out wl BL.out)
        clear HC0
        have KD := Lib.hid (fun (z : Int) (h0 : 0 ≤ z) (h1 : z < (k : Int)) => (⟨z.toNat, by omega, by omega, by
          have := RN.out.kind BY.out (k := z.toNat) (by rw [HNL.out]; omega)
          rwa [HG.out] at this⟩ : ∃ m : Nat, z = (m : Int) ∧ m < k ∧ wl.cell? (x.add (m * 7)) = some (.int .i64 ((flB 0 b).getD z.toNat nd0).k)))
        clear hzi hb3
        have BN := Lib.hid (bel_then HB.out BL.out)
        have HXL := Lib.hid (HX.out.below BL.out)
        have HWL := Lib.hid HW.out
        clear BX BY HX HY HW BL
        go_upto_region 12 with fail
        clear q0 q1 q2 q3 q4 q5 q6 z0 z1 z2 z3 z4 z5 z6 f0 f1 f2 f3 f4 f5 f6
        have hcat : (ya < 0 ∧ yb < 0 ∧ yc < 0) ∨ (0 ≤ ya ∧ yb < 0 ∧ yc < 0) ∨ (0 ≤ ya ∧ 0 ≤ yb ∧ yc < 0) ∨ (0 ≤ ya ∧ 0 ≤ yb ∧ 0 ≤ yc ∧ yk = 9) := by omega
        have HCAT := Lib.hid hcat
        have OA := Lib.hid oa
        have OB := Lib.hid ob
        have OKA := Lib.hid oka
        have OKB := Lib.hid okb
        have OKC := Lib.hid okc
        clear oa ob oc oka okb okc hcat
        obtain ⟨ba, hba⟩ : ∃ ba, decide (0 ≤ ya) = ba := ⟨_, rfl⟩
        obtain ⟨bb, hbb⟩ : ∃ bb, decide (0 ≤ yb) = bb := ⟨_, rfl⟩
        have HA := Lib.hid hba
        have HB2 := Lib.hid hbb
        clear hba hbb
        go_cut [8] from 63 to 76 (fun s8 wx => s8 = .bool ba ∧ wx = wl)
        case first =>
          by_cases h3 : yk = 3
          · have : ba = true := by rw [← HA.out]; exact decide_eq_true (OA.out.1 (.inl h3))
            subst this
            subst h3
            as_aux_lemma =>
              go_wp2_with fail
              go_meet
              exact ⟨by first | rfl | simp, rfl⟩
          by_cases h5 : 5 ≤ yk
          · by_cases h12 : yk ≤ 12
            · have : ba = true := by rw [← HA.out]; exact decide_eq_true (OA.out.1 (.inr ⟨h5, h12⟩))
              subst this
              as_aux_lemma =>
                go_wp2_with fail
                all_goals go_meet
                all_goals exact ⟨by first | rfl | (simp; done) | simp [h3], rfl⟩
            · have : ba = false := by rw [← HA.out]; exact decide_eq_false (fun h => by have := OA.out.2 h; omega)
              subst this
              have e1 : decide (yk ≤ 12) = false := decide_eq_false h12
              have e2 : decide (yk = 3) = false := decide_eq_false h3
              as_aux_lemma =>
                go_wp2_with fail
                all_goals go_meet
                all_goals exact ⟨by first | rfl | (simp; done) | simp [h3], rfl⟩
          · have : ba = false := by rw [← HA.out]; exact decide_eq_false (fun h => by have := OA.out.2 h; omega)
            subst this
            have e1 : decide (5 ≤ yk) = false := decide_eq_false h5
            have e2 : decide (yk = 3) = false := decide_eq_false h3
            as_aux_lemma =>
              go_wp2_with fail
              all_goals go_meet
              all_goals exact ⟨by first | rfl | (simp; done) | simp [h3], rfl⟩
        obtain ⟨rfl, hwc⟩ := hcut
        obtain rfl : wl = wc := hwc.symm
        go_upto_region 13 with fail
        go_cut [9] from 76 to 89 (fun s9 wx => s9 = .bool bb ∧ wx = wl)
        case first =>
          by_cases h3 : yk = 6
          · have : bb = true := by rw [← HB2.out]; exact decide_eq_true (OB.out.1 (.inl h3))
            subst this
            subst h3
            as_aux_lemma =>
              go_wp2_with fail
              go_meet
              exact ⟨by first | rfl | simp, rfl⟩
          by_cases h5 : 8 ≤ yk
          · by_cases h12 : yk ≤ 10
            · have : bb = true := by rw [← HB2.out]; exact decide_eq_true (OB.out.1 (.inr ⟨h5, h12⟩))
              subst this
              as_aux_lemma =>
                go_wp2_with fail
                all_goals go_meet
                all_goals exact ⟨by first | rfl | (simp; done) | simp [h3], rfl⟩
            · have : bb = false := by rw [← HB2.out]; exact decide_eq_false (fun h => by have := OB.out.2 h; omega)
              subst this
              have e1 : decide (yk ≤ 10) = false := decide_eq_false h12
              have e2 : decide (yk = 6) = false := decide_eq_false h3
              as_aux_lemma =>
                go_wp2_with fail
                all_goals go_meet
                all_goals exact ⟨by first | rfl | (simp; done) | simp [h3], rfl⟩
          · have : bb = false := by rw [← HB2.out]; exact decide_eq_false (fun h => by have := OB.out.2 h; omega)
            subst this
            have e1 : decide (8 ≤ yk) = false := decide_eq_false h5
            have e2 : decide (yk = 6) = false := decide_eq_false h3
            as_aux_lemma =>
              go_wp2_with fail
              all_goals go_meet
              all_goals exact ⟨by first | rfl | (simp; done) | simp [h3], rfl⟩
        obtain ⟨rfl, hwc⟩ := hcut
        obtain rfl : wl = wc := hwc.symm
        have k1 : ¬ yk < 1 := by omega
        have k13 : ¬ 13 < yk := by omega
        go_upto_region 14 with fail
        go_cut [138] from 89 to 139 (fun s138 wx => s138 = .bool false ∧ wx = wl)
        case first =>
          rcases HCAT.out with ⟨h1, h2, h3⟩ | ⟨h1, h2, h3⟩ | ⟨h1, h2, h3⟩ | ⟨h1, h2, h3, h4⟩
          · have : ba = false := by rw [← HA.out]; exact decide_eq_false (by omega)
            subst this
            have : bb = false := by rw [← HB2.out]; exact decide_eq_false (by omega)
            subst this
            have da0 : decide (0 ≤ ya) = false := decide_eq_false (by omega)
            have db0 : decide (0 ≤ yb) = false := decide_eq_false (by omega)
            have dc0 : decide (0 ≤ yc) = false := decide_eq_false (by omega)
            as_aux_lemma =>
              go_wp2_with fail
              all_goals go_meet
              all_goals exact ⟨by first | rfl | (simp; done) | (simp; exact ⟨⟨ola, olb⟩, olc⟩) | (simp; omega), rfl⟩
          · have : ba = true := by rw [← HA.out]; exact decide_eq_true h1
            subst this
            have : bb = false := by rw [← HB2.out]; exact decide_eq_false (by omega)
            subst this
            have db0 : decide (0 ≤ yb) = false := decide_eq_false (by omega)
            have dc0 : decide (0 ≤ yc) = false := decide_eq_false (by omega)
            as_aux_lemma =>
              go_wp2_with fail
              all_goals go_meet
              all_goals exact ⟨by first | rfl | (simp; done) | (simp; exact ⟨⟨ola, olb⟩, olc⟩) | (simp; omega), rfl⟩
          · have : ba = true := by rw [← HA.out]; exact decide_eq_true h1
            subst this
            have : bb = true := by rw [← HB2.out]; exact decide_eq_true h2
            subst this
            have dc0 : decide (0 ≤ yc) = false := decide_eq_false (by omega)
            as_aux_lemma =>
              go_wp2_with fail
              all_goals go_meet
              all_goals exact ⟨by first | rfl | (simp; done) | (simp; exact ⟨⟨ola, olb⟩, olc⟩) | (simp; omega), rfl⟩
          · have : ba = true := by rw [← HA.out]; exact decide_eq_true h1
            subst this
            have : bb = true := by rw [← HB2.out]; exact decide_eq_true h2
            subst this
            subst h4
            as_aux_lemma =>
              go_wp2_with fail
              all_goals go_meet
              all_goals exact ⟨by first | rfl | (simp; done) | (simp; exact ⟨⟨ola, olb⟩, olc⟩) | (simp; omega), rfl⟩
        obtain ⟨rfl, hwc⟩ := hcut
        obtain rfl : wl = wc := hwc.symm
        go_upto_region 16 with fail
        go_cut [190] from 139 to 191 (fun s190 wx => s190 = .bool false ∧ Below wl.heap.size wl wx)
        case first =>
          rcases HCAT.out with ⟨h1, h2, h3⟩ | ⟨h1, h2, h3⟩ | ⟨h1, h2, h3⟩ | ⟨h1, h2, h3, h4⟩
          · skip
            have da0 : decide (0 ≤ ya) = false := decide_eq_false (by omega)
            have db0 : decide (0 ≤ yb) = false := decide_eq_false (by omega)
            have dc0 : decide (0 ≤ yc) = false := decide_eq_false (by omega)
            as_aux_lemma =>
              go_quiet (fail)
              go_wp2_with fail
              all_goals go_meet
              all_goals exact ⟨by first | rfl | simp, below_drewN (Below.refl _ _) _⟩
          · skip
            obtain ⟨ma, hae, hma, cA⟩ := KD.out ya h1 ola
            have hka := OKA.out h1
            obtain ⟨ka, hkae⟩ : ∃ ka, ((flB 0 b).getD ya.toNat nd0).k = ka := ⟨_, rfl⟩
            rw [hkae] at cA hka
            clear hkae
            subst hae
            have hmai : (ma : Int) < (k : Int) := by omega
            have hman : (ma : Int) < (n : Int) := by omega
            have ga : decide (6 < ka) = false := decide_eq_false (by omega)
            clear hka h1
            have db0 : decide (0 ≤ yb) = false := decide_eq_false (by omega)
            have dc0 : decide (0 ≤ yc) = false := decide_eq_false (by omega)
            as_aux_lemma =>
              go_quiet (fail)
              go_wp2_with fail
              all_goals go_meet
              all_goals exact ⟨by first | rfl | simp, below_drewN (Below.refl _ _) _⟩
          · skip
            obtain ⟨ma, hae, hma, cA⟩ := KD.out ya h1 ola
            have hka := OKA.out h1
            obtain ⟨ka, hkae⟩ : ∃ ka, ((flB 0 b).getD ya.toNat nd0).k = ka := ⟨_, rfl⟩
            rw [hkae] at cA hka
            clear hkae
            subst hae
            have hmai : (ma : Int) < (k : Int) := by omega
            have hman : (ma : Int) < (n : Int) := by omega
            have ga : decide (6 < ka) = false := decide_eq_false (by omega)
            clear hka h1
            obtain ⟨mb, hbe, hmb, cB⟩ := KD.out yb h2 olb
            have hkb := OKB.out h2
            obtain ⟨kb, hkbe⟩ : ∃ kb, ((flB 0 b).getD yb.toNat nd0).k = kb := ⟨_, rfl⟩
            rw [hkbe] at cB hkb
            clear hkbe
            subst hbe
            have hmbi : (mb : Int) < (k : Int) := by omega
            have hmbn : (mb : Int) < (n : Int) := by omega
            clear h2
            have dc0 : decide (0 ≤ yc) = false := decide_eq_false (by omega)
            by_cases h6 : yk = 6
            · have hk6 : kb ≤ 6 := hkb.1 (.inl h6)
              have gb : decide (kb ≤ 6) = true := decide_eq_true hk6
              subst h6
              clear hkb hk6
              as_aux_lemma =>
                go_quiet (fail)
                go_wp2_with fail
                all_goals go_meet
                all_goals exact ⟨by first | rfl | simp, below_drewN (Below.refl _ _) _⟩
            by_cases h8 : yk = 8
            · have hk6 : kb ≤ 6 := hkb.1 (.inr h8)
              have gb : decide (kb ≤ 6) = true := decide_eq_true hk6
              subst h8
              clear hkb hk6
              as_aux_lemma =>
                go_quiet (fail)
                go_wp2_with fail
                all_goals go_meet
                all_goals exact ⟨by first | rfl | simp, below_drewN (Below.refl _ _) _⟩
            have hk6 : ¬ kb ≤ 6 := fun h => by have := hkb.2 h; omega
            have gb : decide (kb ≤ 6) = false := decide_eq_false hk6
            have hk9 : yk = 9 ∨ yk = 10 := by have := OB.out.2 (by omega); omega
            clear h6 h8
            rcases hk9 with h9 | h9
            · subst h9
              clear hkb hk6
              as_aux_lemma =>
                go_quiet (fail)
                go_wp2_with fail
                all_goals go_meet
                all_goals exact ⟨by first | rfl | simp, below_drewN (Below.refl _ _) _⟩
            · subst h9
              clear hkb hk6
              as_aux_lemma =>
                go_quiet (fail)
                go_wp2_with fail
                all_goals go_meet
                all_goals exact ⟨by first | rfl | simp, below_drewN (Below.refl _ _) _⟩
          · skip
            obtain ⟨ma, hae, hma, cA⟩ := KD.out ya h1 ola
            have hka := OKA.out h1
            obtain ⟨ka, hkae⟩ : ∃ ka, ((flB 0 b).getD ya.toNat nd0).k = ka := ⟨_, rfl⟩
            rw [hkae] at cA hka
            clear hkae
            subst hae
            have hmai : (ma : Int) < (k : Int) := by omega
            have hman : (ma : Int) < (n : Int) := by omega
            have ga : decide (6 < ka) = false := decide_eq_false (by omega)
            clear hka h1
            obtain ⟨mb, hbe, hmb, cB⟩ := KD.out yb h2 olb
            have hkb := OKB.out h2
            obtain ⟨kb, hkbe⟩ : ∃ kb, ((flB 0 b).getD yb.toNat nd0).k = kb := ⟨_, rfl⟩
            rw [hkbe] at cB hkb
            clear hkbe
            subst hbe
            have hmbi : (mb : Int) < (k : Int) := by omega
            have hmbn : (mb : Int) < (n : Int) := by omega
            clear h2
            subst h4
            have hk6 : ¬ kb ≤ 6 := fun h => by have := hkb.2 h; omega
            have gb : decide (kb ≤ 6) = false := decide_eq_false hk6
            obtain ⟨mc, hce, hmc, cC⟩ := KD.out yc h3 olc
            have hkc := OKC.out h3
            rw [hkc] at cC
            subst hce
            have hmci : (mc : Int) < (k : Int) := by omega
            have hmcn : (mc : Int) < (n : Int) := by omega
            clear hkc h3 hkb
            as_aux_lemma =>
              go_quiet (fail)
              go_wp2_with fail
              all_goals go_meet
              all_goals exact ⟨by first | rfl | simp, below_drewN (Below.refl _ _) _⟩
        obtain ⟨rfl, hcut⟩ := hcut
        have KW := Lib.hid hcut
        clear hcut k1 k13
        generalize wc = w5 at *
        have B5 := Lib.hid (bel_then BN.out KW.out)
        have HX5 := Lib.hid (HXL.out.below KW.out)
        have HW5 := Lib.hid (HWL.out.below KW.out)
        clear p0 p1 p2 p3 p4 p5 p6 m1
        have p0 := HW5.out.cell 0
        have p6 := HW5.out.cell 6
        have m1 := HX5.out.cell 1
        simp only [List.getElem?_cons_zero, List.getElem?_cons_succ] at p0 p6 m1
        go_wp2
        go_loop [10] (fun i => ∃ (j : Nat), i = .int .i64 j ∧ j ≤ yl.length) (fun i => yl.length - (intOf i).toNat)
        case atStart => exact ⟨0, rfl, Nat.zero_le _⟩
        case round =>
          obtain ⟨j, rfl, hj⟩ := hrel
          by_cases hjl : j < yl.length
          · have hm := OL.out (yl.getD j 0) (by rw [List.getD_eq_getElem?_getD, List.getElem?_eq_getElem hjl]; exact List.getElem_mem _)
            obtain ⟨hK, h1, h2, h3, h4⟩ := hm
            obtain ⟨z, hz1, hz2⟩ := HC.out j hjl
            subst hz1
            obtain ⟨me, he, hme, ce⟩ := KD.out (yl.getD j 0) h1 h2
            obtain ⟨ke, hke⟩ : ∃ ke, ((flB 0 b).getD (yl.getD j 0).toNat nd0).k = ke := ⟨_, rfl⟩
            rw [hke] at ce h3 h4
            clear hke
            have cz : w5.cell? (z.add j) = some (.int .i64 (yl.getD j 0)) := by rw [KW.out.cell (block_of_cell hz2)]; exact hz2
            have ck : w5.cell? (x.add (me * 7)) = some (.int .i64 ke) := by rw [KW.out.cell (block_of_cell ce)]; exact ce
            generalize yl.getD j 0 = ez at *
            subst he
            have hji : (j : Int) < (yl.length : Int) := by omega
            have hmei : (me : Int) < (k : Int) := by omega
            have hmen : (me : Int) < (n : Int) := by omega
            have e1 : ¬ ke < 7 := by omega
            have e2 : ¬ 12 < ke := by omega
            subst hK
            clear h1 h2 hz2 ce
            go_wp2
            go_round
            case rel => exact ⟨j + 1, by go_num, by omega⟩
            case measure => simp [intOf]; omega
          · obtain rfl : j = yl.length := by omega
            go_wp2
            go_roundw
            case rel => exact ⟨k + 1, by go_num, by omega, B5⟩
            case measure => simp [intOf]; omega
      · obtain rfl : k = n := by omega
        have FIN := Lib.hid (bel_then B4.out HB.out)
        go_wp2
        go_ret
        exact ⟨rfl, FIN.out⟩
end Go.Proofs.YtkacplcilkogpaaGreatDoor.Mm
