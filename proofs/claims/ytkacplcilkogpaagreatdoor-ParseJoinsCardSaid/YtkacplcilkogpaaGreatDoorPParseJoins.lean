/- The statement ParseJoins, walked. -/
import Derived.Test.YtkacplcilkogpaaGreatDoorPPrsTexts
import Derived.BigQuiet
namespace Go.Proofs.YtkacplcilkogpaaGreatDoor.Mm
open Go.ChangeShapes Go.WideShapes Go.ChangeAt Go.RowKit
set_option linter.unusedVariables false
set_option linter.unusedSimpArgs false
set_option maxRecDepth 10000

theorem lst_lenN : ∀ (b : Nd) (n : Nat), okN 3 b → (lst n b).length = lenN b := by
  intro b
  induction b with
  | nil => intro n h; rfl
  | snoc b s ihb ihs =>
    intro n h
    simp only [lst, lenN, List.length_append, List.length_cons, List.length_nil, ihb n h.1]
  | _ => intro n h; exact h.elim
theorem lenN_le (b : Nd) : lenN b ≤ cnt b := by
  induction b with
  | snoc b s ihb ihs => have := cnt_pos s; simp only [lenN, cnt]; omega
  | _ => simp [lenN]
/-- the last node's list -/
theorem last_cell {w : World} {dv nv : Value} {D : List Dc} {N : List (NdR × Value)} {b : Nd} (T : TreeAt w dv D nv N) (hE : EnvV w) (hb : okN 3 b) (hN : N.map Prod.fst = flB 0 b) (hc : N.length = cnt b) :
    ∃ x cap A c, nv = .slice (some x) N.length cap ∧ x.spot = none ∧ w.cell? ⟨(x.add ((cnt b - 1) * 7)).block, (x.add ((cnt b - 1) * 7)).off + 6, none⟩ = some (.slice A (lenN b) c) := by
  have hcp := cnt_pos b
  have W : ShW w.heap.size nv N w := ⟨w, Nat.le_refl _, hE, T.nodes, T.lists, Below.refl _ _⟩
  have hk : cnt b - 1 < N.length := by omega
  obtain ⟨x, cap, hx, hsp, hcell⟩ := W.node hk
  obtain ⟨A, c, hl, _⟩ := W.list hk
  have e0 : (N.getD (cnt b - 1) nv0).1 = (flB 0 b).getD (cnt b - 1) nd0 := by rw [← hN]; simp [List.getD, hk]
  have e1 := last_B (G := flB 0 b) (n := 0) hb (fun k hk => by rw [Nat.zero_add])
  rw [show (rt 0 b).toNat = cnt b - 1 by have := (rt_app 0 b).2; omega] at e1
  rw [e0, e1] at hl
  simp only [lst_lenN b 0 hb] at hl
  exact ⟨x, cap, A, c, hx, hsp, by rw [← hl]; exact hcell 6 _ rfl⟩
/-- declarations of one text, statements of another one behind them -/
theorem par_join {s t : Bs} {D : List Dc} {b1 b2 : Nd} (h1 : parE s = .ok (D, b1)) (h2 : parE t = .ok ([], b2)) (hl : s.length + 1 + t.length ≤ 4000) :
    okN 3 b1 ∧ okN 3 b2 ∧ cnt b1 ≤ 1000 ∧ cnt b2 ≤ 1000 ∧ okN 3 (appN b1 b2) ∧ D.length ≤ 4000 ∧ (parE (s ++ 32 :: t) = .ok (D, appN b1 b2) ∨ (parE (s ++ 32 :: t) = .error (0, 4) ∧ 1000 < cnt b1 + cnt b2)) := by
  obtain ⟨w1, d1, _, r1, G1⟩ := parE_ok h1
  obtain ⟨w2, d2, _, r2, G2⟩ := parE_ok h2
  have hr : readL (s ++ 32 :: t) = .ok (w1 ++ w2) := by rw [read_parts _ s t (Nat.le_refl _), r1, r2]; rfl
  have hj := prg_join G2.words G1.prg G2.prg
  have hk := prg_kd (fun p hp => by rcases List.mem_append.1 hp with hp | hp; exact G1.words p hp; exact G2.words p hp) hj
  have hc := cnt_app b1 b2 G2.okB
  refine ⟨G1.okB, G2.okB, G1.few, G2.few, hk.2, G1.dfew, ?_⟩
  unfold parE readE
  rw [if_neg (by rw [List.length_append, List.length_cons]; omega), hr]
  simp only
  rw [hj]
  simp only
  have g1 := G1.deep
  have g2 := G2.deep
  by_cases hb : cnt (appN b1 b2) ≤ 1000
  · have e : bigP D (appN b1 b2) (max d1 d2) = false := by simp [bigP, G1.small]; omega
    rw [e]; exact .inl rfl
  · have e : bigP D (appN b1 b2) (max d1 d2) = true := by simp [bigP]; omega
    rw [e]; exact .inr ⟨rfl, by omega⟩
def GenP (w : World) (l : Bs) (e : Ending) (w' : World) : Prop := ∃ A n ca B m cb r k x, e = .returned (.tuple #[treeV (.slice A n ca) (.slice B m cb) r, .int .i64 k, .int .i64 x]) ∧ Below w.heap.size w w' ∧
  (∀ k' x', parE l = .error (k', x') → ¬ x = 0) ∧ (∀ D b, parE l = .ok (D, b) → x = 0 ∧ n = D.length)
theorem par_gen (s : ByteArray) (hs : s.size ≤ 100000) (w : World) (hE : EnvP w) : Calls Tryz.prog 9 #[.string s] w (GenP w s.data.toList) := by
  refine (parse_any s hs w hE.1 hE.2.sg).mono ?_
  intro e w' h
  unfold ParP at h
  unfold GenP
  cases hp : parE s.data.toList with
  | error y =>
    obtain ⟨k, x⟩ := y
    rw [hp] at h
    obtain ⟨rfl, hb⟩ := h
    refine ⟨none, 0, 0, none, 0, 0, 0, k, x, rfl, hb, ?_, ?_⟩
    · intro k' x' e; have := parE_er hp; omega
    · intro D b e; cases e
  | ok y =>
    obtain ⟨D, b⟩ := y
    rw [hp] at h
    obtain ⟨A, B, ca, cb, N, rfl, T, hN, hc, hb⟩ := h
    refine ⟨A, D.length, ca, B, N.length, cb, rt 0 b, 0, 0, rfl, hb, ?_, ?_⟩
    · intro k' x' e; cases e
    · intro D' b' e; injection e with e; injection e with e1 e2; subst e1; exact ⟨rfl, rfl⟩
set_option maxHeartbeats 16000000 in
theorem parseJoins_walk (s t : ByteArray) (w : World) (hs : s.size ≤ maxLen) (ht : t.size ≤ maxLen) (hE : EnvP w) :
    Calls Tryz.prog 7 #[.string s, .string t] w fun e w' => e = .returned (.bool true) ∧ Below w.heap.size w w' := by
  have AW := Lib.hid (fun W (k : Below w.heap.size w W) => awake_any W (hE.below k))
  have HE := Lib.hid (fun W (k : Below w.heap.size w W) => hE.below k)
  have B0 := Lib.hid (Below.refl w.heap.size w)
  clear hE
  by_cases hz : 800 < s.size
  · have hzi : (800 : Int) < (s.size : Int) := by omega
    go_enter Tryz.func7, Tryz.ntmps7
    go_wp2_with fail
    refine (AW.out _ B0.out).mono ?_; rintro e w1 ⟨rfl, hb⟩
    have B1 := Lib.hid hb
    clear hb
    go_wp2_with fail
    refine (AW.out _ B1.out).mono ?_; rintro e w2 ⟨rfl, hb⟩
    have B2 := Lib.hid (bel_then B1.out hb)
    clear hb
    go_wp2
    go_ret
    exact ⟨rfl, B2.out⟩
  by_cases hy : 800 < t.size
  · have hzi : ¬ (800 : Int) < (s.size : Int) := by omega
    have hyi : (800 : Int) < (t.size : Int) := by omega
    go_enter Tryz.func7, Tryz.ntmps7
    go_wp2_with fail
    refine (AW.out _ B0.out).mono ?_; rintro e w1 ⟨rfl, hb⟩
    have B1 := Lib.hid hb
    clear hb
    go_wp2_with fail
    refine (AW.out _ B1.out).mono ?_; rintro e w2 ⟨rfl, hb⟩
    have B2 := Lib.hid (bel_then B1.out hb)
    clear hb
    go_wp2
    go_ret
    exact ⟨rfl, B2.out⟩
  have hzi : ¬ (800 : Int) < (s.size : Int) := by omega
  have hyi : ¬ (800 : Int) < (t.size : Int) := by omega
  have G1 := Lib.hid (fun W (k : Below w.heap.size w W) => par_gen s (by omega) W (HE.out W k))
  have G2 := Lib.hid (fun W (k : Below w.heap.size w W) => par_gen t (by omega) W (HE.out W k))
  by_cases hgo : ∃ D b1 b2, parE s.data.toList = .ok (D, b1) ∧ parE t.data.toList = .ok ([], b2)
  · obtain ⟨D, b1, b2, e1, e2⟩ := hgo
    obtain ⟨k1, k2, f1, f2, k3, hDl, hjn⟩ := par_join e1 e2 (by rw [← Lib.size_eq, ← Lib.size_eq]; omega)
    have hca := cnt_app b1 b2 k2
    have hla := len_app b1 b2 k2
    have p1 := cnt_pos b1
    have p2 := cnt_pos b2
    have LC := Lib.hid (fun (W : World) (dv nv : Value) (D : List Dc) (N : List (NdR × Value)) (b : Nd) (T : TreeAt W dv D nv N) (k : Below w.heap.size w W) (hb : okN 3 b) (hN : N.map Prod.fst = flB 0 b) (hc : N.length = cnt b) => last_cell T (HE.out W k).2 hb hN hc)
    have CR := Lib.hid (fun W (k : Below w.heap.size w W) => parse_any s (by omega) W (HE.out W k).1 (HE.out W k).2.sg)
    have CT := Lib.hid (fun W (k : Below w.heap.size w W) => parse_any t (by omega) W (HE.out W k).1 (HE.out W k).2.sg)
    have C1 := fun W (k : Below w.heap.size w W) => CR.out W k
    have C2 := fun W (k : Below w.heap.size w W) => CT.out W k
    unfold ParP at C1 C2
    rw [e1] at C1
    rw [e2] at C2
    simp only [List.length_nil] at C1 C2
    replace C1 := Lib.hid C1
    replace C2 := Lib.hid C2
    have C3 := fun W (k : Below w.heap.size w W) => parse_any ((s ++ ⟨#[32]⟩) ++ t) (by rw [ByteArray.size_append, ByteArray.size_append]; show s.size + 1 + _ ≤ _; omega) W (HE.out W k).1 (HE.out W k).2.sg
    have el : ((s ++ ⟨#[32]⟩) ++ t).data.toList = s.data.toList ++ 32 :: t.data.toList := by simp [ByteArray.data_append]
    unfold ParP at C3
    rw [el] at C3
    replace C3 := Lib.hid C3
    clear e1 e2 CR CT G1 G2 el
    go_enter Tryz.func7, Tryz.ntmps7
    go_wp2_with fail
    refine (AW.out _ B0.out).mono ?_; rintro e w1 ⟨rfl, hb⟩
    have B1 := Lib.hid hb
    clear hb
    go_wp2_with fail
    refine (C1.out _ B1.out).mono ?_; rintro e w2 ⟨A1, X1, ca1, cb1, N1, rfl, T1, hN1, hc1, hb⟩
    have B2 := Lib.hid (bel_then B1.out hb)
    have T1 := Lib.hid T1
    have hn1 := Lib.hid hN1
    have hm1 := Lib.hid hc1
    have l1 := Lib.hid hc1
    clear hb hN1 hc1
    unfold treeV
    obtain ⟨wa, w3, ea, e3, HZ, H3, B3⟩ := tl_st w2 (.slice A1 D.length ca1) (.slice X1 N1.length cb1) (.int .i64 (rt 0 b1))
    have z0 := HZ.out.cell 0
    have y0' := HZ.out.frozen 0
    have z1 := HZ.out.cell 1
    have y1' := HZ.out.frozen 1
    have z2 := HZ.out.cell 2
    have y2' := HZ.out.frozen 2
    simp only [List.getElem?_cons_zero, List.getElem?_cons_succ] at z0 z1 z2
    have B4 := Lib.hid (bel_then B2.out B3.out)
    go_wp2_with fail
    refine (C2.out _ B4.out).mono ?_; rintro e w4 ⟨A2, X2, ca2, cb2, N2, rfl, T2, hN2, hc2, hb⟩
    have B5 := Lib.hid (bel_then B4.out hb)
    have T2 := Lib.hid T2
    have hn2 := Lib.hid hN2
    have hm2 := Lib.hid hc2
    have H4 := Lib.hid (H3.out.below hb)
    have T1b := Lib.hid ((T1.out.below B3.out).below hb)
    clear hb hN2 hc2 T1
    unfold treeV
    obtain ⟨wb, w5, eb, e5, HY, H5, B6⟩ := tl_st w4 (.slice A2 0 ca2) (.slice X2 N2.length cb2) (.int .i64 (rt 0 b2))
    have q0 := HY.out.cell 0
    have p0' := HY.out.frozen 0
    have q1 := HY.out.cell 1
    have p1' := HY.out.frozen 1
    have q2 := HY.out.cell 2
    have p2' := HY.out.frozen 2
    simp only [List.getElem?_cons_zero, List.getElem?_cons_succ] at q0 q1 q2
    have d0 := H5.out.cell 0
    simp only [List.getElem?_cons_zero, List.getElem?_cons_succ] at d0
    have B7 := Lib.hid (bel_then B5.out B6.out)
    have H6 := Lib.hid (H4.out.below B6.out)
    have T1c := Lib.hid (T1b.out.below B6.out)
    have T2c := Lib.hid (T2.out.below B6.out)
    clear T1b T2 H4
    have C4 := C3.out _ B7.out
    rcases hjn with hj | ⟨hj, hgt⟩
    · rw [hj] at C4
      simp only at C4
      replace C4 := Lib.hid C4
      go_wp2_with fail
      refine (C4.out).mono ?_; rintro e w6 ⟨A3, X3, ca3, cb3, N3, rfl, T3, hN3, hc3, hb⟩
      have B8 := Lib.hid (bel_then B7.out hb)
      have T3 := Lib.hid T3
      have hn3 := Lib.hid hN3
      have hm3 := Lib.hid hc3
      have H7 := Lib.hid (H6.out.below hb)
      have H8 := Lib.hid (H5.out.below hb)
      have T1d := Lib.hid (T1c.out.below hb)
      have T2d := Lib.hid (T2c.out.below hb)
      clear hb hN3 hc3 C4 T1c T2c
      unfold treeV
      obtain ⟨wc, w7, ec, e7, HX, H9, B9⟩ := tl_st w6 (.slice A3 D.length ca3) (.slice X3 N3.length cb3) (.int .i64 (rt 0 (appN b1 b2)))
      have o0 := HX.out.cell 0
      have v0' := HX.out.frozen 0
      have o1 := HX.out.cell 1
      have v1' := HX.out.frozen 1
      have o2 := HX.out.cell 2
      have v2' := HX.out.frozen 2
      simp only [List.getElem?_cons_zero, List.getElem?_cons_succ] at o0 o1 o2
      have B10 := Lib.hid (bel_then B8.out B9.out)
      have HA := Lib.hid (H7.out.below B9.out)
      have HB := Lib.hid (H8.out.below B9.out)
      obtain ⟨x1, q1, Y1, y1, hv1, hs1, u1⟩ := LC.out w7 _ _ _ N1 b1 (T1d.out.below B9.out) B10.out k1 hn1.out hm1.out
      obtain ⟨x2, q2, Y2, y2, hv2, hs2, u2⟩ := LC.out w7 _ _ _ N2 b2 (T2d.out.below B9.out) B10.out k2 hn2.out hm2.out
      obtain ⟨x3, q3, Y3, y3, hv3, hs3, u3⟩ := LC.out w7 _ _ _ N3 _ (T3.out.below B9.out) B10.out k3 hn3.out hm3.out
      injection hv1 with hx1 _ hq1
      injection hv2 with hx2 _ hq2
      injection hv3 with hx3 _ hq3
      subst hx1 hx2 hx3 hq1 hq2 hq3
      have a0 := HA.out.cell 0
      have a1 := HA.out.cell 1
      have a2 := HA.out.cell 2
      have c1 := HB.out.cell 1
      have c2 := HB.out.cell 2
      have g0 := H9.out.cell 0
      have g1 := H9.out.cell 1
      have g2 := H9.out.cell 2
      simp only [List.getElem?_cons_zero, List.getElem?_cons_succ] at a0 a1 a2 c1 c2 g0 g1 g2
      have hr1 : rt 0 b1 = ((cnt b1 - 1 : Nat) : Int) := by unfold rt; omega
      have hr2 : rt 0 b2 = ((cnt b2 - 1 : Nat) : Int) := by unfold rt; omega
      have hr3 : rt 0 (appN b1 b2) = ((cnt (appN b1 b2) - 1 : Nat) : Int) := by unfold rt; omega
      have j1 : ((cnt b1 - 1 : Nat) : Int) < (N1.length : Int) := by rw [hm1.out]; omega
      have j2 : ((cnt b2 - 1 : Nat) : Int) < (N2.length : Int) := by rw [hm2.out]; omega
      have j3 : ((cnt (appN b1 b2) - 1 : Nat) : Int) < (N3.length : Int) := by rw [hm3.out]; omega
      have jj : (N3.length : Int) = (N1.length : Int) + (N2.length : Int) - 1 := by rw [hm1.out, hm2.out, hm3.out]; omega
      have jl : ((lenN (appN b1 b2) : Nat) : Int) = (lenN b1 : Int) + (lenN b2 : Int) := by omega
      rw [hr1] at a2
      rw [hr2] at c2
      rw [hr3] at g2 e7
      have DR : ∀ (a : Addr) (v : Value), w7.cell? a = some v → w7.drew.cell? a = some v := fun a v h => h
      have a0' := DR _ _ a0
      have a1' := DR _ _ a1
      have a2' := DR _ _ a2
      have c1' := DR _ _ c1
      have c2' := DR _ _ c2
      have g0' := DR _ _ g0
      have g1' := DR _ _ g1
      have g2' := DR _ _ g2
      have u1' := DR _ _ u1
      have u2' := DR _ _ u2
      have u3' := DR _ _ u3
      have i1 : (N1.length : Int) ≤ 1000 := by rw [hm1.out]; omega
      have i2 : (N2.length : Int) ≤ 1000 := by rw [hm2.out]; omega
      have i3 : (1 : Int) ≤ N1.length + N2.length := by rw [hm1.out, hm2.out]; omega
      have i4 : (lenN b1 : Int) ≤ 1000 := by have := lenN_le b1; omega
      have i5 : (lenN b2 : Int) ≤ 1000 := by have := lenN_le b2; omega
      have dj : decide ((N3.length : Int) = (N1.length : Int) + (N2.length : Int) - 1) = true := decide_eq_true jj
      go_wp2
      go_quiet (fail)
      go_wp2
      go_ret
      exact ⟨by first | rfl | simp [jj, jl], below_drewN B10.out _⟩
    · rw [hj] at C4
      simp only at C4
      replace C4 := Lib.hid C4
      have hN : Hid ((1000 : Int) < (N1.length : Int) + (N2.length : Int)) := Lib.hid (by rw [hm1.out, hm2.out]; omega)
      go_wp2_with fail
      refine (C4.out).mono ?_; rintro e w6 ⟨rfl, hb⟩
      have B8 := Lib.hid (bel_then B7.out hb)
      have H7 := Lib.hid (H6.out.below hb)
      have H8 := Lib.hid (H5.out.below hb)
      clear hb C4
      unfold treeV
      obtain ⟨wc, w7, ec, e7, HX, H9, B9⟩ := tl_st w6 (.slice none 0 0) (.slice none 0 0) (.int .i64 0)
      have o0 := HX.out.cell 0
      have v0' := HX.out.frozen 0
      have o1 := HX.out.cell 1
      have v1' := HX.out.frozen 1
      have o2 := HX.out.cell 2
      have v2' := HX.out.frozen 2
      simp only [List.getElem?_cons_zero, List.getElem?_cons_succ] at o0 o1 o2
      have B10 := Lib.hid (bel_then B8.out B9.out)
      have HA := Lib.hid (H7.out.below B9.out)
      have HB := Lib.hid (H8.out.below B9.out)
      have a1 := HA.out.cell 1
      have c1 := HB.out.cell 1
      simp only [List.getElem?_cons_zero, List.getElem?_cons_succ] at a1 c1
      have hNo := hN.out
      have i1 : (N1.length : Int) ≤ 1000 := by rw [hm1.out]; omega
      have i2 : (N2.length : Int) ≤ 1000 := by rw [hm2.out]; omega
      go_wp2
      go_ret
      exact ⟨by first | rfl | simp [hNo], B10.out⟩
  · go_enter Tryz.func7, Tryz.ntmps7
    go_wp2_with fail
    refine (AW.out _ B0.out).mono ?_; rintro e w1 ⟨rfl, hb⟩
    have B1 := Lib.hid hb
    clear hb
    go_wp2_with fail
    refine (G1.out _ B1.out).mono ?_; rintro e w2 ⟨A1, n1, ca1, X1, m1, cb1, r1, k1, x1, rfl, hb, hx1, hx2⟩
    have B2 := Lib.hid (bel_then B1.out hb)
    clear hb
    unfold treeV
    obtain ⟨wa, w3, ea, e3, HZ, H3, B3⟩ := tl_st w2 (.slice A1 n1 ca1) (.slice X1 m1 cb1) (.int .i64 r1)
    have z0 := HZ.out.cell 0
    have y0' := HZ.out.frozen 0
    have z1 := HZ.out.cell 1
    have y1' := HZ.out.frozen 1
    have z2 := HZ.out.cell 2
    have y2' := HZ.out.frozen 2
    simp only [List.getElem?_cons_zero, List.getElem?_cons_succ] at z0 z1 z2
    have B4 := Lib.hid (bel_then B2.out B3.out)
    go_wp2_with fail
    refine (G2.out _ B4.out).mono ?_; rintro e w4 ⟨A2, n2, ca2, X2, m2, cb2, r2, k2, x2, rfl, hb, hy1, hy2⟩
    have B5 := Lib.hid (bel_then B4.out hb)
    clear hb
    unfold treeV
    obtain ⟨wb, w5, eb, e5, HY, H5, B6⟩ := tl_st w4 (.slice A2 n2 ca2) (.slice X2 m2 cb2) (.int .i64 r2)
    have q0 := HY.out.cell 0
    have p0' := HY.out.frozen 0
    have q1 := HY.out.cell 1
    have p1' := HY.out.frozen 1
    have q2 := HY.out.cell 2
    have p2' := HY.out.frozen 2
    simp only [List.getElem?_cons_zero, List.getElem?_cons_succ] at q0 q1 q2
    have d0 := H5.out.cell 0
    simp only [List.getElem?_cons_zero, List.getElem?_cons_succ] at d0
    have B7 := Lib.hid (bel_then B5.out B6.out)
    have hno : ¬ x1 = 0 ∨ ((x1 = 0 ∧ ¬ x2 = 0) ∨ (x1 = 0 ∧ x2 = 0 ∧ (0 : Int) < (n2 : Int))) := by
      cases h1 : parE s.data.toList with
      | error y => obtain ⟨k, x⟩ := y; exact .inl (hx1 k x h1)
      | ok y =>
        obtain ⟨D, b1⟩ := y
        have z1 := (hx2 D b1 h1).1
        cases h2 : parE t.data.toList with
        | error y => obtain ⟨k, x⟩ := y; exact .inr (.inl ⟨z1, hy1 k x h2⟩)
        | ok y =>
          obtain ⟨D2, b2⟩ := y
          obtain ⟨z2, z3⟩ := hy2 D2 b2 h2
          refine .inr (.inr ⟨z1, z2, ?_⟩)
          cases D2 with
          | nil => exact absurd ⟨D, b1, b2, h1, h2⟩ hgo
          | cons _ _ => simp at z3; omega
    clear hx1 hx2 hy1 hy2 hgo
    rcases hno with h1 | ⟨h1, h2⟩ | ⟨h1, h2, h3⟩
    all_goals
      (try subst h1)
      (try subst h2)
      go_wp2
      go_ret
      exact ⟨by first | rfl | simp, B7.out⟩
end Go.Proofs.YtkacplcilkogpaaGreatDoor.Mm
