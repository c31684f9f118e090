/- Package check: use, Right. -/
import Derived.Test.YtkacplcilkogpaaDoorPChkFits
namespace Go.Proofs.YtkacplcilkogpaaDoor.Mm
open Go.ChangeShapes Go.WideShapes Go.ChangeAt Go.RowKit
set_option linter.unusedVariables false
set_option linter.unusedSimpArgs false
set_option maxRecDepth 10000

theorem addr_none {x : Addr} (h : x.spot = none) (n : Nat) : (⟨(x.add n).block, (x.add n).off + 0, none⟩ : Addr) = x.add n := by
  obtain ⟨b, o, s⟩ := x
  simp only at h
  subst h
  unfold Addr.add
  split <;> simp_all
theorem use_any (x : NdR) (L : Value) (K : List (Bs × Int)) (m : Nat) (w : World) (M : SMap w m K) (hL : L.oneCell' = true) :
    Calls Tryd.prog 15 #[ndA x L, .map (some m)] w fun e w' => e = .returned (.int .i64 (useE K x.k x.t)) ∧ Below w.heap.size w w' := by
  obtain ⟨xk, xa, xb, xc, xt, xv, xl⟩ := x
  have b1 := bel_al (Below.refl _ w) (.cells #[.int .i64 xk, .int .i64 xa, .int .i64 xb, .int .i64 xc, .string (strB xt), .int .u32 xv, L] 37)
  obtain ⟨w1, e1, H1, B1, M1⟩ : ∃ w1, w.alloc (.cells #[.int .i64 xk, .int .i64 xa, .int .i64 xb, .int .i64 xc, .string (strB xt), .int .u32 xv, L] 37) = w1 ∧ Hid (HasB w1 w.heap.size 37 [.int .i64 xk, .int .i64 xa, .int .i64 xb, .int .i64 xc, .string (strB xt), .int .u32 xv, L]) ∧ Hid (Below w.heap.size w w1) ∧ Hid (SMap w1 m K) :=
    ⟨_, rfl, Lib.hid (HasB.new w _ _), Lib.hid b1, Lib.hid (M.below b1)⟩
  have n0 := H1.out.cell 0
  have n4 := H1.out.cell 4
  simp only [List.getElem?_cons_zero, List.getElem?_cons_succ] at n0 n4
  have CF := Lib.hid (kindFor_any xk)
  have HL := M1.out.look (P := Tryd.prog) (mt := 51) Tryd.underlying51 Tryd.underlying9 (zero_kind w1) xt
  obtain ⟨u, hu⟩ : ∃ u, useE K xk xt = u := ⟨_, rfl⟩
  have HU := Lib.hid hu
  obtain ⟨z, hz⟩ : ∃ z, kindF xk = z := ⟨_, rfl⟩
  have HZ := Lib.hid hz
  have hz3 : Hid (z = 0 ∨ z = 1 ∨ z = 2) := Lib.hid (by rw [← hz]; unfold kindF; split; exact .inr (.inl rfl); split; exact .inr (.inr rfl); exact .inl rfl)
  obtain ⟨g, hg⟩ : ∃ g, getA K xt = g := ⟨_, rfl⟩
  have HG := Lib.hid hg
  rw [hg] at HL
  clear b1 M M1 hz hg
  unfold ndA ndC
  simp only
  rw [hu]
  clear hu
  unfold useE at HU
  by_cases h0 : z = 0
  · have : u = 0 := by rw [← HU.out, HZ.out, if_pos h0]
    subst this
    rw [show z = 0 from h0] at HZ
    clear HU h0 HL HG
    go_enter Tryd.func15, Tryd.ntmps15
    go_wp2_with fail
    refine (CF.out _).mono ?_; rintro e w2 ⟨rfl, rfl⟩
    rw [HZ.out]
    go_wp2
    go_ret
    exact ⟨rfl, B1.out⟩
  · by_cases hgz : g = z
    · have : u = 0 := by rw [← HU.out, HZ.out, HG.out, if_neg h0, if_pos hgz]
      subst this
      subst hgz
      clear HU HG
      go_enter Tryd.func15, Tryd.ntmps15
      go_wp2_with fail
      refine (CF.out _).mono ?_; rintro e w2 ⟨rfl, rfl⟩
      rw [HZ.out]
      go_wp2
      go_ret
      exact ⟨rfl, B1.out⟩
    · by_cases hg0 : g = 0
      · have : u = 10 := by rw [← HU.out, HZ.out, HG.out, if_neg h0, if_neg hgz, if_pos hg0]
        subst this
        subst hg0
        clear HU HG
        go_enter Tryd.func15, Tryd.ntmps15
        go_wp2_with fail
        refine (CF.out _).mono ?_; rintro e w2 ⟨rfl, rfl⟩
        rw [HZ.out]
        go_wp2
        go_ret
        exact ⟨rfl, B1.out⟩
      · have : u = 11 := by rw [← HU.out, HZ.out, HG.out, if_neg h0, if_neg hgz, if_neg hg0]
        subst this
        clear HU HG
        go_enter Tryd.func15, Tryd.ntmps15
        go_wp2_with fail
        refine (CF.out _).mono ?_; rintro e w2 ⟨rfl, rfl⟩
        rw [HZ.out]
        go_wp2
        go_ret
        exact ⟨rfl, B1.out⟩
def usN (N : List (NdR × Value)) : List (Int × Bs) := N.map fun p => (p.1.k, p.1.t)
theorem uses_take {K : List (Bs × Int)} {N : List (NdR × Value)} {k : Nat} (h : k < N.length) (h0 : usesE K (usN (N.take k)) = 0) : usesE K (usN (N.take (k + 1))) = useE K (N.getD k nvZ).1.k (N.getD k nvZ).1.t := by
  rw [take_snocD N k nvZ h]
  unfold usN at *
  rw [List.map_append, usesE_app, if_pos h0]
  show (if useE K _ _ = 0 then (0 : Int) else useE K _ _) = _
  split
  · rename_i h; exact h.symm
  · rfl
theorem uses_cut {K : List (Bs × Int)} {N : List (NdR × Value)} {k : Nat} (h : usesE K (usN (N.take k)) ≠ 0) : usesE K (usN N) = usesE K (usN (N.take k)) := by
  have : usN N = usN (N.take k) ++ usN (N.drop k) := by unfold usN; rw [← List.map_append, List.take_append_drop]
  rw [this, usesE_app, if_neg h]
structure NdOk (w : World) (B : Nat) (v : Value) (N : List (NdR × Value)) : Prop where
  o : NdO w B v N
  one : ∀ p ∈ N, ∃ A l c, p.2 = .slice A l c
theorem nd_stW (w : World) (c0 c1 c2 c3 c4 c5 c6 : Value) : ∃ wa w', w.alloc (.cells #[.int .i64 0, .int .i64 0, .int .i64 0, .int .i64 0, .string ⟨#[]⟩, .int .u32 0, .slice none 0 0] 37) = wa ∧
    ((((((wa.setCell ⟨w.heap.size, 0, none⟩ c0).setCell ⟨w.heap.size, 1, none⟩ c1).setCell ⟨w.heap.size, 2, none⟩ c2).setCell ⟨w.heap.size, 3, none⟩ c3).setCell ⟨w.heap.size, 4, none⟩ c4).setCell ⟨w.heap.size, 5, none⟩ c5).setCell ⟨w.heap.size, 6, none⟩ c6 = w' ∧
    Hid (HasB wa w.heap.size 37 [.int .i64 0, .int .i64 0, .int .i64 0, .int .i64 0, .string ⟨#[]⟩, .int .u32 0, .slice none 0 0]) ∧ Hid (HasB w' w.heap.size 37 [c0, c1, c2, c3, c4, c5, c6]) ∧ Hid (Below w.heap.size w w') :=
  ⟨_, _, rfl, rfl, Lib.hid (HasB.new w _ _), Lib.hid (has_set (has_set (has_set (has_set (has_set (has_set (has_set (HasB.new w _ _) 0 c0) 1 c1) 2 c2) 3 c3) 4 c4) 5 c5) 6 c6), Lib.hid (set7_bel (Nat.le_refl _) (bel_al (Below.refl _ _) _) c0 c1 c2 c3 c4 c5 c6)⟩
set_option maxHeartbeats 8000000 in
theorem right_any (v0 nv : Value) (b : Int) (D : List Dc) (N : List (NdR × Value)) (w : World) (O : DcO w 0 v0 D) (ON : NdOk w 0 nv N) (hl : D.length ≤ 100000) (hs : ∀ d ∈ D, d.1.length ≤ 100000) (hn : N.length ≤ 100000) :
    Calls Tryd.prog 8 #[treeV v0 nv b] w fun e w' => e = .returned (.int .i64 (rightE D (usN N))) ∧ Below w.heap.size w w' := by
  obtain ⟨w1, e1, H1, B1, -⟩ := tree_box w v0 nv b
  have CK := Lib.hid (kindsOf_any v0 D w1 (own_belowP O B1.out) hl)
  have CF := Lib.hid (fun W (k : Below w.heap.size w W) => fits_any v0 nv b D W (own_belowP O k) hl hs)
  have HN := Lib.hid (fun W (k : Below w.heap.size w W) => (⟨own_belowP ON.o k, ON.one⟩ : NdOk W 0 nv N))
  obtain ⟨A0, c0, rfl⟩ := own_form O
  obtain ⟨A1, c1, rfl⟩ := own_form ON.o
  obtain ⟨r, hr⟩ : ∃ r, rightE D (usN N) = r := ⟨_, rfl⟩
  have HR := Lib.hid hr
  rw [hr]
  clear hr O ON hs
  have hk := (kmap_len D).1
  have t0 := H1.out.cell 0
  have t1 := H1.out.cell 1
  have t2 := H1.out.cell 2
  simp only [List.getElem?_cons_zero, List.getElem?_cons_succ] at t0 t1 t2
  unfold rightE at HR
  unfold treeV at CF
  unfold treeV
  go_enter Tryd.func8, Tryd.ntmps8
  go_wp2_with fail
  refine CK.out.mono ?_; rintro e w2 ⟨rfl, m2, b2⟩
  have B2 := Lib.hid (bel_then B1.out b2)
  have M2 := Lib.hid m2
  have H2 := Lib.hid (H1.out.below b2)
  have h0 := H2.out.cell 0
  have h1 := H2.out.cell 1
  have h2 := H2.out.cell 2
  simp only [List.getElem?_cons_zero, List.getElem?_cons_succ] at h0 h1 h2
  have hlen := m2.len Tryd.prog 51 9 55 3 Tryd.underlying51
  have KX := Lib.hid (fun (K : List (Bs × Int)) (e : kmap D = K) => e)
  generalize hKg : kmap D = K at *
  clear CK m2 b2 KX hKg
  by_cases hlt : K.length < D.length
  · have hi : (K.length : Int) < (D.length : Int) := by omega
    have : r = 9 := by rw [← HR.out, if_pos hlt]
    subst this
    clear HR
    go_wp2
    go_ret
    exact ⟨rfl, B2.out⟩
  · have hi : ¬ (K.length : Int) < (D.length : Int) := by omega
    rw [if_neg hlt] at HR
    have CF2 := CF.out w2 B2.out
    clear hlt CF
    cases hf : fitB D with
    | false =>
      rw [hf] at CF2
      have : r = 4 := by rw [← HR.out, hf]; rfl
      subst this
      replace CF2 := Lib.hid CF2
      clear HR
      go_wp2_with fail
      refine CF2.out.mono ?_; rintro e w3 ⟨rfl, b3⟩
      have B3 := Lib.hid (bel_then B2.out b3)
      clear b3 CF2
      go_wp2
      go_ret
      exact ⟨rfl, B3.out⟩
    | true =>
      rw [hf] at CF2
      have HR2 : Hid (usesE K (usN N) = r) := Lib.hid (by rw [← HR.out, hf]; rfl)
      replace CF2 := Lib.hid CF2
      clear HR hf
      go_wp2_with fail
      refine CF2.out.mono ?_; rintro e w3 ⟨rfl, b3⟩
      have B3 := Lib.hid (bel_then B2.out b3)
      have M3 := Lib.hid (M2.out.below b3)
      have H3 := Lib.hid (H2.out.below b3)
      have g0 := H3.out.cell 0
      have g1 := H3.out.cell 1
      have g2 := H3.out.cell 2
      simp only [List.getElem?_cons_zero, List.getElem?_cons_succ] at g0 g1 g2
      clear b3 CF2 M2
      obtain ⟨n, hnn⟩ : ∃ n, N.length = n := ⟨_, rfl⟩
      have HL := Lib.hid hnn
      rw [hnn] at hn g1 HN H3 H2 H1 t1 h1 e1
      rw [hnn]
      clear hnn
      go_wp2
      go_loopw [22] (fun i wr => ∃ k : Nat, i = .int .i64 k ∧ k ≤ n ∧ Hid (usesE K (usN (N.take k)) = 0) ∧ Hid (Below w.heap.size w wr) ∧ Hid (SMap wr w1.heap.size K)) (fun i _ => n - (intOf i).toNat)
      case atStart => exact ⟨0, rfl, Nat.zero_le _, Lib.hid rfl, B3, M3⟩
      case round =>
        obtain ⟨k, rfl, hk, HI, HB, HM⟩ := hrel
        clear g0 g1 g2 h0 h1 h2 t0 t1 t2 hlen B3 M3
        by_cases hkn : k < n
        · have ON := HN.out wr HB.out
          have hkl : k < N.length := by rw [HL.out]; exact hkn
          obtain ⟨x, cap, hv, hs, q⟩ := ndO_cell ON.o hkl
          injection hv with hA hl2 hc
          subst hA
          clear hc hl2
          have HSP := Lib.hid hs
          clear hs
          have KT := Lib.hid (uses_take (K := K) hkl HI.out)
          have KO := ON.one (N.getD k nvZ) (by rw [List.getD_eq_getElem?_getD, List.getElem?_eq_getElem hkl]; exact List.getElem_mem _)
          have KC := Lib.hid (fun h => uses_cut (K := K) (N := N) (k := k + 1) h)
          generalize N.getD k nvZ = y at *
          obtain ⟨y, L⟩ := y
          obtain ⟨LA, Ll, Lc, hLs⟩ := KO
          simp only at hLs
          subst hLs
          have CU := Lib.hid (fun W (M : SMap W w1.heap.size K) => use_any y (.slice LA Ll Lc) K _ W M rfl)
          obtain ⟨u, hu⟩ : ∃ u, useE K y.k y.t = u := ⟨_, rfl⟩
          rw [hu] at CU KT
          clear hu ON
          obtain ⟨yk, ya, yb, yc, yt, yv, yl⟩ := y
          have q0 : wr.cell? (x.add (k * 7)) = some (.int .i64 yk) := by
            have := q 0 _ rfl
            rwa [show (⟨(x.add (k * 7)).block, (x.add (k * 7)).off + 0, none⟩ : Addr) = x.add (k * 7) from addr_none HSP.out _] at this
          have q1 := q 1 _ rfl
          have q2 := q 2 _ rfl
          have q3 := q 3 _ rfl
          have q4 := q 4 _ rfl
          have q5 := q 5 _ rfl
          have q6 := q 6 _ rfl
          clear q HSP
          unfold ndA ndC at CU
          simp only at CU
          obtain ⟨wa, wl, ea, el, HZ, HW, BL⟩ := nd_stW wr (.int .i64 yk) (.int .i64 ya) (.int .i64 yb) (.int .i64 yc) (.string (strB yt)) (.int .u32 yv) (.slice LA Ll Lc)
          have z0 := HZ.out.cell 0
          have z1 := HZ.out.cell 1
          have z2 := HZ.out.cell 2
          have z3 := HZ.out.cell 3
          have z4 := HZ.out.cell 4
          have z5 := HZ.out.cell 5
          have z6 := HZ.out.cell 6
          have f0 := HZ.out.frozen 0
          have f1 := HZ.out.frozen 1
          have f2 := HZ.out.frozen 2
          have f3 := HZ.out.frozen 3
          have f4 := HZ.out.frozen 4
          have f5 := HZ.out.frozen 5
          have f6 := HZ.out.frozen 6
          have p0 := HW.out.cell 0
          have p1 := HW.out.cell 1
          have p2 := HW.out.cell 2
          have p3 := HW.out.cell 3
          have p4 := HW.out.cell 4
          have p5 := HW.out.cell 5
          have p6 := HW.out.cell 6
          simp only [List.getElem?_cons_zero, List.getElem?_cons_succ] at z0 z1 z2 z3 z4 z5 z6 p0 p1 p2 p3 p4 p5 p6
          have ML := Lib.hid (HM.out.below BL.out)
          have BW := Lib.hid (bel_then HB.out BL.out)
          have CU2 := Lib.hid (CU.out wl ML.out)
          clear CU
          go_wp2_with fail
          refine CU2.out.mono ?_; rintro e w4 ⟨rfl, b4⟩
          have B4 := Lib.hid (bel_then BW.out b4)
          have M4 := Lib.hid (ML.out.below b4)
          clear b4 CU2
          by_cases hu : u = 0
          · have H0 := Lib.hid (KT.out.trans hu)
            subst hu
            clear KT KC
            go_wp2
            go_roundw
            case rel => exact ⟨k + 1, by go_num, by omega, H0, B4, M4⟩
            case measure => simp [intOf]; omega
          · have HF : Hid (u = r) := Lib.hid (by rw [← HR2.out, KC.out (by rw [KT.out]; exact hu), KT.out])
            clear KT KC
            go_wp2
            go_ret
            exact ⟨by rw [← HF.out]; rfl, B4.out⟩
        · obtain rfl : k = n := by omega
          have : r = 0 := by rw [← HR2.out, ← HI.out, List.take_of_length_le (by rw [HL.out]; exact Nat.le_refl _)]
          subst this
          go_wp2
          go_ret
          exact ⟨rfl, HB.out⟩
end Go.Proofs.YtkacplcilkogpaaDoor.Mm
