/- The statement ParseShows, walked: see XParseShows. -/
import Derived.Test.YtkacplcilkogpaaGreatDoorQParseShows
namespace Go.Proofs.YtkacplcilkogpaaGreatDoor.Mm
open Go.ChangeShapes Go.WideShapes Go.ChangeAt Go.RowKit
set_option linter.unusedVariables false
set_option linter.unusedSimpArgs false
set_option maxRecDepth 10000

theorem nd_box (w : World) (c0 c1 c2 c3 c4 c5 c6 : Value) : ∃ w1, w.alloc (.cells #[c0, c1, c2, c3, c4, c5, c6] 35) = w1 ∧ Hid (HasB w1 w.heap.size 35 [c0, c1, c2, c3, c4, c5, c6]) ∧ Hid (Below w.heap.size w w1) :=
  ⟨_, rfl, Lib.hid (HasB.new w _ _), Lib.hid (bel_al (Below.refl _ _) _)⟩
/-- the two nodes, boxed, and the first one's list, of the statement's own -/
structure ShS (w0 : World) (j1 j2 B : Nat) (c1 c2 : List Value) (lv : Value) (L : List Int) (w : World) : Prop where
  h1 : HasB w j1 35 c1
  h2 : HasB w j2 35 c2
  o : IntO w B lv L
  b : Below w0.heap.size w0 w
  l1 : w0.heap.size ≤ j1
  l2 : w0.heap.size ≤ j2
  lB : w0.heap.size ≤ B
  ne : j1 ≠ j2
theorem own_setS {w : World} {base size n j i : Nat} {x : Value} {e : TypeId} {v : Value} {xs : List Value} (h : w.ownsRow base e size v n xs) (hr : some j ≠ v.ownBlock) : (w.setCell ⟨j, i, none⟩ x).ownsRow base e size v n xs := by
  refine ⟨h.1, ?_⟩
  rcases h.2 with hn | ⟨b, cap, cur, rfl, hb, hgg, rest⟩
  · exact .inl hn
  · refine .inr ⟨b, cap, cur, rfl, hb, ?_, rest⟩
    simp only [World.setCell, Array.getElem?_modify]
    rw [if_neg (fun e => hr (by rw [e]; rfl))]
    exact hgg
theorem has_setS {w : World} {j k i : Nat} {t : TypeId} {cs : List Value} {x : Value} (h : HasB w k t cs) (hj : j ≠ k) : HasB (w.setCell ⟨j, i, none⟩ x) k t cs := by
  refine h.same ?_
  simp only [World.setCell, Array.getElem?_modify]
  rw [if_neg hj]
theorem ShS.set1 {w0 w : World} {j1 j2 B : Nat} {c1 c2 : List Value} {lv : Value} {L : List Int} (s : ShS w0 j1 j2 B c1 c2 lv L w) (i : Nat) (v : Value) : ∃ W, w.setCell ⟨j1, i, none⟩ v = W ∧ Hid (ShS w0 j1 j2 B (c1.set i v) c2 lv L W) :=
  ⟨_, rfl, Lib.hid ⟨has_set s.h1 i v, has_setS s.h2 s.ne, own_setS s.o (own_neB s.o s.h1 (by decide)), s.b.setCell (p := ⟨j1, i, none⟩) s.l1 v, s.l1, s.l2, s.lB, s.ne⟩⟩
theorem ShS.set2 {w0 w : World} {j1 j2 B : Nat} {c1 c2 : List Value} {lv : Value} {L : List Int} (s : ShS w0 j1 j2 B c1 c2 lv L w) (i : Nat) (v : Value) : ∃ W, w.setCell ⟨j2, i, none⟩ v = W ∧ Hid (ShS w0 j1 j2 B c1 (c2.set i v) lv L W) :=
  ⟨_, rfl, Lib.hid ⟨has_setS s.h1 (Ne.symm s.ne), has_set s.h2 i v, own_setS s.o (own_neB s.o s.h2 (by decide)), s.b.setCell (p := ⟨j2, i, none⟩) s.l2 v, s.l1, s.l2, s.lB, s.ne⟩⟩
theorem ShS.num {w0 w : World} {j1 j2 B k n c : Nat} {c1 c2 : List Value} {A : Option Addr} {L : List Int} (s : ShS w0 j1 j2 B c1 c2 (.slice A n c) L w) (hl : L.length = n) (hk : k < n) (v : Int) :
    ∃ x, A = some x ∧ ∃ u, w.cell? (x.add k) = some u ∧ w.frozen? (x.add k) = false ∧ ∃ W, w.setCell (x.add k) (.int .i64 v) = W ∧ Hid (ShS w0 j1 j2 B c1 c2 (.slice A n c) (L.set k v) W) := by
  subst hl
  rcases s.o.2 with ⟨e, h0⟩ | ⟨g, cap, cur, e, hb, hg, rest⟩
  · omega
  · injection e with e1 e2 e3
    subst e1 e3
    have o' := s.o.stored k (.int .i64 v)
    have hx : (⟨g, 0, none⟩ : Addr).add k = ⟨g, k, none⟩ := addr0P g k
    have ne1 := own_neB s.o s.h1 (by decide)
    have ne2 := own_neB s.o s.h2 (by decide)
    have hgg := (s.o.lt g rfl).1
    refine ⟨_, rfl, .int .i64 (L.getD k 0), ?_, ?_, _, rfl, Lib.hid ⟨?_, ?_, ?_, ?_, s.l1, s.l2, s.lB, s.ne⟩⟩
    · exact s.o.cells (g := g) rfl k _ (map_get hk)
    · rw [hx]
      simp [World.frozen?, hg]
    · rw [hx]; exact has_setS s.h1 (fun e => ne1 (by rw [← e]; rfl))
    · rw [hx]; exact has_setS s.h2 (fun e => ne2 (by rw [← e]; rfl))
    · rw [hx]
      show World.ownsRow _ B 3 1 _ (L.set k v).length ((L.set k v).map (Value.int .i64))
      rw [List.length_set, List.map_set]
      exact o'.1
    · rw [hx]; exact s.b.setCell (p := ⟨g, k, none⟩) (Nat.le_trans s.lB hgg) _
theorem nodes_new (w : World) (x y : List Value) (hx : x.length = 7) (hy : y.length = 7) : (w.alloc (.cells (x ++ y).toArray 35)).ownsRow w.heap.size 35 7 (.slice (some ⟨w.heap.size, 0, none⟩) 2 2) 2 (x ++ y) := by
  have := World.ownsRow_lit (size := 7) (base := w.heap.size) (e := 35) w (x ++ y).toArray 2 (Nat.le_refl _) (by unfold maxLen; omega) (by simp [hx, hy])
  simpa using this
set_option maxHeartbeats 32000000 in
theorem parseShows_walk (pn pm : NdR × Value) (body : Int) (w : World) (hn : LsW w pn ∧ 0 ≤ pn.1.v ∧ pn.1.v ≤ 4294967295) (hm : LsW w pm ∧ 0 ≤ pm.1.v ∧ pm.1.v ≤ 4294967295) (wb : (Lit.int .i64 body).wf = true) (hE : EnvP w) :
    Calls Tryz.prog 5 #[ndA pn.1 pn.2, ndA pm.1 pm.2, .int .i64 body] w fun e w' => e = .returned (.bool true) ∧ Below w.heap.size w w' := by
  obtain ⟨⟨nk, na, nb, nc, nt, nv, nl⟩, nL⟩ := pn
  obtain ⟨⟨mk, ma, mb, mc, mt, mv, ml⟩, mL⟩ := pm
  obtain ⟨⟨An, capn, en, hcn⟩, hnv⟩ := hn
  obtain ⟨⟨Am, capm, em, hcm⟩, hmv⟩ := hm
  simp only at en hcn hnv em hcm hmv
  subst en em
  have HCN := Lib.hid (fun W (b : Below w.heap.size w W) => (fun j hj => by
    obtain ⟨z, e, hz⟩ := hcn j hj
    exact ⟨z, e, by rw [b.cell (World.block_lt_of_cell? _ _ hz)]; exact hz⟩ : ∀ j, j < nl.length → ∃ z, An = some z ∧ W.cell? (z.add j) = some (.int .i64 (nl.getD j 0))))
  have HNV := Lib.hid hnv
  have HMV := Lib.hid hmv
  have HE := Lib.hid (fun W (k : Below w.heap.size w W) => hE.below k)
  have AW := Lib.hid (fun W (k : Below w.heap.size w W) => awake_any W (hE.below k))
  clear hcn hcm hE hnv hmv wb
  obtain ⟨w1, e1, H1, B1⟩ := nd_box w (.int .i64 nk) (.int .i64 na) (.int .i64 nb) (.int .i64 nc) (.string (strB nt)) (.int .u32 nv) (.slice An nl.length capn)
  have H1b := Lib.hid H1.out
  obtain ⟨w2, e2, H2, B2⟩ := nd_box w1 (.int .i64 mk) (.int .i64 ma) (.int .i64 mb) (.int .i64 mc) (.string (strB mt)) (.int .u32 mv) (.slice Am ml.length capm)
  have B2 := Lib.hid (bel_then B1.out B2.out)
  have H1 := Lib.hid (H1.out.below (show Below w1.heap.size w1 w2 from by rw [← e2]; exact bel_al (Below.refl _ _) _))
  have HL1 := Lib.hid (show w.heap.size < w1.heap.size from H1b.out.lt)
  unfold ndA ndC
  simp only
  obtain ⟨sn, hsn⟩ : ∃ sn, (strB nt).size = sn := ⟨_, rfl⟩
  obtain ⟨sm, hsm⟩ : ∃ sm, (strB mt).size = sm := ⟨_, rfl⟩
  have HSN := Lib.hid hsn
  have HSM := Lib.hid hsm
  clear hsn hsm
  have AW1 := Lib.hid (AW.out w2 B2.out)
  by_cases hbig : 50 < (strB nt).size ∨ 50 < (strB mt).size ∨ 3 < nl.length ∨ 0 < ml.length
  · go_enter Tryz.func5, Tryz.ntmps5
    go_wp2_with fail
    refine AW1.out.mono ?_; rintro e w3 ⟨rfl, hb⟩
    have B3 := Lib.hid (bel_then B2.out hb)
    have G1 := Lib.hid (H1.out.below hb)
    have G2 := Lib.hid (H2.out.below hb)
    have p0 := G1.out.cell 0
    have p1 := G1.out.cell 1
    have p2 := G1.out.cell 2
    have p3 := G1.out.cell 3
    have p4 := G1.out.cell 4
    have p5 := G1.out.cell 5
    have p6 := G1.out.cell 6
    simp only [List.getElem?_cons_zero, List.getElem?_cons_succ] at p0 p1 p2 p3 p4 p5 p6
    have q0 := G2.out.cell 0
    have q1 := G2.out.cell 1
    have q2 := G2.out.cell 2
    have q3 := G2.out.cell 3
    have q4 := G2.out.cell 4
    have q5 := G2.out.cell 5
    have q6 := G2.out.cell 6
    simp only [List.getElem?_cons_zero, List.getElem?_cons_succ] at q0 q1 q2 q3 q4 q5 q6
    have AW2 := Lib.hid (AW.out w3 B3.out)
    clear hb AW1
    by_cases c1 : 50 < (strB nt).size
    · have d1 : (50 : Int) < ((strB nt).size : Int) := by omega
      go_wp2_with fail
      refine AW2.out.mono ?_; rintro e w4 ⟨rfl, hb⟩
      have B4 := Lib.hid (bel_then B3.out hb)
      go_wp2
      go_ret
      exact ⟨rfl, B4.out⟩
    have d1 : ¬ (50 : Int) < ((strB nt).size : Int) := by omega
    by_cases c2 : 50 < (strB mt).size
    · have d2 : (50 : Int) < ((strB mt).size : Int) := by omega
      go_wp2_with fail
      refine AW2.out.mono ?_; rintro e w4 ⟨rfl, hb⟩
      have B4 := Lib.hid (bel_then B3.out hb)
      go_wp2
      go_ret
      exact ⟨rfl, B4.out⟩
    have d2 : ¬ (50 : Int) < ((strB mt).size : Int) := by omega
    by_cases c3 : 3 < nl.length
    · have d3 : (3 : Int) < (nl.length : Int) := by omega
      go_wp2_with fail
      refine AW2.out.mono ?_; rintro e w4 ⟨rfl, hb⟩
      have B4 := Lib.hid (bel_then B3.out hb)
      go_wp2
      go_ret
      exact ⟨rfl, B4.out⟩
    have d3 : ¬ (3 : Int) < (nl.length : Int) := by omega
    have d4 : (0 : Int) < (ml.length : Int) := by omega
    go_wp2_with fail
    refine AW2.out.mono ?_; rintro e w4 ⟨rfl, hb⟩
    have B4 := Lib.hid (bel_then B3.out hb)
    go_wp2
    go_ret
    exact ⟨rfl, B4.out⟩
  · have d1 : ¬ (50 : Int) < ((strB nt).size : Int) := by omega
    have d2 : ¬ (50 : Int) < ((strB mt).size : Int) := by omega
    have d3 : ¬ (3 : Int) < (nl.length : Int) := by omega
    obtain rfl : ml = [] := List.eq_nil_of_length_eq_zero (by omega)
    simp only [List.length_nil] at e2 H2
    have hnt : nt.length ≤ 50 := by rw [← strB_size]; omega
    have hmt : mt.length ≤ 50 := by rw [← strB_size]; omega
    have hnl : nl.length ≤ 3 := by omega
    clear hbig
    go_enter Tryz.func5, Tryz.ntmps5
    go_wp2_with fail
    refine AW1.out.mono ?_; rintro e w3 ⟨rfl, hb⟩
    have B3 := Lib.hid (bel_then B2.out hb)
    have G1 := Lib.hid (H1.out.below hb)
    have G2 := Lib.hid (H2.out.below hb)
    have p0 := G1.out.cell 0
    have p1 := G1.out.cell 1
    have p2 := G1.out.cell 2
    have p3 := G1.out.cell 3
    have p4 := G1.out.cell 4
    have p5 := G1.out.cell 5
    have p6 := G1.out.cell 6
    simp only [List.getElem?_cons_zero, List.getElem?_cons_succ] at p0 p1 p2 p3 p4 p5 p6
    have q0 := G2.out.cell 0
    have q1 := G2.out.cell 1
    have q2 := G2.out.cell 2
    have q3 := G2.out.cell 3
    have q4 := G2.out.cell 4
    have q5 := G2.out.cell 5
    have q6 := G2.out.cell 6
    simp only [List.getElem?_cons_zero, List.getElem?_cons_succ] at q0 q1 q2 q3 q4 q5 q6
    clear hb AW1 AW H1 H2 e1 e2
    obtain ⟨w4, e4, O4, B34⟩ : ∃ w4, w3.alloc (.cells #[] 3) = w4 ∧ Hid (IntO w4 w3.heap.size (.slice (some ⟨w3.heap.size, 0, none⟩) 0 0) []) ∧ Hid (Below w3.heap.size w3 w4) := ⟨_, rfl, Lib.hid (empty_int w3), Lib.hid (bel_al (Below.refl _ _) _)⟩
    have B4 := Lib.hid (bel_then B3.out B34.out)
    have F1 := Lib.hid (G1.out.below B34.out)
    have F2 := Lib.hid (G2.out.below B34.out)
    have u0 := F1.out.cell 0
    have u1 := F1.out.cell 1
    have u2 := F1.out.cell 2
    have u3 := F1.out.cell 3
    have u4 := F1.out.cell 4
    have u5 := F1.out.cell 5
    have u6 := F1.out.cell 6
    simp only [List.getElem?_cons_zero, List.getElem?_cons_succ] at u0 u1 u2 u3 u4 u5 u6
    have v0 := F2.out.cell 0
    have v1 := F2.out.cell 1
    have v2 := F2.out.cell 2
    have v3 := F2.out.cell 3
    have v4 := F2.out.cell 4
    have v5 := F2.out.cell 5
    have v6 := F2.out.cell 6
    simp only [List.getElem?_cons_zero, List.getElem?_cons_succ] at v0 v1 v2 v3 v4 v5 v6
    go_wp2_with (at_builtin; refine app_intL rfl (.tmp 37) (.tmp 39) rfl O4.out rfl rfl (HCN.out w4 B4.out) (by omega) B34.out.size ?_; intro v5 w5 O5 g5; obtain ⟨A5, k5, rfl⟩ : ∃ A c, v5 = .slice A nl.length c := (by obtain ⟨A, c, e⟩ := sl_form O5; exact ⟨A, c, e⟩); have E1 := Lib.hid (F1.out.grown g5 (fun e => by have := (O4.out.lt _ e.symm).1; have := G1.out.lt; omega)); have E2 := Lib.hid (F2.out.grown g5 (fun e => by have := (O4.out.lt _ e.symm).1; have := G2.out.lt; omega)); have x6 := E1.out.cell 6; have X6 := E1.out.frozen 6; simp only [List.getElem?_cons_zero, List.getElem?_cons_succ] at x6; have S5 : Hid (ShS w w.heap.size w1.heap.size w3.heap.size [.int .i64 nk, .int .i64 na, .int .i64 nb, .int .i64 nc, .string (strB nt), .int .u32 nv, .slice An nl.length capn] [.int .i64 mk, .int .i64 ma, .int .i64 mb, .int .i64 mc, .string (strB mt), .int .u32 mv, .slice Am 0 capm] (.slice A5 nl.length k5) nl w5) := Lib.hid ⟨E1.out, E2.out, O5, B4.out.grown g5 B4.out.size (fun k hk => Nat.le_trans B3.out.size (O4.out.lt k hk).1), Nat.le_refl _, B1.out.size, B3.out.size, by have := HL1.out; omega⟩; obtain ⟨w6, e6, S6⟩ := S5.out.set1 6 (.slice A5 nl.length k5); simp only [List.set_cons_zero, List.set_cons_succ] at S6)
    clear x6 X6
    go_loopw [7] (fun i wd => ∃ (k : Nat) (L : List Int), i = .int .i64 k ∧ k ≤ nl.length ∧ L.length = nl.length ∧ Hid (ShS w w.heap.size w1.heap.size w3.heap.size [.int .i64 nk, .int .i64 na, .int .i64 nb, .int .i64 nc, .string (strB nt), .int .u32 nv, .slice A5 nl.length k5] [.int .i64 mk, .int .i64 ma, .int .i64 mb, .int .i64 mc, .string (strB mt), .int .u32 mv, .slice Am 0 capm] (.slice A5 nl.length k5) L wd)) (fun i _ => nl.length - (intOf i).toNat)
    case atStart => exact ⟨0, nl, rfl, Nat.zero_le _, rfl, S6⟩
    case round =>
      obtain ⟨k, L, rfl, hk, hL, SS⟩ := hrel
      clear S5 S6 e6 E1 E2
      have c6 := SS.out.h1.cell 6
      simp only [List.getElem?_cons_zero, List.getElem?_cons_succ] at c6
      by_cases hlt : k < nl.length
      · obtain ⟨x, hx, u, cu, fu, W, eW, SW⟩ := SS.out.num hL hlt 1
        subst hx
        have hki : (k : Int) < (nl.length : Int) := by omega
        go_wp2
        go_roundw
        case rel => exact ⟨k + 1, L.set k 1, by go_num, by omega, by rw [List.length_set]; exact hL, SW⟩
        case measure => simp [intOf]; omega
      · obtain rfl : k = nl.length := by omega
        have sc1 := SS.out.h2.cell 1
        have sf1 := SS.out.h2.frozen 1
        simp only [List.getElem?_cons_zero, List.getElem?_cons_succ] at sc1
        obtain ⟨wr1, er1, SR1⟩ := SS.out.set2 1 (.int .i64 (-1))
        simp only [List.set_cons_zero, List.set_cons_succ] at SR1
        have sc2 := SR1.out.h2.cell 2
        have sf2 := SR1.out.h2.frozen 2
        simp only [List.getElem?_cons_zero, List.getElem?_cons_succ] at sc2
        obtain ⟨wr2, er2, SR2⟩ := SR1.out.set2 2 (.int .i64 (-1))
        simp only [List.set_cons_zero, List.set_cons_succ] at SR2
        have sc3 := SR2.out.h2.cell 3
        have sf3 := SR2.out.h2.frozen 3
        simp only [List.getElem?_cons_zero, List.getElem?_cons_succ] at sc3
        obtain ⟨wr3, er3, SR3⟩ := SR2.out.set2 3 (.int .i64 (-1))
        simp only [List.set_cons_zero, List.set_cons_succ] at SR3
        have sc4 := SR3.out.h1.cell 1
        have sf4 := SR3.out.h1.frozen 1
        simp only [List.getElem?_cons_zero, List.getElem?_cons_succ] at sc4
        obtain ⟨wr4, er4, SR4⟩ := SR3.out.set1 1 (.int .i64 1)
        simp only [List.set_cons_zero, List.set_cons_succ] at SR4
        have sc5 := SR4.out.h1.cell 2
        have sf5 := SR4.out.h1.frozen 2
        simp only [List.getElem?_cons_zero, List.getElem?_cons_succ] at sc5
        obtain ⟨wr5, er5, SR5⟩ := SR4.out.set1 2 (.int .i64 1)
        simp only [List.set_cons_zero, List.set_cons_succ] at SR5
        have sc6 := SR5.out.h1.cell 3
        have sf6 := SR5.out.h1.frozen 3
        simp only [List.getElem?_cons_zero, List.getElem?_cons_succ] at sc6
        obtain ⟨wr6, er6, SR6⟩ := SR5.out.set1 3 (.int .i64 (-1))
        simp only [List.set_cons_zero, List.set_cons_succ] at SR6
        have na0 := SR6.out.h1.cell 0
        have ma0 := SR6.out.h2.cell 0
        have na1 := SR6.out.h1.cell 1
        have ma1 := SR6.out.h2.cell 1
        have na2 := SR6.out.h1.cell 2
        have ma2 := SR6.out.h2.cell 2
        have na3 := SR6.out.h1.cell 3
        have ma3 := SR6.out.h2.cell 3
        have na4 := SR6.out.h1.cell 4
        have ma4 := SR6.out.h2.cell 4
        have na5 := SR6.out.h1.cell 5
        have ma5 := SR6.out.h2.cell 5
        have na6 := SR6.out.h1.cell 6
        have ma6 := SR6.out.h2.cell 6
        simp only [List.getElem?_cons_zero, List.getElem?_cons_succ] at na0 ma0 na1 ma1 na2 ma2 na3 ma3 na4 ma4 na5 ma5 na6 ma6
        obtain ⟨wn, en, ON, BN⟩ : ∃ wn, wr6.alloc (.cells #[.int .i64 nk, .int .i64 1, .int .i64 1, .int .i64 (-1), .string (strB nt), .int .u32 nv, .slice A5 nl.length k5, .int .i64 mk, .int .i64 (-1), .int .i64 (-1), .int .i64 (-1), .string (strB mt), .int .u32 mv, .slice Am 0 capm] 35) = wn ∧ Hid (wn.ownsRow 0 35 7 (.slice (some ⟨wr6.heap.size, 0, none⟩) 2 2) 2 ([.int .i64 nk, .int .i64 1, .int .i64 1, .int .i64 (-1), .string (strB nt), .int .u32 nv, .slice A5 nl.length k5] ++ [.int .i64 mk, .int .i64 (-1), .int .i64 (-1), .int .i64 (-1), .string (strB mt), .int .u32 mv, .slice Am 0 capm])) ∧ Hid (Below wr6.heap.size wr6 wn) := ⟨_, rfl, Lib.hid (by have h := own_base (nodes_new wr6 [.int .i64 nk, .int .i64 1, .int .i64 1, .int .i64 (-1), .string (strB nt), .int .u32 nv, .slice A5 nl.length k5] [.int .i64 mk, .int .i64 (-1), .int .i64 (-1), .int .i64 (-1), .string (strB mt), .int .u32 mv, .slice Am 0 capm] rfl rfl); exact h), Lib.hid (bel_al (Below.refl _ _) _)⟩
        obtain ⟨wa, wt, ea, et, HZ, HT, BT⟩ := tl_st wn (.slice none 0 0) (.slice (some ⟨wr6.heap.size, 0, none⟩) 2 2) (.int .i64 body)
        have z0 := HZ.out.cell 0
        have z1 := HZ.out.cell 1
        have z2 := HZ.out.cell 2
        have y0 := HZ.out.frozen 0
        have y1 := HZ.out.frozen 1
        have y2 := HZ.out.frozen 2
        have t0 := HT.out.cell 0
        have t1 := HT.out.cell 1
        have t2 := HT.out.cell 2
        simp only [List.getElem?_cons_zero, List.getElem?_cons_succ] at z0 z1 z2 t0 t1 t2
        have BX := Lib.hid (bel_then BN.out BT.out)
        have B9 := Lib.hid (bel_then SR6.out.b BX.out)
        have LN := Lib.hid (LsW.below (p := (⟨nk, 1, 1, -1, nt, nv, L⟩, .slice A5 nl.length k5)) (lsW_of (by show World.ownsRow _ 0 _ 1 (.slice A5 nl.length k5) L.length _; exact own_base SR6.out.o)) BX.out)
        have TW : Hid (TreeW wt (.slice none 0 0) [] (.slice (some ⟨wr6.heap.size, 0, none⟩) 2 2) [(⟨nk, 1, 1, -1, nt, nv, L⟩, .slice A5 nl.length k5), (⟨mk, -1, -1, -1, mt, mv, []⟩, .slice Am 0 capm)]) := Lib.hid ⟨World.ownsRow_nil _ _ _ _, own_belowP ON.out BT.out, fun p hp => by
          simp only [List.mem_cons, List.not_mem_nil, or_false] at hp
          rcases hp with rfl | rfl
          · exact LN.out
          · exact ⟨Am, capm, rfl, fun j hj => absurd hj (Nat.not_lt_zero _)⟩⟩
        have CS := show_anyW body 1000 TW.out (HE.out _ B9.out).2 (by
          intro r hr
          simp only [List.map_cons, List.map_nil, List.mem_cons, List.not_mem_nil, or_false] at hr
          rcases hr with rfl | rfl
          · exact ⟨by simp only; omega, by simp only; omega, HNV.out⟩
          · exact ⟨by simp only; omega, by simp, HMV.out⟩) KM_1000 (by simp) (by simp) (fun x hx => absurd hx (by simp))
        have CQ := Lib.hid (fun (h : body < 0 ∨ (2 : Int) ≤ body) => show_ask (G := [(⟨nk, 1, 1, -1, nt, nv, L⟩ : NdR), ⟨mk, -1, -1, -1, mt, mv, []⟩]) (b := body) (by simpa using h))
        simp only [List.map_cons, List.map_nil] at CS
        generalize showB [] [(⟨nk, 1, 1, -1, nt, nv, L⟩ : NdR), ⟨mk, -1, -1, -1, mt, mv, []⟩] body = U at *
        unfold treeV at CS
        replace CS := Lib.hid CS
        go_wp2_with fail
        refine CS.out.mono ?_; rintro e w9 ⟨rfl, hb⟩
        have BF := Lib.hid (bel_then B9.out hb)
        clear hb CS
        by_cases h0 : body = 0
        · subst h0
          go_wp2
          go_ret
          exact ⟨by first | rfl | simp, BF.out⟩
        by_cases h1 : body = 1
        · subst h1
          go_wp2
          go_ret
          exact ⟨by first | rfl | simp, BF.out⟩
        have hU : U = [63] := CQ.out (by omega)
        subst hU
        have s63 : strB [63] = ⟨#[63]⟩ := rfl
        rw [s63]
        have g0 : decide (body = 0) = false := decide_eq_false h0
        have g1 : decide (body = 1) = false := decide_eq_false h1
        have g2 : (body == 0) = false := by simpa using h0
        have g3 : (body == 1) = false := by simpa using h1
        go_wp2
        all_goals go_ret
        all_goals exact ⟨by first | rfl | simp, BF.out⟩
end Go.Proofs.YtkacplcilkogpaaGreatDoor.Mm
