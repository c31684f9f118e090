/- The statement ParseCuts, walked. -/
import Derived.Test.YtkacplcilkogpaaGreatDoorPPrsTexts
namespace Go.Proofs.YtkacplcilkogpaaGreatDoor.Mm
open Go.ChangeShapes Go.WideShapes Go.ChangeAt Go.RowKit
set_option linter.unusedVariables false
set_option linter.unusedSimpArgs false
set_option maxRecDepth 10000

theorem len_1 {b : Nd} (h : okN 3 b) (h2 : 2 ≤ cnt b) : 1 ≤ lenN b := by
  cases b with
  | nil => simp [cnt] at h2
  | snoc b s => simp [lenN]
  | _ => exact h.elim
/-- what is shown, without its last byte -/
theorem par_cut {ws : List Pc} {D : List Dc} {b : Nd} {d : Nat} (g : Good ws D b d) (h2 : 2 ≤ cnt b) (hu : (txtW (shP D b)).length ≤ 2000) :
    1 ≤ (txtW (shP D b)).length ∧ ∃ n : Nat, 1 ≤ n ∧ parE ((txtW (shP D b)).take ((txtW (shP D b)).length - 1)) = .error (n, 2) := by
  obtain ⟨l, z, e, hz, hl, hp⟩ := prg_cut (D := D) g.okB (len_1 g.okB h2)
  have ok := shP_ok g.okD g.okB
  rw [e] at ok hu ⊢
  have hcut := txt_cut hz hl
  have hlen := congrArg List.length hcut
  rw [List.length_take, List.length_append] at hlen
  simp only [List.length_cons, List.length_nil] at hlen
  refine ⟨by omega, l.length, by cases l with | nil => exact absurd rfl hl | cons _ _ => simp, ?_⟩
  rw [hcut]
  unfold parE readE
  rw [if_neg (by rw [List.length_append]; simp only [List.length_cons, List.length_nil]; omega), read_cut (fun p hp => ok p (List.mem_append_left _ hp))]
  simp only
  rw [hp]
  rfl
theorem strB_take (U : Bs) (n : Nat) : (strB U).extract 0 n = strB (U.take n) := by
  apply ByteArray.ext
  simp [strB, ByteArray.data_extract]
set_option maxHeartbeats 8000000 in
theorem parseCuts_walk (s : ByteArray) (w : World) (hs : s.size ≤ maxLen) (hE : EnvP w) :
    Calls Tryz.prog 6 #[.string s] w fun e w' => e = .returned (.bool true) ∧ Below w.heap.size w w' := by
  have AW := Lib.hid (fun W (k : Below w.heap.size w W) => awake_any W (hE.below k))
  have HE := Lib.hid (fun W (k : Below w.heap.size w W) => hE.below k)
  have B0 := Lib.hid (Below.refl w.heap.size w)
  clear hE
  by_cases hz : s.size ≤ 800
  · have hzi : (s.size : Int) ≤ 800 := by omega
    have CR := Lib.hid (fun W (k : Below w.heap.size w W) => parse_any s (by omega) W (HE.out W k).1 (HE.out W k).2.sg)
    cases e1 : parE s.data.toList with
    | error y =>
      obtain ⟨k, x⟩ := y
      have hx : ¬ x = 0 := by have := parE_er e1; omega
      have C1 := fun W (k : Below w.heap.size w W) => CR.out W k
      unfold ParP at C1
      rw [e1] at C1
      simp only at C1
      replace C1 := Lib.hid C1
      clear e1 CR
      go_enter Tryz.func6, Tryz.ntmps6
      go_wp2_with fail
      refine (AW.out _ B0.out).mono ?_; rintro e w1 ⟨rfl, hb⟩
      have B1 := Lib.hid hb
      clear hb
      go_wp2_with fail
      refine (C1.out _ B1.out).mono ?_; rintro e w2 ⟨rfl, hb⟩
      have B2 := Lib.hid (bel_then B1.out hb)
      clear hb
      unfold treeV
      obtain ⟨wa, w3, ea, e3, HZ, H3, B3⟩ := tl_st w2 (.slice none 0 0) (.slice none 0 0) (.int .i64 0)
      have z0 := HZ.out.cell 0
      have z1 := HZ.out.cell 1
      have z2 := HZ.out.cell 2
      have y0 := HZ.out.frozen 0
      have y1 := HZ.out.frozen 1
      have y2 := HZ.out.frozen 2
      simp only [List.getElem?_cons_zero, List.getElem?_cons_succ] at z0 z1 z2
      have B4 := Lib.hid (bel_then B2.out B3.out)
      go_wp2
      go_ret
      exact ⟨rfl, B4.out⟩
    | ok y =>
      obtain ⟨D, b⟩ := y
      obtain ⟨ws, d, _, hrl, G⟩ := parE_ok e1
      have HG := Lib.hid G
      have C1 := fun W (k : Below w.heap.size w W) => CR.out W k
      unfold ParP at C1
      rw [e1] at C1
      simp only at C1
      replace C1 := Lib.hid C1
      have hfw := shP_few hrl G
      have hpar := fun h2 => par_cut G h2
      have SH := Lib.hid (fun (W : World) (dv nv : Value) (N : List (NdR × Value)) (T : TreeAt W dv D nv N) (hE : EnvV W) (hN : N.map Prod.fst = flB 0 b) (hc : N.length = cnt b) => show_P G T hE hN hc)
      obtain ⟨U, hU⟩ : ∃ U, txtW (shP D b) = U := ⟨_, rfl⟩
      rw [hU] at hfw hpar SH
      have hus : (strB U).size = U.length := strB_size U
      have hcp := cnt_pos b
      clear e1 CR G hrl hU
      by_cases h2 : cnt b < 2
      · go_enter Tryz.func6, Tryz.ntmps6
        go_wp2_with fail
        refine (AW.out _ B0.out).mono ?_; rintro e w1 ⟨rfl, hb⟩
        have B1 := Lib.hid hb
        clear hb
        go_wp2_with fail
        refine (C1.out _ B1.out).mono ?_; rintro e w2 ⟨A, B, ca, cb, N, rfl, T, hN, hc, hb⟩
        have B2 := Lib.hid (bel_then B1.out hb)
        have hni : (N.length : Int) < 2 := by omega
        clear hb T hN C1 hc
        unfold treeV
        obtain ⟨wa, w3, ea, e3, HZ, H3, B3⟩ := tl_st w2 (.slice A D.length ca) (.slice B N.length cb) (.int .i64 (rt 0 b))
        have z0 := HZ.out.cell 0
        have z1 := HZ.out.cell 1
        have z2 := HZ.out.cell 2
        have y0 := HZ.out.frozen 0
        have y1 := HZ.out.frozen 1
        have y2 := HZ.out.frozen 2
        have n0 := H3.out.cell 0
        have n1 := H3.out.cell 1
        have n2 := H3.out.cell 2
        simp only [List.getElem?_cons_zero, List.getElem?_cons_succ] at z0 z1 z2 n0 n1 n2
        have B4 := Lib.hid (bel_then B2.out B3.out)
        go_wp2
        go_ret
        exact ⟨by first | rfl | simp, B4.out⟩
      · go_enter Tryz.func6, Tryz.ntmps6
        go_wp2_with fail
        refine (AW.out _ B0.out).mono ?_; rintro e w1 ⟨rfl, hb⟩
        have B1 := Lib.hid hb
        clear hb
        go_wp2_with fail
        refine (C1.out _ B1.out).mono ?_; rintro e w2 ⟨A, B, ca, cb, N, rfl, T, hN, hc, hb⟩
        have B2 := Lib.hid (bel_then B1.out hb)
        have hni : ¬ (N.length : Int) < 2 := by omega
        have HT := Lib.hid T
        have hND := Lib.hid hN
        have hNC := Lib.hid hc
        clear hb T hN hc C1
        unfold treeV
        obtain ⟨wa, w3, ea, e3, HZ, H3, B3⟩ := tl_st w2 (.slice A D.length ca) (.slice B N.length cb) (.int .i64 (rt 0 b))
        have z0 := HZ.out.cell 0
        have z1 := HZ.out.cell 1
        have z2 := HZ.out.cell 2
        have y0 := HZ.out.frozen 0
        have y1 := HZ.out.frozen 1
        have y2 := HZ.out.frozen 2
        have n0 := H3.out.cell 0
        have n1 := H3.out.cell 1
        have n2 := H3.out.cell 2
        simp only [List.getElem?_cons_zero, List.getElem?_cons_succ] at z0 z1 z2 n0 n1 n2
        have B4 := Lib.hid (bel_then B2.out B3.out)
        have CS := Lib.hid (SH.out w3 _ _ N (HT.out.below B3.out) (HE.out _ B4.out).2 hND.out hNC.out)
        unfold treeV at CS
        by_cases hu : 2000 < U.length
        · have hui : (2000 : Int) < (U.length : Int) := by omega
          clear hpar
          go_wp2_with fail
          refine (CS.out).mono ?_; rintro e w4 ⟨rfl, hb⟩
          have B5 := Lib.hid (bel_then B4.out hb)
          clear hb CS
          go_wp2
          go_ret
          exact ⟨by first | rfl | simp, B5.out⟩
        · obtain ⟨hu1, n, hn, hpe⟩ := hpar (by omega) (by omega)
          have hui : ¬ (2000 : Int) < (U.length : Int) := by omega
          have hu1i : (1 : Int) ≤ (U.length : Int) := by omega
          have hu2 : (U.length : Int) - 1 = ((U.length - 1 : Nat) : Int) := by omega
          have hni2 : (0 : Int) < (n : Int) := by omega
          have ulist : (strB (U.take (U.length - 1))).data.toList = U.take (U.length - 1) := by simp [strB]
          have CU := Lib.hid (fun W (k : Below w.heap.size w W) => parse_any (strB (U.take (U.length - 1))) (by rw [strB_size, List.length_take]; omega) W (HE.out W k).1 (HE.out W k).2.sg)
          have hst := strB_take U (U.length - 1)
          go_wp2_with fail
          refine (CS.out).mono ?_; rintro e w4 ⟨rfl, hb⟩
          have B5 := Lib.hid (bel_then B4.out hb)
          clear hb CS
          have C2 := CU.out _ B5.out
          unfold ParP at C2
          rw [ulist, hpe] at C2
          simp only at C2
          replace C2 := Lib.hid C2
          go_wp2_with fail
          refine (C2.out).mono ?_; rintro e w5 ⟨rfl, hb⟩
          have B6 := Lib.hid (bel_then B5.out hb)
          clear hb C2
          unfold treeV
          obtain ⟨wb, w6, eb, e6, HY, H6, B7⟩ := tl_st w5 (.slice none 0 0) (.slice none 0 0) (.int .i64 0)
          have q0 := HY.out.cell 0
          have q1 := HY.out.cell 1
          have q2 := HY.out.cell 2
          have p0 := HY.out.frozen 0
          have p1 := HY.out.frozen 1
          have p2 := HY.out.frozen 2
          simp only [List.getElem?_cons_zero, List.getElem?_cons_succ] at q0 q1 q2
          have B8 := Lib.hid (bel_then B6.out B7.out)
          go_wp2
          go_ret
          exact ⟨by first | rfl | simp [hni2], B8.out⟩
  · have hzi : (800 : Int) < (s.size : Int) := by omega
    go_enter Tryz.func6, Tryz.ntmps6
    go_wp2_with fail
    refine (AW.out _ B0.out).mono ?_; rintro e w1 ⟨rfl, hb⟩
    have B1 := Lib.hid hb
    clear hb
    go_wp2_with fail
    refine (AW.out _ B1.out).mono ?_; rintro e w2 ⟨rfl, hb⟩
    have B2 := Lib.hid (bel_then B1.out hb)
    clear hb
    go_wp2
    go_ret
    exact ⟨rfl, B2.out⟩
end Go.Proofs.YtkacplcilkogpaaGreatDoor.Mm
