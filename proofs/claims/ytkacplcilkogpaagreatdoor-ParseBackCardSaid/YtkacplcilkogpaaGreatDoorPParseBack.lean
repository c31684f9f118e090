/- The statement ParseBack, walked. -/
import Derived.Test.YtkacplcilkogpaaGreatDoorPPrsTexts
namespace Go.Proofs.YtkacplcilkogpaaGreatDoor.Mm
open Go.ChangeShapes Go.WideShapes Go.ChangeAt Go.RowKit
set_option linter.unusedVariables false
set_option linter.unusedSimpArgs false
set_option maxRecDepth 10000

set_option maxHeartbeats 8000000 in
theorem parseBack_walk (s : ByteArray) (w : World) (hs : s.size ≤ maxLen) (hE : EnvP w) :
    Calls Tryz.prog 3 #[.string s] w fun e w' => e = .returned (.bool true) ∧ Below w.heap.size w w' := by
  have AW := Lib.hid (fun W (k : Below w.heap.size w W) => awake_any W (hE.below k))
  have HE := Lib.hid (fun W (k : Below w.heap.size w W) => hE.below k)
  have B0 := Lib.hid (Below.refl w.heap.size w)
  clear hE
  by_cases hz : s.size ≤ 300
  · have hzi : (s.size : Int) ≤ 300 := by omega
    have hzl : s.data.toList.length ≤ 300 := by rw [← Lib.size_eq]; exact hz
    have CR := Lib.hid (fun W (k : Below w.heap.size w W) => parse_any s (by omega) W (HE.out W k).1 (HE.out W k).2.sg)
    cases e1 : parE s.data.toList with
    | error y =>
      obtain ⟨k, x⟩ := y
      have hx : ¬ x = 0 := by have := parE_er e1; omega
      have C1 := fun W (k : Below w.heap.size w W) => CR.out W k
      unfold ParP at C1
      rw [e1] at C1
      simp only at C1
      replace C1 := Lib.hid C1
      clear e1 CR
      go_enter Tryz.func3, Tryz.ntmps3
      go_wp2_with fail
      refine (AW.out _ B0.out).mono ?_; rintro e w1 ⟨rfl, hb⟩
      have B1 := Lib.hid hb
      clear hb
      go_wp2_with fail
      refine (C1.out _ B1.out).mono ?_; rintro e w2 ⟨rfl, hb⟩
      have B2 := Lib.hid (bel_then B1.out hb)
      clear hb
      unfold treeV
      obtain ⟨wa, w3, ea, e3, HZ, H3, B3⟩ := tl_st w2 (.slice none 0 0) (.slice none 0 0) (.int .i64 0)
      have z0 := HZ.out.cell 0
      have z1 := HZ.out.cell 1
      have z2 := HZ.out.cell 2
      have y0 := HZ.out.frozen 0
      have y1 := HZ.out.frozen 1
      have y2 := HZ.out.frozen 2
      simp only [List.getElem?_cons_zero, List.getElem?_cons_succ] at z0 z1 z2
      have B4 := Lib.hid (bel_then B2.out B3.out)
      go_wp2
      go_ret
      exact ⟨rfl, B4.out⟩
    | ok y =>
      obtain ⟨D, b⟩ := y
      obtain ⟨ws, d, _, hrl, G⟩ := parE_ok e1
      have HG := Lib.hid G
      have C1 := fun W (k : Below w.heap.size w W) => CR.out W k
      unfold ParP at C1
      rw [e1] at C1
      simp only at C1
      replace C1 := Lib.hid C1
      have hfw := shP_few hrl G
      have hpar := par_shP G
      have SH := Lib.hid (fun (W : World) (dv nv : Value) (N : List (NdR × Value)) (T : TreeAt W dv D nv N) (hE : EnvV W) (hN : N.map Prod.fst = flB 0 b) (hc : N.length = cnt b) => show_P G T hE hN hc)
      obtain ⟨U, hU⟩ : ∃ U, txtW (shP D b) = U := ⟨_, rfl⟩
      rw [hU] at hfw hpar SH
      have hus : (strB U).size = U.length := strB_size U
      have CU := Lib.hid (fun W (k : Below w.heap.size w W) => parse_any (strB U) (by rw [hus]; omega) W (HE.out W k).1 (HE.out W k).2.sg)
      have ulist : (strB U).data.toList = U := by simp [strB]
      clear e1 CR G hrl hU
      go_enter Tryz.func3, Tryz.ntmps3
      go_wp2_with fail
      refine (AW.out _ B0.out).mono ?_; rintro e w1 ⟨rfl, hb⟩
      have B1 := Lib.hid hb
      clear hb
      go_wp2_with fail
      refine (C1.out _ B1.out).mono ?_; rintro e w2 ⟨A, B, ca, cb, N, rfl, T, hN, hc, hb⟩
      have B2 := Lib.hid (bel_then B1.out hb)
      have HT := Lib.hid T
      have hND := Lib.hid hN
      have hNC := Lib.hid hc
      clear hb T hN hc C1
      unfold treeV
      obtain ⟨wa, w3, ea, e3, HZ, H3, B3⟩ := tl_st w2 (.slice A D.length ca) (.slice B N.length cb) (.int .i64 (rt 0 b))
      have z0 := HZ.out.cell 0
      have z1 := HZ.out.cell 1
      have z2 := HZ.out.cell 2
      have y0 := HZ.out.frozen 0
      have y1 := HZ.out.frozen 1
      have y2 := HZ.out.frozen 2
      have n0 := H3.out.cell 0
      have n1 := H3.out.cell 1
      have n2 := H3.out.cell 2
      simp only [List.getElem?_cons_zero, List.getElem?_cons_succ] at z0 z1 z2 n0 n1 n2
      have B4 := Lib.hid (bel_then B2.out B3.out)
      have CS := Lib.hid (SH.out w3 _ _ N (HT.out.below B3.out) (HE.out _ B4.out).2 hND.out hNC.out)
      unfold treeV at CS
      go_wp2_with fail
      refine (CS.out).mono ?_; rintro e w4 ⟨rfl, hb⟩
      have B5 := Lib.hid (bel_then B4.out hb)
      have m0 := (H3.out.below hb).cell 0
      simp only [List.getElem?_cons_zero, List.getElem?_cons_succ] at m0
      have HT4 := Lib.hid (H3.out.below hb)
      clear hb CS
      have C2 := CU.out _ B5.out
      unfold ParP at C2
      rw [ulist] at C2
      rcases hpar with hp | ⟨hp, hul⟩
      · rw [hp] at C2
        simp only at C2
        replace C2 := Lib.hid C2
        go_wp2_with fail
        refine (C2.out).mono ?_; rintro e w5 ⟨A', B', ca', cb', N', rfl, T', hN', hc', hb⟩
        have B6 := Lib.hid (bel_then B5.out hb)
        have HT' := Lib.hid T'
        have hND' := Lib.hid hN'
        have hNC' := Lib.hid hc'
        have HQ := Lib.hid (HT4.out.below hb)
        clear hb T' hN' hc' C2
        unfold treeV
        obtain ⟨wb, w6, eb, e6, HY, H6, B7⟩ := tl_st w5 (.slice A' D.length ca') (.slice B' N'.length cb') (.int .i64 (rt 0 b))
        have q0 := HY.out.cell 0
        have q1 := HY.out.cell 1
        have q2 := HY.out.cell 2
        have p0 := HY.out.frozen 0
        have p1 := HY.out.frozen 1
        have p2 := HY.out.frozen 2
        have o0 := H6.out.cell 0
        have o1 := H6.out.cell 1
        have o2 := H6.out.cell 2
        simp only [List.getElem?_cons_zero, List.getElem?_cons_succ] at q0 q1 q2 o0 o1 o2
        have B8 := Lib.hid (bel_then B6.out B7.out)
        have CS := Lib.hid (SH.out w6 _ _ N' (HT'.out.below B7.out) (HE.out _ B8.out).2 hND'.out hNC'.out)
        unfold treeV at CS
        go_wp2_with fail
        refine (CS.out).mono ?_; rintro e w7 ⟨rfl, hb⟩
        have B9 := Lib.hid (bel_then B8.out hb)
        have r0 := (H6.out.below hb).cell 0
        have r1 := ((HQ.out.below B7.out).below hb).cell 0
        simp only [List.getElem?_cons_zero, List.getElem?_cons_succ] at r0 r1
        clear hb CS
        go_wp2
        go_ret
        exact ⟨by first | rfl | simp, B9.out⟩
      · rw [hp] at C2
        simp only at C2
        replace C2 := Lib.hid C2
        have hui : (100 : Int) < (U.length : Int) := by omega
        go_wp2_with fail
        refine (C2.out).mono ?_; rintro e w5 ⟨rfl, hb⟩
        have B6 := Lib.hid (bel_then B5.out hb)
        clear hb C2
        unfold treeV
        obtain ⟨wb, w6, eb, e6, HY, H6, B7⟩ := tl_st w5 (.slice none 0 0) (.slice none 0 0) (.int .i64 0)
        have q0 := HY.out.cell 0
        have q1 := HY.out.cell 1
        have q2 := HY.out.cell 2
        have p0 := HY.out.frozen 0
        have p1 := HY.out.frozen 1
        have p2 := HY.out.frozen 2
        simp only [List.getElem?_cons_zero, List.getElem?_cons_succ] at q0 q1 q2
        have B8 := Lib.hid (bel_then B6.out B7.out)
        go_wp2
        go_ret
        exact ⟨by first | rfl | simp [hus, hui], B8.out⟩
  · have hzi : (300 : Int) < (s.size : Int) := by omega
    go_enter Tryz.func3, Tryz.ntmps3
    go_wp2_with fail
    refine (AW.out _ B0.out).mono ?_; rintro e w1 ⟨rfl, hb⟩
    have B1 := Lib.hid hb
    clear hb
    go_wp2_with fail
    refine (AW.out _ B1.out).mono ?_; rintro e w2 ⟨rfl, hb⟩
    have B2 := Lib.hid (bel_then B1.out hb)
    clear hb
    go_wp2
    go_ret
    exact ⟨rfl, B2.out⟩
end Go.Proofs.YtkacplcilkogpaaGreatDoor.Mm
