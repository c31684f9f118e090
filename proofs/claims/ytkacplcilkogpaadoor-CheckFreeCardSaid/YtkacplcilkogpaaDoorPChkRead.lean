/- Package check: Read; the example. -/
import Derived.Test.YtkacplcilkogpaaDoorPChkGood
import Derived.Test.YtkacplcilkogpaaDoorPChkRight
namespace Go.Proofs.YtkacplcilkogpaaDoor.Mm
open Go.ChangeShapes Go.WideShapes Go.ChangeAt Go.RowKit
set_option linter.unusedVariables false
set_option linter.unusedSimpArgs false
set_option maxRecDepth 10000

def EnvC (w : World) : Prop := ErrV w ∧ SgV w
theorem EnvC.below {w w' : World} (h : EnvC w) (b : Below w.heap.size w w') : EnvC w' := ⟨h.1.below b, h.2.below b h.2.lt⟩
theorem tc_st (w : World) (c0 c1 c2 : Value) : ∃ wa w', w.alloc (.cells #[.slice none 0 0, .slice none 0 0, .int .i64 0] 28) = wa ∧ ((wa.setCell ⟨w.heap.size, 0, none⟩ c0).setCell ⟨w.heap.size, 1, none⟩ c1).setCell ⟨w.heap.size, 2, none⟩ c2 = w' ∧
    Hid (HasB wa w.heap.size 28 [.slice none 0 0, .slice none 0 0, .int .i64 0]) ∧ Hid (HasB w' w.heap.size 28 [c0, c1, c2]) ∧ Hid (Below w.heap.size w w') :=
  ⟨_, _, rfl, rfl, Lib.hid (HasB.new w _ _), Lib.hid (has_set (has_set (has_set (HasB.new w _ _) 0 c0) 1 c1) 2 c2), Lib.hid ((((bel_al (Below.refl _ _) _).setCell (p := ⟨w.heap.size, 0, none⟩) (Nat.le_refl _) c0).setCell (p := ⟨w.heap.size, 1, none⟩) (Nat.le_refl _) c1).setCell (p := ⟨w.heap.size, 2, none⟩) (Nat.le_refl _) c2)⟩
def CkP (w : World) (l : Bs) (e : Ending) (w' : World) : Prop :=
  match ckE l with
  | .error (k, x) => e = .returned (.tuple #[treeV (.slice none 0 0) (.slice none 0 0) 0, .int .i64 k, .int .i64 x]) ∧ Below w.heap.size w w'
  | .ok (D, b) => ∃ A B ca cb N, e = .returned (.tuple #[treeV (.slice A D.length ca) (.slice B N.length cb) (rt 0 b), .int .i64 0, .int .i64 0]) ∧ TreeAt w' (.slice A D.length ca) D (.slice B N.length cb) N ∧ N.map Prod.fst = flB 0 b ∧ N.length = cnt b ∧ Below w.heap.size w w'
theorem ckP_er {w w' : World} {l : Bs} {k : Nat} {x : Int} (h : ckE l = .error (k, x)) (hb : Below w.heap.size w w') : CkP w l (.returned (.tuple #[treeV (.slice none 0 0) (.slice none 0 0) 0, .int .i64 k, .int .i64 x])) w' := by unfold CkP; rw [h]; exact ⟨rfl, hb⟩
theorem ckP_ok {w w' : World} {l : Bs} {D : List Dc} {b : Nd} (h : ckE l = .ok (D, b)) {A B : Option Addr} {ca cb : Nat} {N : List (NdR × Value)} (T : TreeAt w' (.slice A D.length ca) D (.slice B N.length cb) N) (hN : N.map Prod.fst = flB 0 b) (hc : N.length = cnt b) (hb : Below w.heap.size w w') :
    CkP w l (.returned (.tuple #[treeV (.slice A D.length ca) (.slice B N.length cb) (rt 0 b), .int .i64 0, .int .i64 0])) w' := by unfold CkP; rw [h]; exact ⟨A, B, ca, cb, N, rfl, T, hN, hc, hb⟩
theorem tree_ok {w : World} {dv nv : Value} {D : List Dc} {N : List (NdR × Value)} (T : TreeAt w dv D nv N) : NdOk w 0 nv N := ⟨T.nodes, fun p hp => by obtain ⟨A, c, e⟩ := own_form (T.lists p hp); exact ⟨A, _, c, e⟩⟩
theorem usN_F {N : List (NdR × Value)} {b : Nd} (h : N.map Prod.fst = flB 0 b) : usN N = usF b := by
  unfold usN usF
  rw [← h, List.map_map]
  rfl
set_option maxHeartbeats 8000000 in
theorem ckread_any (s : ByteArray) (hs : s.size ≤ 100000) (w : World) (hE : EnvC w) : Calls Tryd.prog 12 #[.string s] w (CkP w s.data.toList) := by
  obtain ⟨w1, e1, N1, B1⟩ := tr_new w
  have CR := Lib.hid (parse_any s hs w1 (hE.below B1).1 (hE.below B1).2)
  obtain ⟨n0, n1, n2, f0, f1, f2⟩ : w1.cell? ⟨w.heap.size, 0, none⟩ = some (.slice none 0 0) ∧ w1.cell? ⟨w.heap.size, 1, none⟩ = some (.slice none 0 0) ∧ w1.cell? ⟨w.heap.size, 2, none⟩ = some (.int .i64 0) ∧ w1.frozen? ⟨w.heap.size, 0, none⟩ = false ∧ w1.frozen? ⟨w.heap.size, 1, none⟩ = false ∧ w1.frozen? ⟨w.heap.size, 2, none⟩ = false := ⟨N1.cell 0, N1.cell 1, N1.cell 2, N1.frozen 0, N1.frozen 1, N1.frozen 2⟩
  have N1 := Lib.hid N1
  have B1 := Lib.hid B1
  clear hE
  cases hp : parE s.data.toList with
  | error y =>
    obtain ⟨k, x⟩ := y
    have hX := Lib.hid (show ckE s.data.toList = .error (k, x) by unfold ckE; rw [hp])
    have hx0 : ¬ x = 0 := by
      unfold parE at hp
      cases hr : readE s.data.toList with
      | error y => rw [hr] at hp; obtain ⟨a, b⟩ := y; injection hp with hp; injection hp with h1 h2; subst h1 h2; have := readE_er hr; omega
      | ok ws =>
        rw [hr] at hp
        simp only at hp
        split at hp
        · injection hp with hp; injection hp with h1 h2; omega
        · split at hp
          · injection hp with hp; injection hp with h1 h2; omega
          · cases hp
    unfold ParP at CR
    rw [hp] at CR
    simp only at CR
    clear hp
    go_enter Tryd.func12, Tryd.ntmps12
    go_wp2_with fail
    refine (CR.out).mono ?_; rintro e w2 ⟨rfl, b2⟩
    have N2 := Lib.hid (N1.out.below b2)
    have B2 := Lib.hid (bel_then B1.out b2)
    clear b2 CR
    unfold treeV
    obtain ⟨wa, w3, ea, e3, HZ, H3, B3⟩ := tc_st w2 (.slice none 0 0) (.slice none 0 0) (.int .i64 0)
    have z0 := HZ.out.cell 0
    have y0 := HZ.out.frozen 0
    have z1 := HZ.out.cell 1
    have y1 := HZ.out.frozen 1
    have z2 := HZ.out.cell 2
    have y2 := HZ.out.frozen 2
    simp only [List.getElem?_cons_zero, List.getElem?_cons_succ] at z0 z1 z2
    have N3 := Lib.hid (N2.out.below B3.out)
    have B4 := Lib.hid (bel_then B2.out B3.out)
    obtain ⟨w5, e5, N5, O5⟩ := tr_st (w := w) N3.out (.slice none 0 0) (.slice none 0 0) (.int .i64 0)
    have q0 := N5.cell 0
    have q1 := N5.cell 1
    have q2 := N5.cell 2
    have s0 := N3.out.cell 0
    have s1 := N3.out.cell 1
    have s2 := N3.out.cell 2
    have t0 := N3.out.frozen 0
    have t1 := N3.out.frozen 1
    have t2 := N3.out.frozen 2
    simp only [List.getElem?_cons_zero, List.getElem?_cons_succ] at q0 q1 q2 s0 s1 s2
    have B5 := Lib.hid (O5.below B4.out B4.out.size (Nat.le_refl _) (by intro k e; cases e))
    clear N5 O5
    go_wp2
    exact bodyPost_ret (v := .tuple #[treeV (.slice none 0 0) (.slice none 0 0) 0, .int .i64 k, .int .i64 x]) (by simp [results, Tryd.results12, go_sem, treeV, q0, q1, q2]) rfl (ckP_er hX.out B5.out)
  | ok y =>
    obtain ⟨D, b⟩ := y
    obtain ⟨ws, d, _, hrl, G⟩ := parE_ok hp
    have HG := Lib.hid G
    have hcf := G.few
    have hdf := G.dfew
    have hnm := Lib.hid (fun x (hx : x ∈ D) => Nat.le_trans (G.names x hx) (by omega : 10 ≤ 100000))
    unfold ParP at CR
    rw [hp] at CR
    simp only at CR
    have CX := Lib.hid (fun (W : World) (dv nv : Value) (N : List (NdR × Value)) (T : TreeAt W dv D nv N) (hc : N.length = cnt b) => right_any dv nv (rt 0 b) D N W T.decls (tree_ok T) (by omega) hnm.out (by omega))
    have hck : Hid (ckE s.data.toList = if rightE D (usF b) = 0 then .ok (D, b) else .error (0, rightE D (usF b))) := Lib.hid (by unfold ckE; rw [hp])
    obtain ⟨r, hr⟩ : ∃ r, rightE D (usF b) = r := ⟨_, rfl⟩
    rw [hr] at hck
    have HR := Lib.hid hr
    clear hp hrl G hr
    go_enter Tryd.func12, Tryd.ntmps12
    go_wp2_with fail
    refine (CR.out).mono ?_; rintro e w2 ⟨A, B, ca, cb, N, rfl, T, hN, hc, hb⟩
    have N2 := Lib.hid (N1.out.below hb)
    have B2 := Lib.hid (bel_then B1.out hb)
    have HT := Lib.hid T
    have hND := Lib.hid hN
    have hNC := Lib.hid hc
    clear hb T hN hc CR
    unfold treeV
    obtain ⟨wa, w3, ea, e3, HZ, H3, B3⟩ := tc_st w2 (.slice A D.length ca) (.slice B N.length cb) (.int .i64 (rt 0 b))
    have z0 := HZ.out.cell 0
    have y0 := HZ.out.frozen 0
    have z1 := HZ.out.cell 1
    have y1 := HZ.out.frozen 1
    have z2 := HZ.out.cell 2
    have y2 := HZ.out.frozen 2
    simp only [List.getElem?_cons_zero, List.getElem?_cons_succ] at z0 z1 z2
    have n0 := H3.out.cell 0
    have n1 := H3.out.cell 1
    have n2 := H3.out.cell 2
    simp only [List.getElem?_cons_zero, List.getElem?_cons_succ] at n0 n1 n2
    have N3 := Lib.hid (N2.out.below B3.out)
    have B4 := Lib.hid (bel_then B2.out B3.out)
    have T3 := Lib.hid (HT.out.below B3.out)
    have CS := CX.out w3 _ _ N T3.out hNC.out
    rw [usN_F hND.out, HR.out] at CS
    replace CS := Lib.hid CS
    unfold treeV at CS
    clear CX
    go_wp2_with fail
    refine (CS.out).mono ?_; rintro e w4 ⟨rfl, b4⟩
    have N4 := Lib.hid (N3.out.below b4)
    have B5 := Lib.hid (bel_then B4.out b4)
    have T4 := Lib.hid (T3.out.below b4)
    have H4 := Lib.hid (H3.out.below b4)
    have m0 := H4.out.cell 0
    have m1 := H4.out.cell 1
    have m2 := H4.out.cell 2
    simp only [List.getElem?_cons_zero, List.getElem?_cons_succ] at m0 m1 m2
    clear b4 CS
    by_cases hr0 : r = 0
    · subst hr0
      rw [if_pos rfl] at hck
      obtain ⟨w5, e5, N5, O5⟩ := tr_st (w := w) N4.out (.slice A D.length ca) (.slice B N.length cb) (.int .i64 (rt 0 b))
      have q0 := N5.cell 0
      have q1 := N5.cell 1
      have q2 := N5.cell 2
      have s0 := N4.out.cell 0
      have s1 := N4.out.cell 1
      have s2 := N4.out.cell 2
      have t0 := N4.out.frozen 0
      have t1 := N4.out.frozen 1
      have t2 := N4.out.frozen 2
      simp only [List.getElem?_cons_zero, List.getElem?_cons_succ] at q0 q1 q2 s0 s1 s2
      have B6 := Lib.hid (O5.below B5.out B5.out.size (Nat.le_refl _) (by intro k e; cases e))
      have T5 := Lib.hid (T4.out.oth O5 N4.out (by decide) (by decide) (by decide))
      clear N5 O5
      go_wp2
      exact bodyPost_ret (v := .tuple #[treeV (.slice A D.length ca) (.slice B N.length cb) (rt 0 b), .int .i64 0, .int .i64 0]) (by simp [results, Tryd.results12, go_sem, treeV, q0, q1, q2]) rfl (ckP_ok hck.out T5.out hND.out hNC.out B6.out)
    · rw [if_neg hr0] at hck
      obtain ⟨w5, e5, N5, O5⟩ := tr_st (w := w) N4.out (.slice none 0 0) (.slice none 0 0) (.int .i64 0)
      have q0 := N5.cell 0
      have q1 := N5.cell 1
      have q2 := N5.cell 2
      have s0 := N4.out.cell 0
      have s1 := N4.out.cell 1
      have s2 := N4.out.cell 2
      have t0 := N4.out.frozen 0
      have t1 := N4.out.frozen 1
      have t2 := N4.out.frozen 2
      simp only [List.getElem?_cons_zero, List.getElem?_cons_succ] at q0 q1 q2 s0 s1 s2
      have B6 := Lib.hid (O5.below B5.out B5.out.size (Nat.le_refl _) (by intro k e; cases e))
      clear N5 O5
      go_wp2
      exact bodyPost_ret (v := .tuple #[treeV (.slice none 0 0) (.slice none 0 0) 0, .int .i64 0, .int .i64 r]) (by simp [results, Tryd.results12, go_sem, treeV, q0, q1, q2]) rfl (ckP_er hck.out B6.out)
end Go.Proofs.YtkacplcilkogpaaDoor.Mm
