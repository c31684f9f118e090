/- The document's own Right. -/
import Derived.Test.YtkacplcilkogpaaDoorPChkPar
import Derived.Test.YtkacplcilkogpaaDoorPChkKinds
import Derived.Deep.QuietTactic
import Derived.BigQuiet
namespace Go.Proofs.YtkacplcilkogpaaDoor.Mm
open Go.ChangeShapes Go.WideShapes Go.ChangeAt Go.RowKit
set_option linter.unusedVariables false
set_option linter.unusedSimpArgs false
set_option maxRecDepth 10000

theorem strB_ne {a b : Bs} (h : a ≠ b) : ((strB a).toList == (strB b).toList) = false := by
  rw [beq_eq_false_iff_ne]
  intro e
  apply h
  rw [toList_of, toList_of] at e
  rw [← strB_toList a, ← strB_toList b, e]
theorem nodup_step {D : List Dc} {k : Nat} (hk : k < D.length) (h : ((D.take k).map Prod.fst).Nodup) (hj : ∀ j, j < k → (D.getD j dz0).1 ≠ (D.getD k dz0).1) : ((D.take (k + 1)).map Prod.fst).Nodup := by
  rw [take_snocD D k dz0 hk, nodup_snoc]
  refine ⟨h, fun hm => ?_⟩
  obtain ⟨d, hd, e⟩ := List.mem_map.1 hm
  obtain ⟨i, hi, rfl⟩ := List.mem_iff_getElem.1 hd
  have hik : i < k := by rw [List.length_take] at hi; omega
  refine hj i hik ?_
  rw [← e]
  simp [List.getD, show i < D.length by omega]
theorem dup_9 {D : List Dc} {U : List (Bool × Bs)} {j k : Nat} (hj : j < k) (hk : k < D.length) (h : (D.getD j dz0).1 = (D.getD k dz0).1) : rightR D U = 9 := by
  unfold rightR
  rw [if_pos]
  intro hn
  have hp := List.pairwise_iff_getElem.1 hn j k (by rw [List.length_map]; omega) (by rw [List.length_map]; omega) hj
  apply hp
  simpa [List.getD, show j < D.length by omega, hk] using h
theorem rr_nodup {D : List Dc} {U : List (Bool × Bs)} (h : (D.map Prod.fst).Nodup) : rightR D U = if fitB D then usesR D U else 4 := by
  unfold rightR
  rw [if_neg (fun x => x h)]
theorem usesR_app (D : List Dc) (a b : List (Bool × Bs)) : usesR D (a ++ b) = if usesR D a = 0 then usesR D b else usesR D a := by
  induction a with
  | nil => simp [usesR]
  | cons u r ih =>
    have e1 : ∀ x, usesR D (u :: x) = if useR D u.1 u.2 = 0 then usesR D x else useR D u.1 u.2 := fun _ => rfl
    rw [List.cons_append, e1]
    by_cases h : useR D u.1 u.2 = 0
    · have e2 : usesR D (u :: r) = usesR D r := by rw [e1, if_pos h]
      rw [if_pos h, e2, ih]
    · have e2 : usesR D (u :: r) = useR D u.1 u.2 := by rw [e1, if_neg h]
      rw [if_neg h, e2, if_neg h]
theorem usesR_take {D : List Dc} {U : List (Bool × Bs)} {k : Nat} (h : k < U.length) (h0 : usesR D (U.take k) = 0) : usesR D (U.take (k + 1)) = useR D (U.getD k us0).1 (U.getD k us0).2 := by
  rw [take_snocD U k us0 h, usesR_app, if_pos h0]
  show (if useR D _ _ = 0 then (0 : Int) else useR D _ _) = _
  split
  · rename_i h; exact h.symm
  · rfl
theorem usesR_cut {D : List Dc} {U : List (Bool × Bs)} {k : Nat} (h : usesR D (U.take k) ≠ 0) : usesR D U = usesR D (U.take k) := by
  conv => lhs; rw [← List.take_append_drop k U]
  rw [usesR_app, if_neg h]
theorem any_snoc (D : List Dc) (d : Dc) : (arrsL (D ++ [d])).any wrongD = if d.2 = -1 then (arrsL D).any wrongD else ((arrsL D).any wrongD || wrongD d) := by
  rw [arrs_snoc]
  split <;> simp
theorem fit_of {D : List Dc} {v a : Nat} {g : Bool} (hv : v = (varsL D).length) (ha : a = (arrsL D).length) (hg : g = (arrsL D).any wrongD) : fitB D = (!g && (decide (a ≤ 4) && decide (v ≤ 16))) := by
  unfold fitB
  rw [hv, ha, hg]
/-- what stands behind k declarations -/
structure RrI (D : List Dc) (k v a : Nat) (g : Bool) : Prop where
  nd : ((D.take k).map Prod.fst).Nodup
  v : v = (varsL (D.take k)).length
  a : a = (arrsL (D.take k)).length
  g : g = (arrsL (D.take k)).any wrongD
theorem RrI.vars {D : List Dc} {k v a : Nat} {g : Bool} (h : RrI D k v a g) (hk : k < D.length) (hn : ((D.take (k + 1)).map Prod.fst).Nodup) (hu : (D.getD k dz0).2 = -1) : RrI D (k + 1) (v + 1) a g := by
  refine ⟨hn, ?_, ?_, ?_⟩ <;> rw [take_snocD D k dz0 hk]
  · rw [vars_snoc, if_pos hu, List.length_append, ← h.v]; rfl
  · rw [arrs_snoc, if_pos hu]; exact h.a
  · rw [any_snoc, if_pos hu]; exact h.g
theorem RrI.arrs {D : List Dc} {k v a : Nat} {g : Bool} (h : RrI D k v a g) (hk : k < D.length) (hn : ((D.take (k + 1)).map Prod.fst).Nodup) (hu : ¬ (D.getD k dz0).2 = -1) {x : Bool} (hx : x = (g || wrongD (D.getD k dz0))) : RrI D (k + 1) v (a + 1) x := by
  refine ⟨hn, ?_, ?_, ?_⟩ <;> rw [take_snocD D k dz0 hk]
  · rw [vars_snoc, if_neg hu]; exact h.v
  · rw [arrs_snoc, if_neg hu, List.length_append, ← h.a]; rfl
  · rw [any_snoc, if_neg hu, ← h.g]; exact hx
set_option maxHeartbeats 16000000 in
theorem rright_any (A A' : Option Addr) (c c' : Nat) (D : List Dc) (U : List (Bool × Bs)) (w : World) (hD : DcsAt w A c D) (hU : UssAt w A' c' U) (hl : D.length ≤ 1000) (hu : U.length ≤ 1000) :
    Calls Tryd.prog 9 #[.slice A D.length c, .slice A' U.length c'] w fun e w' => e = .returned (.int .i64 (rightR D U)) ∧ Below w.heap.size w w' := by
  obtain ⟨n, hn⟩ : ∃ n, D.length = n := ⟨_, rfl⟩
  have HN := Lib.hid hn
  obtain ⟨m, hm⟩ : ∃ m, U.length = m := ⟨_, rfl⟩
  have HM := Lib.hid hm
  have RD := Lib.hid hD
  have RU := Lib.hid hU
  obtain ⟨r, hr⟩ : ∃ r, rightR D U = r := ⟨_, rfl⟩
  have HR := Lib.hid hr
  rw [hn] at hl ⊢
  rw [hm] at hu ⊢
  rw [hr]
  clear hn hm hD hU hr
  have B0 := Lib.hid (Below.refl w.heap.size w)
  have I0 : Hid (RrI D 0 0 0 false) := Lib.hid ⟨List.nodup_nil, rfl, rfl, rfl⟩
  go_enter Tryd.func9, Tryd.ntmps9
  go_wp2
  go_loopw [5, 6, 7, 8] (fun va ar wr i wd => ∃ (k v a : Nat) (g : Bool), va = .int .i64 v ∧ ar = .int .i64 a ∧ wr = .bool g ∧ i = .int .i64 k ∧ k ≤ n ∧ v ≤ k ∧ a ≤ k ∧ Hid (RrI D k v a g) ∧ Hid (Below w.heap.size w wd)) (fun _ _ _ i _ => n - (intOf i).toNat)
  case atStart => exact ⟨0, 0, 0, false, rfl, rfl, rfl, rfl, Nat.zero_le _, Nat.zero_le _, Nat.zero_le _, I0, B0⟩
  case round =>
    obtain ⟨k, v, a, g, rfl, rfl, rfl, rfl, hk, hv, ha, HI, HB⟩ := hrel
    by_cases hlt : k < n
    · go_wp2
      go_loopw [9] (fun j wd => ∃ (i : Nat), j = .int .i64 i ∧ i ≤ k ∧ Hid (∀ j, j < i → (D.getD j dz0).1 ≠ (D.getD k dz0).1) ∧ Hid (Below w.heap.size w wd)) (fun j _ => k - (intOf j).toNat)
      case atStart => exact ⟨0, rfl, Nat.zero_le _, Lib.hid (fun j h => absurd h (Nat.not_lt_zero _)), HB⟩
      case round =>
        obtain ⟨j, rfl, hj, HJ, HB2⟩ := hrel
        clear HB
        obtain ⟨x, rfl, hxb, hc⟩ := (RD.out.below HB2.out).2.2 (by rw [HN.out]; omega)
        by_cases hjk : j < k
        · have c0 := (hc j (by rw [HN.out]; omega)).1
          have c1 := (hc k (by rw [HN.out]; omega)).1
          clear hc
          have hjn : (j : Int) < (n : Int) := by omega
          have hkn : (k : Int) < (n : Int) := by omega
          have hjk2 : (j : Int) < (k : Int) := by omega
          by_cases he : (D.getD j dz0).1 = (D.getD k dz0).1
          · have H9 : r = 9 := by rw [← HR.out]; exact dup_9 hjk (by rw [HN.out]; exact hlt) he
            subst H9
            rw [he] at c0
            generalize (D.getD k dz0).1 = nk at *
            clear he HJ
            go_wp2
            go_quiet (fail)
            go_wp2
            go_ret
            exact ⟨rfl, below_drewN HB2.out _⟩
          · have HS : Hid (∀ i, i < j + 1 → (D.getD i dz0).1 ≠ (D.getD k dz0).1) := Lib.hid (fun i hi => by
              rcases Nat.lt_or_ge i j with h | h
              · exact HJ.out i h
              · obtain rfl : i = j := by omega
                exact he)
            have hne := strB_ne he
            obtain ⟨nk, hnk⟩ : ∃ nk, (D.getD k dz0).1 = nk := ⟨_, rfl⟩
            obtain ⟨nj, hnj⟩ : ∃ nj, (D.getD j dz0).1 = nj := ⟨_, rfl⟩
            rw [hnk] at c1 hne
            rw [hnj] at c0 hne
            clear hnk hnj
            clear he HJ
            go_wp2
            go_quiet (fail)
            go_wp2
            go_roundw
            case rel => exact ⟨j + 1, by go_num, by omega, HS, Lib.hid (below_drewN HB2.out _)⟩
            case measure => simp [intOf]; omega
        · obtain rfl : j = k := by omega
          have HNd := Lib.hid (nodup_step (by rw [HN.out]; exact hlt) HI.out.nd HJ.out)
          have c1 := (hc j (by rw [HN.out]; exact hlt)).2
          clear hc hj HJ
          have hkn : (j : Int) < (n : Int) := by omega
          have ci : (j : Int) ≤ 1000 := by omega
          have vi : (v : Int) ≤ 1000 := by omega
          have ai : (a : Int) ≤ 1000 := by omega
          have IV := Lib.hid (fun h => HI.out.vars (by rw [HN.out]; exact hlt) HNd.out h)
          have IA := Lib.hid (fun h (x : Bool) hx => HI.out.arrs (x := x) (by rw [HN.out]; exact hlt) HNd.out h hx)
          have HW : Hid (wrongD (D.getD j dz0) = (decide ((D.getD j dz0).2 < 1) || decide (32 < (D.getD j dz0).2))) := Lib.hid rfl
          by_cases hu1 : (D.getD j dz0).2 = -1
          · have I2 := Lib.hid (IV.out hu1)
            rw [hu1] at c1
            clear IV IA HW HI HNd hu1
            go_wp2
            go_roundw
            case rel => exact ⟨j + 1, v + 1, a, g, by go_num, rfl, rfl, by go_num, by omega, by omega, by omega, I2, HB2⟩
            case measure => simp [intOf]; omega
          · have IA2 := Lib.hid (IA.out hu1)
            clear IV IA HI HNd
            generalize hsz : (D.getD j dz0).2 = sz at c1 hu1
            rw [hsz] at HW
            clear hsz
            cases g with
            | true =>
              have I2 := Lib.hid (IA2.out true (by simp))
              clear IA2 HW
              go_wp2
              go_roundw
              case rel => exact ⟨j + 1, v, a + 1, true, rfl, by go_num, rfl, by go_num, by omega, by omega, by omega, I2, HB2⟩
              case measure => simp [intOf]; omega
            | false =>
              by_cases h1 : sz < 1
              · have d1 : decide (sz < 1) = true := decide_eq_true h1
                have I2 := Lib.hid (IA2.out true (by rw [HW.out, d1]; rfl))
                clear IA2 HW
                go_wp2
                go_roundw
                case rel => exact ⟨j + 1, v, a + 1, true, rfl, by go_num, rfl, by go_num, by omega, by omega, by omega, I2, HB2⟩
                case measure => simp [intOf]; omega
              · have d1 : decide (sz < 1) = false := decide_eq_false h1
                have I2 := Lib.hid (IA2.out (decide (32 < sz)) (by rw [HW.out, d1]; rfl))
                clear IA2 HW
                go_wp2
                go_roundw
                case rel => exact ⟨j + 1, v, a + 1, decide (32 < sz), rfl, by go_num, rfl, by go_num, by omega, by omega, by omega, I2, HB2⟩
                case measure => simp [intOf]; omega
    · obtain rfl : k = n := by omega
      have HE : Hid (D.take k = D) := Lib.hid (List.take_of_length_le (by rw [HN.out]; exact Nat.le_refl _))
      have HR2 : Hid (r = if fitB D then usesR D U else 4) := Lib.hid (by rw [← HR.out]; exact rr_nodup (by have := HI.out.nd; rwa [HE.out] at this))
      have HF : Hid (fitB D = (!g && (decide (a ≤ 4) && decide (v ≤ 16)))) := Lib.hid (fit_of (by rw [HI.out.v, HE.out]) (by rw [HI.out.a, HE.out]) (by rw [HI.out.g, HE.out]))
      clear HR HI HE
      by_cases h16 : 16 < v
      · have H4 : r = 4 := by rw [HR2.out, HF.out, decide_eq_false (show ¬ v ≤ 16 by omega)]; simp
        subst H4
        have hvi : (16 : Int) < (v : Int) := by omega
        clear HR2 HF
        go_wp2
        go_ret
        exact ⟨rfl, HB.out⟩
      have dv : decide ((16 : Int) < (v : Int)) = false := decide_eq_false (by omega)
      by_cases h4 : 4 < a
      · have H4 : r = 4 := by rw [HR2.out, HF.out, decide_eq_false (show ¬ a ≤ 4 by omega)]; simp
        subst H4
        have hai : (4 : Int) < (a : Int) := by omega
        clear HR2 HF
        go_wp2
        go_ret
        exact ⟨rfl, HB.out⟩
      have da : decide ((4 : Int) < (a : Int)) = false := decide_eq_false (by omega)
      cases g with
      | true =>
        have H4 : r = 4 := by rw [HR2.out, HF.out]; rfl
        subst H4
        clear HR2 HF
        go_wp2
        go_ret
        exact ⟨rfl, HB.out⟩
      | false =>
        have HU : Hid (r = usesR D U) := Lib.hid (by rw [HR2.out, HF.out, decide_eq_true (show v ≤ 16 by omega), decide_eq_true (show a ≤ 4 by omega)]; rfl)
        clear HR2 HF
        go_wp2
        go_loopw [10] (fun i wd => ∃ (p : Nat), i = .int .i64 p ∧ p ≤ m ∧ Hid (usesR D (U.take p) = 0) ∧ Hid (Below w.heap.size w wd)) (fun i _ => m - (intOf i).toNat)
        case atStart => exact ⟨0, rfl, Nat.zero_le _, Lib.hid rfl, HB⟩
        case round =>
          obtain ⟨p, rfl, hp, HP, HB3⟩ := hrel
          clear HB
          by_cases hpm : p < m
          · have KT := Lib.hid (usesR_take (D := D) (U := U) (k := p) (by rw [HM.out]; exact hpm) HP.out)
            have KC := Lib.hid (fun h => usesR_cut (D := D) (U := U) (k := p + 1) h)
            have RX := Lib.hid (fun W (b : Below w.heap.size w W) => (by
              obtain ⟨y, h1, h2, h3⟩ := (RU.out.below b).2.2 (by rw [HM.out]; omega)
              exact ⟨y, h1, h3 p (by rw [HM.out]; exact hpm)⟩ : ∃ y, A' = some y ∧ W.cell? (y.add (p * 2)) = some (.string (strB (U.getD p us0).2)) ∧ W.cell? ⟨(y.add (p * 2)).block, (y.add (p * 2)).off + 1, none⟩ = some (.bool (U.getD p us0).1)))
            generalize U.getD p us0 = u at *
            obtain ⟨ub, un⟩ := u
            simp only at KT RX
            go_wp2
            go_loopw [11, 12] (fun e j wd => ∃ (q : Nat), j = .int .i64 q ∧ e = .int .i64 (useR (D.take q) ub un) ∧ q ≤ k ∧ Hid (Below w.heap.size w wd)) (fun _ j _ => k - (intOf j).toNat)
            case atStart => exact ⟨0, rfl, rfl, Nat.zero_le _, HB3⟩
            case round =>
              obtain ⟨q, rfl, rfl, hq, HB4⟩ := hrel
              clear HB3
              by_cases hqk : q < k
              · obtain ⟨x, hAx, hxb, hc⟩ := (RD.out.below HB4.out).2.2 (by rw [HN.out]; omega)
                obtain ⟨y, hAy, v0, v1⟩ := RX.out _ HB4.out
                subst hAx hAy
                have c0 := (hc q (by rw [HN.out]; exact hqk)).1
                have c1 := (hc q (by rw [HN.out]; exact hqk)).2
                have hqi : (q : Int) < (k : Int) := by omega
                have hpi : (p : Int) < (m : Int) := by omega
                have KS := Lib.hid (show useR (D.take (q + 1)) ub un = if (D.getD q dz0).1 = un then (if ub = !decide ((D.getD q dz0).2 = -1) then 0 else 11) else useR (D.take q) ub un by rw [take_snocD D q dz0 (by rw [HN.out]; exact hqk), useR_snoc])
                clear hc
                generalize D.getD q dz0 = d at *
                obtain ⟨ds, dz⟩ := d
                simp only at c0 c1 KS
                generalize useR (D.take q) ub un = e0 at *
                by_cases he : ds = un
                · subst he
                  rw [if_pos rfl] at KS
                  by_cases hz : dz = -1
                  · subst hz
                    cases ub with
                    | true =>
                      have K11 := Lib.hid (show useR (D.take (q + 1)) true ds = 11 by rw [KS.out]; rfl)
                      clear KS
                      go_wp2
                      go_quiet (fail)
                      go_wp2
                      go_quiet (fail)
                      go_wp2
                      go_roundw
                      case rel => exact ⟨q + 1, by go_num, by rw [K11.out], by omega, Lib.hid (below_drewN HB4.out _)⟩
                      case measure => simp [intOf]; omega
                    | false =>
                      have K0 := Lib.hid (show useR (D.take (q + 1)) false ds = 0 by rw [KS.out]; rfl)
                      clear KS
                      go_wp2
                      go_quiet (fail)
                      go_wp2
                      go_quiet (fail)
                      go_wp2
                      go_roundw
                      case rel => exact ⟨q + 1, by go_num, by rw [K0.out], by omega, Lib.hid (below_drewN HB4.out _)⟩
                      case measure => simp [intOf]; omega
                  · have dz1 : decide (dz = -1) = false := decide_eq_false hz
                    have dz2 : (dz == -1) = false := by simpa using hz
                    have dz3 : (dz != -1) = true := by simpa using hz
                    cases ub with
                    | true =>
                      have K0 := Lib.hid (show useR (D.take (q + 1)) true ds = 0 by rw [KS.out, dz1]; rfl)
                      clear KS
                      go_wp2
                      go_quiet (fail)
                      go_wp2
                      go_quiet (fail)
                      go_wp2
                      go_roundw
                      case rel => exact ⟨q + 1, by go_num, by rw [K0.out], by omega, Lib.hid (below_drewN HB4.out _)⟩
                      case measure => simp [intOf]; omega
                    | false =>
                      have K11 := Lib.hid (show useR (D.take (q + 1)) false ds = 11 by rw [KS.out, dz1]; rfl)
                      clear KS
                      go_wp2
                      go_quiet (fail)
                      go_wp2
                      go_quiet (fail)
                      go_wp2
                      go_roundw
                      case rel => exact ⟨q + 1, by go_num, by rw [K11.out], by omega, Lib.hid (below_drewN HB4.out _)⟩
                      case measure => simp [intOf]; omega
                · rw [if_neg he] at KS
                  have hne := strB_ne he
                  clear he
                  go_wp2
                  go_quiet (fail)
                  go_wp2
                  go_quiet (fail)
                  go_wp2
                  go_roundw
                  case rel => exact ⟨q + 1, by go_num, by rw [KS.out], by omega, Lib.hid (below_drewN HB4.out _)⟩
                  case measure => simp [intOf]; omega
              · obtain rfl : q = k := by omega
                have HE : Hid (D.take q = D) := Lib.hid (List.take_of_length_le (by rw [HN.out]; exact Nat.le_refl _))
                rw [HE.out]
                generalize useR D ub un = e0 at *
                by_cases he : e0 = 0
                · have H0 := Lib.hid (KT.out.trans he)
                  subst he
                  clear KT KC HE
                  go_wp2
                  go_roundw
                  case rel => exact ⟨p + 1, by go_num, by omega, H0, HB4⟩
                  case measure => simp [intOf]; omega
                · have HX : Hid (e0 = r) := Lib.hid (by rw [HU.out, KC.out (by rw [KT.out]; exact he), KT.out])
                  clear KT KC HE
                  go_wp2
                  go_ret
                  exact ⟨by rw [← HX.out]; rfl, HB4.out⟩
          · obtain rfl : p = m := by omega
            have : r = 0 := by rw [HU.out, ← HP.out, List.take_of_length_le (by rw [HM.out]; exact Nat.le_refl _)]
            subst this
            go_wp2
            go_ret
            exact ⟨rfl, HB3.out⟩
end Go.Proofs.YtkacplcilkogpaaDoor.Mm
