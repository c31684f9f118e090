/- The statement LexParts, walked. -/
import Derived.Test.YtnlanaompaaijaaDoorLexStr
import Derived.IntWalk
namespace Go.Proofs.YtnlanaompaaijaaDoor.Mm
open Go.ChangeShapes Go.WideShapes Go.ChangeAt Go.RowKit
set_option linter.unusedVariables false

theorem getD_left (ps qs : List Pc) (k : Nat) (h : k < ps.length) : (ps ++ qs).getD k pc0 = ps.getD k pc0 := by simp [List.getD, List.getElem?_append_left h]
theorem getD_right (ps qs : List Pc) (k j : Nat) (h : k = ps.length + j) : (ps ++ qs).getD k pc0 = qs.getD j pc0 := by
  subst h
  simp [List.getD, List.getElem?_append_right]
theorem parts_list (s t : ByteArray) : ((s ++ ⟨#[32]⟩) ++ t).data.toList = s.data.toList ++ 32 :: t.data.toList := by
  simp [ByteArray.data_append]
def awakeC (w : World) : Prop := ∀ W, Below w.heap.size w W → Calls Tryd.prog 7 #[] W fun e w' => e = .returned (.bool true) ∧ Below W.heap.size W w'
def readC (w : World) : Prop := ∀ (t : ByteArray) (ht : t.size ≤ 4000) W, Below w.heap.size w W → Calls Tryd.prog 8 #[.string t] W (ReadQ W t.data.toList)
set_option maxRecDepth 100000 in
set_option maxHeartbeats 4000000 in
theorem parts_ok (s t : ByteArray) (w : World) (hs : s.size ≤ 1900) (ht : t.size ≤ 1900) (AW : Hid (awakeC w)) (CR : Hid (readC w)) (ps qs : List Pc) (e1 : readL s.data.toList = .ok ps) (e2 : readL t.data.toList = .ok qs) :
    Calls Tryd.prog 4 #[.string s, .string t] w fun e w' => e = .returned (.bool true) ∧ Below w.heap.size w w' := by
  have e3 : readL (s.data.toList ++ 32 :: t.data.toList) = .ok (ps ++ qs) := by rw [read_parts _ _ _ (Nat.le_refl _), e1, e2]; rfl
  have C1 := fun W k => CR.out s (by omega) W k
  have C2 := fun W k => CR.out t (by omega) W k
  have C3 := fun W k => CR.out ((s ++ ⟨#[32]⟩) ++ t) (by rw [ByteArray.size_append, ByteArray.size_append]; show s.size + 1 + _ ≤ _; omega) W k
  rw [parts_list] at C3
  unfold ReadQ at C1 C2 C3
  rw [e1] at C1
  rw [e2] at C2
  rw [e3] at C3
  simp only at C1 C2 C3
  have hc1 := read_count e1
  have hc2 := read_count e2
  rw [size_list] at hc1 hc2
  have GL := Lib.hid (getD_left ps qs)
  have GR := Lib.hid (getD_right ps qs)
  have HL3 : Hid ((ps ++ qs).length = ps.length + qs.length) := Lib.hid List.length_append
  obtain ⟨na, hna⟩ : ∃ n, n = ps.length := ⟨_, rfl⟩
  obtain ⟨nb, hnb⟩ : ∃ n, n = qs.length := ⟨_, rfl⟩
  obtain ⟨nc, hnc⟩ : ∃ n, n = (ps ++ qs).length := ⟨_, rfl⟩
  have hn : nc = na + nb := by rw [hnc, hna, hnb]; exact HL3.out
  rw [← hna] at C1 hc1
  rw [← hnb] at C2 hc2
  rw [← hnc] at C3
  have L1 := Lib.hid hna
  have L2 := Lib.hid hnb
  have L3 := Lib.hid hnc
  have HN := Lib.hid hn
  have hncb : nc ≤ 3800 := by omega
  replace C1 := Lib.hid C1
  replace C2 := Lib.hid C2
  replace C3 := Lib.hid C3
  have hsi : (s.size : Int) ≤ 1900 := by omega
  have hti : (t.size : Int) ≤ 1900 := by omega
  have B0 := Lib.hid (Below.refl w.heap.size w)
  clear e1 e2 e3 hna hnb hnc hn HL3 CR
  go_enter Tryd.func4, Tryd.ntmps4
  go_wp2_with fail
  refine (AW.out _ B0.out).mono ?_; rintro e w1 ⟨rfl, hb⟩
  have B1 := Lib.hid hb
  clear hb
  go_wp2_with fail
  refine (C1.out _ B1.out).mono ?_; rintro e w2 ⟨A, ca, rfl, r, hb⟩
  have R1 := Lib.hid r
  have B2 := Lib.hid (bel_then B1.out hb)
  clear hb r
  go_wp2_with fail
  refine (C2.out _ B2.out).mono ?_; rintro e w3 ⟨D, cd, rfl, r, hb⟩
  have S1 := Lib.hid (R1.out.below hb)
  have S2 := Lib.hid r
  have B3 := Lib.hid (bel_then B2.out hb)
  clear hb r R1
  go_wp2_with fail
  refine (C3.out _ B3.out).mono ?_; rintro e w4 ⟨E, ce, rfl, r, hb⟩
  have T1 := Lib.hid (S1.out.below hb)
  have T2 := Lib.hid (S2.out.below hb)
  have T3 := Lib.hid r
  have B4 := Lib.hid (bel_then B3.out hb)
  clear hb r S1 S2
  go_wp2_with fail
  go_loopw [14] (fun i wr => ∃ k : Nat, i = .int .i64 k ∧ k ≤ nc ∧ Hid (Below w4.heap.size w4 wr)) (fun i _ => nc - (intOf i).toNat)
  case atStart => exact ⟨0, rfl, Nat.zero_le _, Lib.hid (Below.refl _ _)⟩
  case round =>
    obtain ⟨k, rfl, hk, HB⟩ := hrel
    by_cases hlt : k < nc
    · obtain ⟨z, rfl, hzb, hz, _⟩ := (T3.out.below HB.out).at k (by rw [← L3.out]; exact hlt)
      have hlti : (k : Int) < (nc : Int) := by omega
      by_cases hka : k < na
      · obtain ⟨x, rfl, hxb, hx, _⟩ := (T1.out.below HB.out).at k (by rw [← L1.out]; exact hka)
        rw [GL.out k (by rw [← L1.out]; exact hka)] at hz
        have hkai : (k : Int) < (na : Int) := by omega
        have d1 : decide ((k : Int) < (na : Int)) = true := decide_eq_true hkai
        have d2 : decide (k < na) = true := decide_eq_true hka
        have d3 : decide ((na : Int) ≤ (k : Int)) = false := decide_eq_false (by omega)
        have d4 : decide (na ≤ k) = false := decide_eq_false (by omega)
        obtain ⟨c0, c1, c2⟩ := hz
        obtain ⟨e0, e1, e2⟩ := hx
        generalize ps.getD k pc0 = p at *
        generalize strB p.2.1 = T at *
        generalize p.1 = pk at *
        generalize p.2.2 = pv at *
        clear GL GR
        go_wp2_with fail
        go_quiet (fail)
        all_goals go_wp2
        all_goals go_roundw
        case rel => exact ⟨k + 1, by go_num, hlt, Lib.hid (below_drewN HB.out _)⟩
        case measure => simp [intOf]; omega
      · obtain ⟨j, hj⟩ : ∃ j, j = k - na := ⟨_, rfl⟩
        have hn := HN.out
        have hjb : j < nb := by omega
        obtain ⟨x, rfl, hxb, hx, _⟩ := (T2.out.below HB.out).at j (by rw [← L2.out]; exact hjb)
        rw [GR.out k j (by rw [← L1.out]; omega)] at hz
        have d1 : decide ((k : Int) < (na : Int)) = false := decide_eq_false (by omega)
        have d2 : decide (k < na) = false := decide_eq_false hka
        have d3 : decide ((na : Int) ≤ (k : Int)) = true := decide_eq_true (by omega)
        have d4 : decide (na ≤ k) = true := decide_eq_true (by omega)
        have hjw : IntKind.i64.wrap ((k : Int) - (na : Int)) = (j : Int) := by rw [IntWalk.i64_in _ (by omega)]; omega
        have hji : (j : Int) < (nb : Int) := by omega
        have d5 : decide ((nb : Int) ≤ (j : Int)) = false := decide_eq_false (by omega)
        have d6 : decide (nb ≤ j) = false := decide_eq_false (by omega)
        clear hn hj hka
        obtain ⟨c0, c1, c2⟩ := hz
        obtain ⟨e0, e1, e2⟩ := hx
        generalize qs.getD j pc0 = p at *
        generalize strB p.2.1 = T at *
        generalize p.1 = pk at *
        generalize p.2.2 = pv at *
        clear GL GR
        go_wp2_with fail
        go_quiet (fail)
        all_goals go_wp2
        all_goals go_roundw
        case rel => exact ⟨k + 1, by go_num, hlt, Lib.hid (below_drewN HB.out _)⟩
        case measure => simp [intOf]; omega
    · obtain rfl : k = nc := by omega
      have hn := HN.out
      subst hn
      go_wp2
      go_ret
      exact ⟨by simp, bel_then B4.out HB.out⟩
theorem readQ_some {w : World} {l : Bs} {e : Ending} {w' : World} (h : ReadQ w l e w') : ∃ A n cap k x, e = .returned (.tuple #[.slice A n cap, .int .i64 k, .int .i64 x]) ∧ Below w.heap.size w w' := by
  unfold ReadQ at h
  revert h
  cases readL l with
  | ok ps => rintro ⟨A, cap, rfl, _, hb⟩; exact ⟨A, _, cap, _, _, rfl, hb⟩
  | error k => rintro ⟨rfl, hb⟩; exact ⟨none, 0, 0, _, _, rfl, hb⟩
set_option maxRecDepth 100000 in
set_option maxHeartbeats 4000000 in
theorem parts_no1 (s t : ByteArray) (w : World) (hs : s.size ≤ 1900) (ht : t.size ≤ 1900) (AW : Hid (awakeC w)) (CR : Hid (readC w)) (n : Nat) (e1 : readL s.data.toList = .error n) :
    Calls Tryd.prog 4 #[.string s, .string t] w fun e w' => e = .returned (.bool true) ∧ Below w.heap.size w w' := by
  have e3 : readL (s.data.toList ++ 32 :: t.data.toList) = .error n := by rw [read_parts _ _ _ (Nat.le_refl _), e1]; rfl
  have C1 := fun W k => CR.out s (by omega) W k
  have C2 := fun W k => (CR.out t (by omega) W k).mono fun _ _ h => readQ_some h
  have C3 := fun W k => CR.out ((s ++ ⟨#[32]⟩) ++ t) (by rw [ByteArray.size_append, ByteArray.size_append]; show s.size + 1 + _ ≤ _; omega) W k
  rw [parts_list] at C3
  unfold ReadQ at C1 C3
  rw [e1] at C1
  rw [e3] at C3
  simp only at C1 C3
  replace C1 := Lib.hid C1
  replace C2 := Lib.hid C2
  replace C3 := Lib.hid C3
  have hsi : (s.size : Int) ≤ 1900 := by omega
  have hti : (t.size : Int) ≤ 1900 := by omega
  have B0 := Lib.hid (Below.refl w.heap.size w)
  clear e1 e3 CR
  go_enter Tryd.func4, Tryd.ntmps4
  go_wp2_with fail
  refine (AW.out _ B0.out).mono ?_; rintro e w1 ⟨rfl, hb⟩
  have B1 := Lib.hid hb
  clear hb
  go_wp2_with fail
  refine (C1.out _ B1.out).mono ?_; rintro e w2 ⟨rfl, hb⟩
  have B2 := Lib.hid (bel_then B1.out hb)
  clear hb
  go_wp2_with fail
  refine (C2.out _ B2.out).mono ?_; rintro e w3 ⟨D, nd, cd, y0, y1, rfl, hb⟩
  have B3 := Lib.hid (bel_then B2.out hb)
  clear hb
  go_wp2_with fail
  refine (C3.out _ B3.out).mono ?_; rintro e w4 ⟨rfl, hb⟩
  have B4 := Lib.hid (bel_then B3.out hb)
  clear hb
  go_wp2
  go_ret
  exact ⟨by simp, B4.out⟩
set_option maxRecDepth 100000 in
set_option maxHeartbeats 4000000 in
theorem parts_no2 (s t : ByteArray) (w : World) (hs : s.size ≤ 1900) (ht : t.size ≤ 1900) (AW : Hid (awakeC w)) (CR : Hid (readC w)) (ps : List Pc) (n : Nat) (e1 : readL s.data.toList = .ok ps) (e2 : readL t.data.toList = .error n) (hn : n ≤ 4000) :
    Calls Tryd.prog 4 #[.string s, .string t] w fun e w' => e = .returned (.bool true) ∧ Below w.heap.size w w' := by
  have e3 : readL (s.data.toList ++ 32 :: t.data.toList) = .error (s.size + 1 + n) := by rw [read_parts _ _ _ (Nat.le_refl _), e1, e2, size_list]; rfl
  have C1 := fun W k => CR.out s (by omega) W k
  have C2 := fun W k => CR.out t (by omega) W k
  have C3 := fun W k => CR.out ((s ++ ⟨#[32]⟩) ++ t) (by rw [ByteArray.size_append, ByteArray.size_append]; show s.size + 1 + _ ≤ _; omega) W k
  rw [parts_list] at C3
  unfold ReadQ at C1 C2 C3
  rw [e1] at C1
  rw [e2] at C2
  rw [e3] at C3
  simp only at C1 C2 C3
  obtain ⟨m, hm⟩ : ∃ m, m = s.size + 1 + n := ⟨_, rfl⟩
  rw [← hm] at C3
  have hmb : ((m : Int) == (s.size : Int) + 1 + (n : Int)) = true := by rw [hm]; simp
  clear hm
  replace C1 := Lib.hid C1
  replace C2 := Lib.hid C2
  replace C3 := Lib.hid C3
  have hsi : (s.size : Int) ≤ 1900 := by omega
  have hti : (t.size : Int) ≤ 1900 := by omega
  have B0 := Lib.hid (Below.refl w.heap.size w)
  clear e1 e2 e3 CR
  go_enter Tryd.func4, Tryd.ntmps4
  go_wp2_with fail
  refine (AW.out _ B0.out).mono ?_; rintro e w1 ⟨rfl, hb⟩
  have B1 := Lib.hid hb
  clear hb
  go_wp2_with fail
  refine (C1.out _ B1.out).mono ?_; rintro e w2 ⟨A, ca, rfl, r, hb⟩
  have B2 := Lib.hid (bel_then B1.out hb)
  clear hb r
  go_wp2_with fail
  refine (C2.out _ B2.out).mono ?_; rintro e w3 ⟨rfl, hb⟩
  have B3 := Lib.hid (bel_then B2.out hb)
  clear hb
  go_wp2_with fail
  refine (C3.out _ B3.out).mono ?_; rintro e w4 ⟨rfl, hb⟩
  have B4 := Lib.hid (bel_then B3.out hb)
  clear hb
  go_wp2
  go_ret
  exact ⟨by simp, B4.out⟩
theorem read_err_le : ∀ (n : Nat) (l : Bs), l.length ≤ n → ∀ k, readL l = .error k → k ≤ l.length := by
  intro n
  induction n with
  | zero =>
    intro l hl k h
    obtain rfl : l = [] := List.eq_nil_of_length_eq_zero (by omega)
    rw [read_nil] at h
    cases h
  | succ n ih =>
    intro l hl k h
    match l with
    | [] => rw [read_nil] at h; cases h
    | c :: r =>
      simp only [List.length_cons, Nat.add_le_add_iff_right] at hl
      by_cases hc : cls c = 4
      · rw [read_gap hc] at h
        cases hr : readL r with
        | ok qs => rw [hr] at h; cases h
        | error j =>
          rw [hr] at h
          injection h with h
          have := ih r hl j hr
          simp only [List.length_cons]
          omega
      · cases hw : wordL (c :: r) with
        | none =>
          rw [read_none hc hw] at h
          injection h with h
          omega
        | some p =>
          rw [read_some hc hw] at h
          have hp := word_pos hw
          obtain ⟨ok, _, hle⟩ := word_ok hw
          have hd : ((c :: r).drop p.2.1.length).length = (c :: r).length - p.2.1.length := List.length_drop
          cases hr : readL ((c :: r).drop p.2.1.length) with
          | ok qs => rw [hr] at h; cases h
          | error j =>
            rw [hr] at h
            injection h with h
            have := ih _ (by rw [hd, List.length_cons]; omega) j hr
            omega
set_option maxRecDepth 100000 in
theorem lexParts_walk (s t : ByteArray) (w : World) (ws : s.size ≤ maxLen) (wt : t.size ≤ maxLen) (hE : ErrV w) :
    Calls Tryd.prog 4 #[.string s, .string t] w fun e w' => e = .returned (.bool true) ∧ Below w.heap.size w w' := by
  have AW : Hid (awakeC w) := Lib.hid (fun W k => awake_any W (hE.below k))
  have CR : Hid (readC w) := Lib.hid (fun t ht W k => read_few t ht W (hE.below k))
  have B0 := Lib.hid (Below.refl w.heap.size w)
  by_cases hs : s.size ≤ 1900
  · by_cases ht : t.size ≤ 1900
    · cases e1 : readL s.data.toList with
      | error n => exact parts_no1 s t w hs ht AW CR n e1
      | ok ps =>
        cases e2 : readL t.data.toList with
        | error n => exact parts_no2 s t w hs ht AW CR ps n e1 e2 (by have := read_err_le _ _ (Nat.le_refl _) n e2; rw [size_list] at this; omega)
        | ok qs => exact parts_ok s t w hs ht AW CR ps qs e1 e2
    · have h4 : (s.size : Int) ≤ 1900 := by omega
      have h5 : (1900 : Int) < t.size := by omega
      go_enter Tryd.func4, Tryd.ntmps4
      go_wp2_with fail
      refine (AW.out _ B0.out).mono ?_; rintro e w1 ⟨rfl, hb⟩
      have B1 := Lib.hid hb
      clear hb
      go_wp2_with fail
      refine (AW.out _ B1.out).mono ?_; rintro e w2 ⟨rfl, hb⟩
      have B2 := Lib.hid (bel_then B1.out hb)
      clear hb
      go_wp2
      go_ret
      exact ⟨rfl, B2.out⟩
  · have h4 : (1900 : Int) < s.size := by omega
    go_enter Tryd.func4, Tryd.ntmps4
    go_wp2_with fail
    refine (AW.out _ B0.out).mono ?_; rintro e w1 ⟨rfl, hb⟩
    have B1 := Lib.hid hb
    clear hb
    go_wp2_with fail
    refine (AW.out _ B1.out).mono ?_; rintro e w2 ⟨rfl, hb⟩
    have B2 := Lib.hid (bel_then B1.out hb)
    clear hb
    go_wp2
    go_ret
    exact ⟨rfl, B2.out⟩
end Go.Proofs.YtnlanaompaaijaaDoor.Mm
