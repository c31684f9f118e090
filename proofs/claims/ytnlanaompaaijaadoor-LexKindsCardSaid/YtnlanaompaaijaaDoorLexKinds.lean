/- The statement LexKinds, walked. -/
import Derived.Test.YtnlanaompaaijaaDoorLexAwake
namespace Go.Proofs.YtnlanaompaaijaaDoor.Mm
open Go.ChangeShapes Go.WideShapes Go.ChangeAt Go.RowKit
set_option linter.unusedVariables false

theorem quiet_eqL {P : Program} {f : FuncId} {args : Array Value} {w : World} {n : Nat} {v : Value}
    (h : Calls P f args (w.drewN n) fun e w' => e = .returned v ∧ w.drewN n = w') : Calls P f args (w.drewN n) fun e w'' => e = .returned v ∧ ∃ m, w'' = w.drewN m :=
  h.mono fun _ _ ⟨he, hm⟩ => ⟨he, n, hm.symm⟩
/-- bytes of the first words -/
def sumP (ps : List Pc) (k : Nat) : Nat := ((ps.take k).map fun p => p.2.1.length).sum
theorem sumP_0 (ps : List Pc) : sumP ps 0 = 0 := rfl
theorem sumP_succ (ps : List Pc) (k : Nat) (h : k < ps.length) : sumP ps (k + 1) = sumP ps k + (ps.getD k pc0).2.1.length := by
  unfold sumP
  rw [List.take_succ_eq_append_getElem h, List.map_append, List.sum_append]
  simp [List.getD, h]
theorem sumP_all (ps : List Pc) : sumP ps ps.length = (ps.map fun p => p.2.1.length).sum := by unfold sumP; rw [List.take_length]
theorem sumP_le (ps : List Pc) (k : Nat) : sumP ps k ≤ (ps.map fun p => p.2.1.length).sum := by
  unfold sumP
  conv => rhs; rw [← List.take_append_drop k ps, List.map_append, List.sum_append]
  omega
/-- what a word's first byte is, by its kind -/
theorem kind_ways {p : Pc} (ok : WordOk p) (T : ByteArray) (hT : strB p.2.1 = T) (h0 : 0 < T.size) :
    ((p.1 = 110 ∧ isK p.2.1 = false ∧ 97 ≤ (T[0].toNat : Int) ∧ (T[0].toNat : Int) ≤ 122 ∧ p.2.2 = 0) ∨ (p.1 = 107 ∧ isK p.2.1 = true ∧ 97 ≤ (T[0].toNat : Int) ∧ (T[0].toNat : Int) ≤ 122 ∧ p.2.2 = 0) ∨
      (p.1 = 48 ∧ isK p.2.1 = false ∧ 48 ≤ (T[0].toNat : Int) ∧ (T[0].toNat : Int) ≤ 57)) ∨
    (p.1 ≠ 110 ∧ p.1 ≠ 107 ∧ p.1 ≠ 48 ∧ isK p.2.1 = false ∧ p.2.2 = 0 ∧ ((T[0].toNat : Int) < 48 ∨ (57 < (T[0].toNat : Int) ∧ (T[0].toNat : Int) < 97) ∨ 122 < (T[0].toNat : Int))) := by
  have hh : p.2.1.headD 0 = T[0] := by
    have := head_byte T h0
    rw [← this, ← hT]; rfl
  have kL := ok.kL
  have kD := ok.kD
  have kK := ok.kK
  rw [hh] at kL kD
  unfold isL at kL
  unfold isD at kD
  rw [decide_eq_true_iff] at kL kD
  by_cases h1 : p.1 = 110
  · have := kL.2 (.inl h1)
    have hk : isK p.2.1 = false := by cases h : isK p.2.1; rfl; have := kK.2 h; omega
    exact .inl (.inl ⟨h1, hk, by omega, by omega, ok.kV (by omega)⟩)
  · by_cases h2 : p.1 = 107
    · have := kL.2 (.inr h2)
      exact .inl (.inr (.inl ⟨h2, kK.1 h2, by omega, by omega, ok.kV (by omega)⟩))
    · have hk : isK p.2.1 = false := by cases h : isK p.2.1; rfl; exact absurd (kK.2 h) h2
      by_cases h3 : p.1 = 48
      · have := kD.2 h3
        exact .inl (.inr (.inr ⟨h3, hk, by omega, by omega⟩))
      · have n1 : ¬ (97 ≤ T[0].toNat ∧ T[0].toNat ≤ 122) := fun h => by rcases kL.1 h with h | h; exact h1 h; exact h2 h
        have n2 : ¬ (48 ≤ T[0].toNat ∧ T[0].toNat ≤ 57) := fun h => h3 (kD.1 h)
        exact .inr ⟨h1, h2, h3, hk, ok.kV h3, by omega⟩

set_option maxRecDepth 100000 in
set_option maxHeartbeats 4000000 in
theorem lexKinds_walk (s : ByteArray) (w : World) (ws : s.size ≤ maxLen) (hE : ErrV w) :
    Calls Tryd.prog 5 #[.string s] w fun e w' => e = .returned (.bool true) ∧ Below w.heap.size w w' := by
  have AW := Lib.hid (fun W (k : Below w.heap.size w W) => awake_any W (hE.below k))
  have B0 := Lib.hid (Below.refl w.heap.size w)
  by_cases hbig : 4100 < s.size
  · have h4 : (4100 : Int) < s.size := by omega
    go_enter Tryd.func5, Tryd.ntmps5
    go_wp2_with fail
    refine (AW.out _ B0.out).mono ?_; rintro e w1 ⟨rfl, hb⟩
    have B1 := Lib.hid hb
    clear hb
    go_wp2_with fail
    refine (AW.out _ B1.out).mono ?_; rintro e w2 ⟨rfl, hb⟩
    have B2 := Lib.hid (bel_then B1.out hb)
    clear hb
    go_wp2
    go_ret
    exact ⟨rfl, B2.out⟩
  · have h4 : (s.size : Int) ≤ 4100 := by omega
    have CR := Lib.hid (fun W (k : Below w.heap.size w W) => read_any s (by omega) W (hE.below k))
    have hlen := size_list s
    go_enter Tryd.func5, Tryd.ntmps5
    go_wp2_with fail
    refine (AW.out _ B0.out).mono ?_; rintro e w1 ⟨rfl, hb⟩
    have B1 := Lib.hid hb
    clear hb
    go_wp2_with fail
    refine (CR.out _ B1.out).mono ?_; intro e w2 hread
    unfold ReadP at hread
    cases hr : readE s.data.toList with
    | error kx =>
      obtain ⟨k, x⟩ := kx
      rw [hr] at hread
      obtain ⟨rfl, hb⟩ := hread
      have B2 := Lib.hid (bel_then B1.out hb)
      have hx : (x != 0) = true := by
        unfold readE at hr
        split at hr
        · injection hr with hr; injection hr with _ hr; subst hr; rfl
        · split at hr
          · cases hr
          · injection hr with hr; injection hr with _ hr; subst hr; rfl
      clear hb hr
      go_wp2
      go_ret
      exact ⟨rfl, B2.out⟩
    | ok ps =>
      rw [hr] at hread
      obtain ⟨A, cap, rfl, r, hb⟩ := hread
      have hr' : readL s.data.toList = .ok ps := by
        unfold readE at hr
        split at hr
        · cases hr
        · split at hr
          · injection hr with hr; subst hr; assumption
          · cases hr
      have R := Lib.hid r
      have B2 := Lib.hid (bel_then B1.out hb)
      have hsum := read_sum hr'
      have hcnt := read_count hr'
      rw [hlen] at hsum hcnt
      have HS := Lib.hid (fun k => Nat.le_trans (sumP_le ps k) hsum)
      have HN := Lib.hid (sumP_succ ps)
      have H0 := Lib.hid (sumP_0 ps)
      obtain ⟨n, hn⟩ : ∃ n, n = ps.length := ⟨_, rfl⟩
      rw [← hn] at hcnt ⊢
      have HL := Lib.hid hn
      clear hn hsum hr hr' r hb hlen
      go_wp2
      go_loopw [6, 7] (fun a i wr => ∃ (k m : Nat), i = .int .i64 k ∧ a = .int .i64 m ∧ k ≤ n ∧ Hid (m = sumP ps k) ∧ Hid (Below w2.heap.size w2 wr)) (fun _ i _ => n - (intOf i).toNat)
      case atStart => exact ⟨0, 0, rfl, rfl, Nat.zero_le _, Lib.hid H0.out.symm, Lib.hid (Below.refl _ _)⟩
      case round =>
        obtain ⟨k, m, rfl, rfl, hk, HM, HB⟩ := hrel
        by_cases hlt : k < n
        · obtain ⟨x, rfl, hxb, hc, ok⟩ := (R.out.below HB.out).at k (by rw [← HL.out]; exact hlt)
          have hms : m ≤ s.size := by rw [HM.out]; exact HS.out k
          have HM2 := Lib.hid (HN.out k (by rw [← HL.out]; exact hlt))
          generalize hp : ps.getD k pc0 = p at *
          have hT0 : 0 < (strB p.2.1).size := by rw [strB_size]; exact List.length_pos_iff.2 ok.ne
          have hw := kind_ways ok (strB p.2.1) rfl hT0
          have hTs := strB_size p.2.1
          have hTt := ok.top
          have hm2 : m + p.2.1.length ≤ s.size := by have := HS.out (k + 1); have := HM2.out; have := HM.out; omega
          have CK := fun W => key_any (strB p.2.1) W
          rw [strB_toList] at CK
          obtain ⟨c0, c1, c2⟩ := hc
          clear ok hp
          generalize isK p.2.1 = q at *
          generalize strB p.2.1 = T at *
          generalize p.2.1.length = tl at *
          generalize p.1 = pk at *
          generalize p.2.2 = pv at *
          replace CK := Lib.hid CK
          rcases hw with (⟨rfl, rfl, t1, t2, rfl⟩ | ⟨rfl, rfl, t1, t2, rfl⟩ | ⟨rfl, rfl, t1, t2⟩) | ⟨k1, k2, k3, rfl, rfl, hw⟩
          · have d1 : decide (97 ≤ (T[0].toNat : Int)) = true := decide_eq_true (by omega)
            have d2 : decide ((T[0].toNat : Int) ≤ 122) = true := decide_eq_true (by omega)
            have d3 : decide (48 ≤ (T[0].toNat : Int)) = true := decide_eq_true (by omega)
            have d4 : decide ((T[0].toNat : Int) ≤ 57) = false := decide_eq_false (by omega)
            have hTl : (tl : Int) ≤ 10 := by omega
            go_wp2_with fail
            go_quiet ((go_at_call 9; exact quiet_eqL (CK.out _)))
            go_wp2
            go_roundw
            case rel => exact ⟨k + 1, m + tl, by go_num, by go_num, hlt, Lib.hid (by rw [HM2.out, HM.out]), Lib.hid (below_drewN (bel_al HB.out _) _)⟩
            case measure => simp [intOf]; omega
          · have d1 : decide (97 ≤ (T[0].toNat : Int)) = true := decide_eq_true (by omega)
            have d2 : decide ((T[0].toNat : Int) ≤ 122) = true := decide_eq_true (by omega)
            have d3 : decide (48 ≤ (T[0].toNat : Int)) = true := decide_eq_true (by omega)
            have d4 : decide ((T[0].toNat : Int) ≤ 57) = false := decide_eq_false (by omega)
            have hTl : (tl : Int) ≤ 10 := by omega
            go_wp2_with fail
            go_quiet ((go_at_call 9; exact quiet_eqL (CK.out _)))
            go_wp2
            go_roundw
            case rel => exact ⟨k + 1, m + tl, by go_num, by go_num, hlt, Lib.hid (by rw [HM2.out, HM.out]), Lib.hid (below_drewN (bel_al HB.out _) _)⟩
            case measure => simp [intOf]; omega
          · have d1 : decide (97 ≤ (T[0].toNat : Int)) = false := decide_eq_false (by omega)
            have d2 : decide ((T[0].toNat : Int) ≤ 122) = true := decide_eq_true (by omega)
            have d3 : decide (48 ≤ (T[0].toNat : Int)) = true := decide_eq_true (by omega)
            have d4 : decide ((T[0].toNat : Int) ≤ 57) = true := decide_eq_true (by omega)
            have hTl : (tl : Int) ≤ 10 := by omega
            go_wp2_with fail
            go_quiet ((go_at_call 9; exact quiet_eqL (CK.out _)))
            go_wp2
            go_roundw
            case rel => exact ⟨k + 1, m + tl, by go_num, by go_num, hlt, Lib.hid (by rw [HM2.out, HM.out]), Lib.hid (below_drewN (bel_al HB.out _) _)⟩
            case measure => simp [intOf]; omega
          · have k1 : (pk == 110) = false := by simpa using k1
            have k2 : (pk == 107) = false := by simpa using k2
            have k3 : (pk == 48) = false := by simpa using k3
            rcases hw with t1 | ⟨t1, t2⟩ | t1
            · have d1 : decide (97 ≤ (T[0].toNat : Int)) = false := decide_eq_false (by omega)
              have d2 : decide ((T[0].toNat : Int) ≤ 122) = true := decide_eq_true (by omega)
              have d3 : decide (48 ≤ (T[0].toNat : Int)) = false := decide_eq_false (by omega)
              have d4 : decide ((T[0].toNat : Int) ≤ 57) = true := decide_eq_true (by omega)
              have hTl : (tl : Int) ≤ 10 := by omega
              go_wp2_with fail
              go_quiet ((go_at_call 9; exact quiet_eqL (CK.out _)))
              go_wp2
              go_roundw
              case rel => exact ⟨k + 1, m + tl, by go_num, by go_num, hlt, Lib.hid (by rw [HM2.out, HM.out]), Lib.hid (below_drewN (bel_al HB.out _) _)⟩
              case measure => simp [intOf]; omega
            · have d1 : decide (97 ≤ (T[0].toNat : Int)) = false := decide_eq_false (by omega)
              have d2 : decide ((T[0].toNat : Int) ≤ 122) = true := decide_eq_true (by omega)
              have d3 : decide (48 ≤ (T[0].toNat : Int)) = true := decide_eq_true (by omega)
              have d4 : decide ((T[0].toNat : Int) ≤ 57) = false := decide_eq_false (by omega)
              have hTl : (tl : Int) ≤ 10 := by omega
              go_wp2_with fail
              go_quiet ((go_at_call 9; exact quiet_eqL (CK.out _)))
              go_wp2
              go_roundw
              case rel => exact ⟨k + 1, m + tl, by go_num, by go_num, hlt, Lib.hid (by rw [HM2.out, HM.out]), Lib.hid (below_drewN (bel_al HB.out _) _)⟩
              case measure => simp [intOf]; omega
            · have d1 : decide (97 ≤ (T[0].toNat : Int)) = true := decide_eq_true (by omega)
              have d2 : decide ((T[0].toNat : Int) ≤ 122) = false := decide_eq_false (by omega)
              have d3 : decide (48 ≤ (T[0].toNat : Int)) = true := decide_eq_true (by omega)
              have d4 : decide ((T[0].toNat : Int) ≤ 57) = false := decide_eq_false (by omega)
              have hTl : (tl : Int) ≤ 10 := by omega
              go_wp2_with fail
              go_quiet ((go_at_call 9; exact quiet_eqL (CK.out _)))
              go_wp2
              go_roundw
              case rel => exact ⟨k + 1, m + tl, by go_num, by go_num, hlt, Lib.hid (by rw [HM2.out, HM.out]), Lib.hid (below_drewN (bel_al HB.out _) _)⟩
              case measure => simp [intOf]; omega
        · obtain rfl : k = n := by omega
          have hms : m ≤ s.size := by rw [HM.out]; exact HS.out k
          go_wp2
          go_ret
          exact ⟨ret_bool (by simp), bel_then B2.out HB.out⟩
end Go.Proofs.YtnlanaompaaijaaDoor.Mm
