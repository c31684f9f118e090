/- The statement LexGaps, walked. -/
import Derived.Test.YtnlanaompaaijaaDoorLexStr
namespace Go.Proofs.YtnlanaompaaijaaDoor.Mm
open Go.ChangeShapes Go.WideShapes Go.ChangeAt Go.RowKit
set_option linter.unusedVariables false

theorem wide_more (s : ByteArray) (k : Nat) (h : k < s.size) (S : ByteArray) (hS : S = strB (wideL (s.data.toList.take k))) :
    (isG s[k] = true → S ++ ⟨#[32, 10, 32]⟩ = strB (wideL (s.data.toList.take (k + 1)))) ∧ (isG s[k] = false → S ++ s.extract k (k + 1) = strB (wideL (s.data.toList.take (k + 1)))) := by
  subst hS
  rw [take_one_more s k h, wide_snoc]
  refine ⟨fun hg => ?_, fun hg => ?_⟩
  · rw [if_pos hg]; exact strB_app _ [32, 10, 32]
  · rw [hg, strB_one s k h, strB_app]; rfl
theorem isG_yes (c : UInt8) (h : ((c.toNat : Int) == 32) = true ∨ ((c.toNat : Int) == 10) = true) : isG c = true := by
  unfold isG
  simp only [beq_iff_eq] at h
  exact decide_eq_true (by omega)
theorem isG_no (c : UInt8) (h1 : ((c.toNat : Int) == 32) = false) (h2 : ((c.toNat : Int) == 10) = false) : isG c = false := by
  unfold isG
  simp only [beq_eq_false_iff_ne, ne_eq] at h1 h2
  exact decide_eq_false (by omega)
/-- two readings that are alike -/
def Like (x y : Except Nat (List Pc)) : Prop := (∃ ps, x = .ok ps ∧ y = .ok ps) ∨ (∃ a b, x = .error a ∧ y = .error b)
theorem like_wide (l : Bs) : Like (readL (wideL l)) (readL l) := by
  have h := read_wide _ l (Nat.le_refl _)
  revert h
  cases readL (wideL l) <;> cases readL l <;> simp [alike, Like] <;> exact fun h => h.symm
set_option maxRecDepth 100000 in
set_option maxHeartbeats 4000000 in
theorem lexGaps_walk (s : ByteArray) (w : World) (ws : s.size ≤ maxLen) (hE : ErrV w) :
    Calls Tryd.prog 6 #[.string s] w fun e w' => e = .returned (.bool true) ∧ Below w.heap.size w w' := by
  have AW := Lib.hid (fun W (k : Below w.heap.size w W) => awake_any W (hE.below k))
  have B0 := Lib.hid (Below.refl w.heap.size w)
  by_cases hbig : 1300 < s.size
  · have h4 : (1300 : Int) < s.size := by omega
    go_enter Tryd.func6, Tryd.ntmps6
    go_wp2_with fail
    refine (AW.out _ B0.out).mono ?_; rintro e w1 ⟨rfl, hb⟩
    have B1 := Lib.hid hb
    clear hb
    go_wp2_with fail
    refine (AW.out _ B1.out).mono ?_; rintro e w2 ⟨rfl, hb⟩
    have B2 := Lib.hid (bel_then B1.out hb)
    clear hb
    go_wp2
    go_ret
    exact ⟨rfl, B2.out⟩
  · have h4 : (s.size : Int) ≤ 1300 := by omega
    have CR := Lib.hid (fun (t : ByteArray) (ht : t.size ≤ 4000) W (k : Below w.heap.size w W) => read_few t ht W (hE.below k))
    have HWM := Lib.hid (wide_more s)
    have HLK := Lib.hid (like_wide s.data.toList)
    have HWL : Hid ((wideL s.data.toList).length ≤ 4000) := Lib.hid (by have := wide_len s.data.toList; rw [size_list] at this; omega)
    have HTA : Hid (s.data.toList.take s.size = s.data.toList) := Lib.hid (by rw [← size_list]; exact List.take_length)
    go_enter Tryd.func6, Tryd.ntmps6
    go_wp2_with fail
    refine (AW.out _ B0.out).mono ?_; rintro e w1 ⟨rfl, hb⟩
    have B1 := Lib.hid hb
    clear hb
    go_wp2_with fail
    go_loop [3, 4] (fun t i => ∃ (k : Nat) (S : ByteArray), i = .int .i64 k ∧ t = .string S ∧ k ≤ s.size ∧ S.size ≤ 3 * k ∧ Hid (S = strB (wideL (s.data.toList.take k)))) (fun _ i => s.size - (intOf i).toNat)
    case atStart => exact ⟨0, ⟨#[]⟩, rfl, rfl, Nat.zero_le _, Nat.zero_le _, Lib.hid rfl⟩
    case round =>
      obtain ⟨k, S, rfl, rfl, hk, hSk, HS⟩ := hrel
      by_cases hlt : k < s.size
      · have hlti : (k : Int) < (s.size : Int) := by omega
        have hsl := run_slice_string (P := Tryd.prog) (w := w1) 9 s .i64 .i64 (k : Int) ((k + 1 : Nat) : Int) Tryd.underlying9 (by omega) (by omega) (by omega)
        simp only [Int.toNat_natCast, Int.natCast_add, Int.cast_ofNat_Int] at hsl
        have HE1 : (s.extract k (k + 1)).size ≤ 1 := by simp; omega
        have HY := Lib.hid (HWM.out k hlt S HS.out)
        have HZ1 : Hid ((S ++ s.extract k (k + 1)).size ≤ 3 * (k + 1)) := Lib.hid (by rw [ByteArray.size_append]; omega)
        have HZ2 : Hid ((S ++ ⟨#[32, 10, 32]⟩).size ≤ 3 * (k + 1)) := Lib.hid (by rw [ByteArray.size_append]; show S.size + 3 ≤ _; omega)
        clear HS
        cases q1 : ((s[k].toNat : Int) == 32)
        · cases q2 : ((s[k].toNat : Int) == 10)
          · have HN := Lib.hid (HY.out.2 (isG_no _ q1 q2))
            clear HY
            go_wp2_with fail
            go_round
            case rel => exact ⟨k + 1, _, by go_num, rfl, hlt, HZ1.out, HN⟩
            case measure => simp [intOf]; omega
          · have HN := Lib.hid (HY.out.1 (isG_yes _ (.inr q2)))
            clear HY
            go_wp2_with fail
            go_round
            case rel => exact ⟨k + 1, _, by go_num, rfl, hlt, HZ2.out, HN⟩
            case measure => simp [intOf]; omega
        · have HN := Lib.hid (HY.out.1 (isG_yes _ (.inl q1)))
          clear HY
          go_wp2_with fail
          go_round
          case rel => exact ⟨k + 1, _, by go_num, rfl, hlt, HZ2.out, HN⟩
          case measure => simp [intOf]; omega
      · obtain rfl : k = s.size := by omega
        have hS := HS.out
        rw [HTA.out] at hS
        have hSl : S.size ≤ 4000 := by rw [hS, strB_size]; exact HWL.out
        have hSt : S.data.toList = wideL s.data.toList := by rw [hS]; rfl
        have CT := fun W k => CR.out S hSl W k
        rw [hSt] at CT
        have CS := fun W k => CR.out s (by omega) W k
        unfold ReadQ at CT CS
        clear CR hS hSt HS HWM
        rcases HLK.out with ⟨ps, e1, e2⟩ | ⟨x, y, e1, e2⟩
        · rw [e1] at CT
          rw [e2] at CS
          simp only at CT CS
          clear e1 e2
          obtain ⟨n, hn⟩ : ∃ n, n = ps.length := ⟨_, rfl⟩
          rw [← hn] at CT CS
          replace CT := Lib.hid CT
          replace CS := Lib.hid CS
          have HL := Lib.hid hn
          clear hn HLK
          go_wp2_with fail
          refine (CS.out _ B1.out).mono ?_; rintro e w2 ⟨A, c, rfl, r, hb⟩
          have R := Lib.hid r
          have B2 := Lib.hid (bel_then B1.out hb)
          clear r hb
          go_wp2_with fail
          refine (CT.out _ B2.out).mono ?_; rintro e w3 ⟨D, d, rfl, r, hb⟩
          have R2 := Lib.hid (R.out.below hb)
          have R3 := Lib.hid r
          have B3 := Lib.hid (bel_then B2.out hb)
          have hnm : n ≤ 9223372036854775807 := by have := r.1; have := r.2.1; rw [← HL.out] at *; unfold maxLen at *; omega
          clear r hb
          go_wp2_with fail
          go_loopw [11] (fun i wr => ∃ k : Nat, i = .int .i64 k ∧ k ≤ n ∧ Hid (Below w3.heap.size w3 wr)) (fun i _ => n - (intOf i).toNat)
          case atStart => exact ⟨0, rfl, Nat.zero_le _, Lib.hid (Below.refl _ _)⟩
          case round =>
            obtain ⟨k, rfl, hk, HB⟩ := hrel
            by_cases hlt : k < n
            · obtain ⟨x, rfl, hxb, hc, ok⟩ := (R2.out.below HB.out).at k (by rw [← HL.out]; exact hlt)
              obtain ⟨y, rfl, hyb, hd, _⟩ := (R3.out.below HB.out).at k (by rw [← HL.out]; exact hlt)
              obtain ⟨c0, c1, c2⟩ := hc
              obtain ⟨d0, d1, d2⟩ := hd
              have hlti : (k : Int) < (n : Int) := by omega
              generalize ps.getD k pc0 = p at *
              generalize strB p.2.1 = T at *
              generalize p.1 = pk at *
              generalize p.2.2 = pv at *
              clear ok
              go_wp2_with fail
              go_quiet (fail)
              all_goals go_wp2
              all_goals go_roundw
              case rel => exact ⟨k + 1, by go_num, hlt, Lib.hid (below_drewN HB.out _)⟩
              case measure => simp [intOf]; omega
            · obtain rfl : k = n := by omega
              go_wp2
              go_ret
              exact ⟨by simp, bel_then B3.out HB.out⟩
        · rw [e1] at CT
          rw [e2] at CS
          simp only at CT CS
          replace CT := Lib.hid CT
          replace CS := Lib.hid CS
          clear e1 e2 HLK
          go_wp2_with fail
          refine (CS.out _ B1.out).mono ?_; rintro e w2 ⟨rfl, hb⟩
          have B2 := Lib.hid (bel_then B1.out hb)
          clear hb
          go_wp2_with fail
          refine (CT.out _ B2.out).mono ?_; rintro e w3 ⟨rfl, hb⟩
          have B3 := Lib.hid (bel_then B2.out hb)
          clear hb
          go_wp2_with fail
          go_loop [11] (fun i => i = .int .i64 0) (fun i => 0)
          case atStart => rfl
          case round =>
            subst hrel
            go_wp2
            go_ret
            exact ⟨by simp, B3.out⟩
end Go.Proofs.YtnlanaompaaijaaDoor.Mm
