/- The statement LexBack, walked. -/
import Derived.Test.YtnlanaompaaijaaDoorLexParts
namespace Go.Proofs.YtnlanaompaaijaaDoor.Mm
open Go.ChangeShapes Go.WideShapes Go.ChangeAt Go.RowKit
set_option linter.unusedVariables false

theorem gaps_more (g : Bs) (ps : List Pc) (k : Nat) (h : k < ps.length) (S : ByteArray) (hS : S = strB (gapsL g (ps.take k))) :
    (S ++ strB g) ++ strB (ps.getD k pc0).2.1 = strB (gapsL g (ps.take (k + 1))) := by
  subst hS
  have e : ps.take (k + 1) = ps.take k ++ [ps.getD k pc0] := by
    rw [List.take_succ_eq_append_getElem h]
    simp [List.getD, h]
  rw [e, gaps_snoc, strB_app, strB_app]
theorem take_ok {ps : List Pc} (h : ∀ p ∈ ps, WordOk p) (k : Nat) : ∀ p ∈ ps.take k, WordOk p := fun p hp => h p (List.mem_of_mem_take hp)
theorem take_getD (ps : List Pc) (k j : Nat) (h : j < k) : (ps.take k).getD j pc0 = ps.getD j pc0 := by simp [List.getD, h]
/-- the second half: what has been put together is read as these words -/
def backG (b : Bool) : Bs := if b then [10, 32, 32] else [32]
theorem backG_gap (b : Bool) : (∀ c ∈ backG b, isG c = true) ∧ backG b ≠ [] := by cases b <;> decide
theorem back_read {s : ByteArray} {ps : List Pc} (h : readL s.data.toList = .ok ps) (b : Bool) (k : Nat) : readL (gapsL (backG b) (ps.take k)) = .ok (ps.take k) :=
  read_back (backG_gap b).1 (backG_gap b).2 (take_ok (read_words h) k)
set_option maxRecDepth 100000 in
set_option maxHeartbeats 8000000 in
theorem back_ok (s : ByteArray) (b : Bool) (w : World) (hs : s.size ≤ 1500) (AW : Hid (awakeC w)) (CR : Hid (readC w)) (ps : List Pc) (e1 : readL s.data.toList = .ok ps) :
    Calls Tryd.prog 3 #[.string s, .bool b] w fun e w' => e = .returned (.bool true) ∧ Below w.heap.size w w' := by
  have C1 := fun W k => CR.out s (by omega) W k
  unfold ReadQ at C1
  rw [e1] at C1
  simp only at C1
  have hc1 := read_count e1
  rw [size_list] at hc1
  have GM := Lib.hid (gaps_more (backG b) ps)
  have BR := Lib.hid (back_read e1 b)
  have TG := Lib.hid (take_getD ps)
  have TL : Hid (∀ k, k ≤ ps.length → (ps.take k).length = k) := Lib.hid (fun k h => by rw [List.length_take]; omega)
  obtain ⟨n, hn⟩ : ∃ n, n = ps.length := ⟨_, rfl⟩
  rw [← hn] at C1 hc1
  have HL := Lib.hid hn
  replace C1 := Lib.hid C1
  have hsi : (s.size : Int) ≤ 1500 := by omega
  have hG : (strB (backG b)).size ≤ 3 := by cases b <;> decide
  have B0 := Lib.hid (Below.refl w.heap.size w)
  clear e1 hn
  cases b
  all_goals
    (first | (rw [show strB (backG false) = ⟨#[32]⟩ from rfl] at GM) | (rw [show strB (backG true) = ⟨#[10, 32, 32]⟩ from rfl] at GM))
    clear hG
    go_enter Tryd.func3, Tryd.ntmps3
    go_wp2_with fail
    refine (AW.out _ B0.out).mono ?_; rintro e w1 ⟨rfl, hb⟩
    have B1 := Lib.hid hb
    clear hb
    go_wp2_with fail
    refine (C1.out _ B1.out).mono ?_; rintro e w2 ⟨A, ca, rfl, r, hb⟩
    have R1 := Lib.hid r
    have B2 := Lib.hid (bel_then B1.out hb)
    clear hb r
    go_wp2_with fail
    go_loop [9, 10] (fun t i => ∃ (k : Nat) (S : ByteArray), i = .int .i64 k ∧ t = .string S ∧ k ≤ n ∧ S.size ≤ 3912 ∧ Hid (S = strB (gapsL (backG _) (ps.take k)))) (fun _ i => n - (intOf i).toNat)
    case atStart => exact ⟨0, ⟨#[]⟩, rfl, rfl, Nat.zero_le _, Nat.zero_le _, Lib.hid rfl⟩
    case round =>
      obtain ⟨k, S, rfl, rfl, hk, hSz, HS⟩ := hrel
      by_cases hgo : k < n ∧ S.size < 3900
      · obtain ⟨hlt, hsz⟩ := hgo
        obtain ⟨x, rfl, hxb, hx, ok⟩ := R1.out.at k (by rw [← HL.out]; exact hlt)
        have HY := Lib.hid (GM.out k (by rw [← HL.out]; exact hlt) S HS.out)
        have hlti : (k : Int) < (n : Int) := by omega
        have hszi : (S.size : Int) < 3900 := by omega
        have hT : (strB (ps.getD k pc0).2.1).size ≤ 10 := by rw [strB_size]; exact ok.top
        obtain ⟨c0, c1, c2⟩ := hx
        clear ok HS
        generalize ps.getD k pc0 = p at *
        generalize strB p.2.1 = T at *
        go_wp2_with fail
        go_round
        case rel => exact ⟨k + 1, _, by go_num, rfl, hlt, by rw [ByteArray.size_append, ByteArray.size_append]; first | (show S.size + 1 + T.size ≤ 3912; omega) | (show S.size + 3 + T.size ≤ 3912; omega), HY⟩
        case measure => simp [intOf]; omega
      · have CT := fun W k => CR.out S (by omega) W k
        have hSt := congrArg (fun x : ByteArray => x.data.toList) HS.out
        simp only [strB_toList] at hSt
        rw [hSt] at CT
        unfold ReadQ at CT
        rw [BR.out k] at CT
        simp only at CT
        rw [TL.out k (by rw [← HL.out]; exact hk)] at CT
        replace CT := Lib.hid CT
        have TK := Lib.hid (TL.out k (by rw [← HL.out]; exact hk))
        have hend : (k < n ∧ 3900 ≤ S.size) ∨ k = n := by omega
        clear HS hSt hgo
        have hkb : k ≤ 1500 := by omega
        have hend' : ((k : Int) < (n : Int) ∧ (3900 : Int) ≤ (S.size : Int)) ∨ ((n : Int) ≤ (k : Int) ∧ ((k : Int) == (n : Int)) = true) := by
          rcases hend with ⟨h1, h2⟩ | h
          · exact .inl ⟨by omega, by omega⟩
          · exact .inr ⟨by omega, by simp [h]⟩
        clear hend
        rcases hend' with ⟨hlti, hbigi⟩ | ⟨hlti, hkn⟩
        all_goals
          go_wp2_with fail
          refine (CT.out _ B2.out).mono ?_; rintro e w3 ⟨D, cd, rfl, r, hb⟩
          have R2 := Lib.hid (R1.out.below hb)
          have R3 := Lib.hid r
          have B3 := Lib.hid (bel_then B2.out hb)
          clear hb r
          go_wp2_with fail
          go_loopw [14] (fun i wr => ∃ j : Nat, i = .int .i64 j ∧ j ≤ k ∧ Hid (Below w3.heap.size w3 wr)) (fun i _ => k - (intOf i).toNat)
          case atStart => exact ⟨0, rfl, Nat.zero_le _, Lib.hid (Below.refl _ _)⟩
          case round =>
            obtain ⟨j, rfl, hj, HB⟩ := hrel
            by_cases hjk : j < k
            · obtain ⟨x, rfl, hxb, hc, ok⟩ := (R2.out.below HB.out).at j (by rw [← HL.out]; omega)
              obtain ⟨y, rfl, hyb, hd, _⟩ := (R3.out.below HB.out).at j (by rw [TK.out]; exact hjk)
              rw [TG.out k j hjk] at hd
              have hjki : (j : Int) < (k : Int) := by omega
              have d1 : decide ((n : Int) ≤ (j : Int)) = false := decide_eq_false (by omega)
              have d2 : decide (n ≤ j) = false := decide_eq_false (by omega)
              have hjn : j < n := by omega
              have hjni : (j : Int) < (n : Int) := by omega
              obtain ⟨c0, c1, c2⟩ := hc
              obtain ⟨d0, d1, d2⟩ := hd
              clear ok
              generalize ps.getD j pc0 = p at *
              generalize strB p.2.1 = T at *
              generalize p.1 = pk at *
              generalize p.2.2 = pv at *
              clear GM BR TG TL
              go_wp2_with fail
              go_quiet (fail)
              all_goals go_wp2
              all_goals go_roundw
              case rel => exact ⟨j + 1, by go_num, hjk, Lib.hid (below_drewN HB.out _)⟩
              case measure => simp [intOf]; omega
            · obtain rfl : j = k := by omega
              go_wp2
              all_goals go_ret
              all_goals exact ⟨by first | rfl | simp | (simp; omega), bel_then B3.out HB.out⟩
theorem lexBack_walk (s : ByteArray) (b : Bool) (w : World) (ws : s.size ≤ maxLen) (hE : ErrV w) :
    Calls Tryd.prog 3 #[.string s, .bool b] w fun e w' => e = .returned (.bool true) ∧ Below w.heap.size w w' := by
  have AW : Hid (awakeC w) := Lib.hid (fun W k => awake_any W (hE.below k))
  have CR : Hid (readC w) := Lib.hid (fun t ht W k => read_few t ht W (hE.below k))
  have B0 := Lib.hid (Below.refl w.heap.size w)
  by_cases hs : s.size ≤ 1500
  · cases e1 : readL s.data.toList with
    | ok ps => exact back_ok s b w hs AW CR ps e1
    | error n =>
      have h4 : (s.size : Int) ≤ 1500 := by omega
      have C1 := fun W k => CR.out s (by omega) W k
      unfold ReadQ at C1
      rw [e1] at C1
      simp only at C1
      replace C1 := Lib.hid C1
      clear e1
      go_enter Tryd.func3, Tryd.ntmps3
      go_wp2_with fail
      refine (AW.out _ B0.out).mono ?_; rintro e w1 ⟨rfl, hb⟩
      have B1 := Lib.hid hb
      clear hb
      go_wp2_with fail
      refine (C1.out _ B1.out).mono ?_; rintro e w2 ⟨rfl, hb⟩
      have B2 := Lib.hid (bel_then B1.out hb)
      clear hb
      go_wp2
      go_ret
      exact ⟨by simp, B2.out⟩
  · have h4 : (1500 : Int) < s.size := by omega
    go_enter Tryd.func3, Tryd.ntmps3
    go_wp2_with fail
    refine (AW.out _ B0.out).mono ?_; rintro e w1 ⟨rfl, hb⟩
    have B1 := Lib.hid hb
    clear hb
    go_wp2_with fail
    refine (AW.out _ B1.out).mono ?_; rintro e w2 ⟨rfl, hb⟩
    have B2 := Lib.hid (bel_then B1.out hb)
    clear hb
    go_wp2
    go_ret
    exact ⟨rfl, B2.out⟩
end Go.Proofs.YtnlanaompaaijaaDoor.Mm
