/- The word that begins at a place of a text. -/
import Derived.Test.YtnlanaompaaijaaDoorLexTell
namespace Go.Proofs.YtnlanaompaaijaaDoor.Mm
open Go.ChangeShapes Go.WideShapes Go.ChangeAt Go.RowKit
set_option linter.unusedVariables false

theorem ext_run (s : ByteArray) (k R : Nat) (hR : R = (runL (s.data.toList.drop k)).length) : (s.extract k (k + R)).data.toList = runL (s.data.toList.drop k) := by
  rw [run_pre, ← hR]
  simp [List.extract_eq_take_drop]
theorem ext_end (s : ByteArray) (k : Nat) : (s.extract k s.size).data.toList = s.data.toList.drop k := by
  simp [List.extract_eq_take_drop]
  rw [List.take_of_length_le]
  rw [List.length_drop, size_list]
  exact Nat.le_refl _
theorem run_pos {l : Bs} (h : tell l 0 = 1 ∨ tell l 0 = 2) : 0 < (runL l).length := by
  rcases Nat.eq_zero_or_pos (runL l).length with e | e
  · have := (tell_run l 0).2 e.symm
    rcases h with h | h
    · exact absurd h this.1
    · exact absurd h this.2
  · exact e
theorem optP_open (o : Option Pc) : ∃ k T v b, optP o = .tuple #[.agg #[.int .u8 k, .string T, .int .u32 v], .bool b] := ⟨_, _, _, _, rfl⟩
set_option maxHeartbeats 1000000 in
theorem word_any (s : ByteArray) (hs : s.size ≤ 100000) (h : Nat) (k : Nat) (hk : k < s.size) (w : World) (X : HasB w h 9 [.string s]) (hE : ErrV w) :
    Calls Tryd.prog 11 #[.string s, .int .i64 k, telF h] w fun e w' => e = .returned (optP (wordL (s.data.toList.drop k))) ∧ Below w.heap.size w w' := by
  have N0 := Lib.hid (nw_cells w)
  have B0 := Lib.hid (bel_al (Below.refl _ w) (.cells #[.int .u8 0, .string ⟨#[]⟩, .int .u32 0] 29))
  have X0 := X.below B0.out
  have E0 := hE.below B0.out
  have CT := Lib.hid (tell_any s h k _ X0)
  have ht0 : tell (s.data.toList.drop k) 0 = tell s.data.toList k := by rw [tell_drop]; rfl
  have hcases : tell s.data.toList k = 1 ∨ tell s.data.toList k = 2 ∨ tell s.data.toList k = 3 ∨ (tell s.data.toList k ≠ 1 ∧ tell s.data.toList k ≠ 2 ∧ tell s.data.toList k ≠ 3) := by omega
  rcases hcases with hq | hq | hq | ⟨q1, q2, q3⟩
  · obtain ⟨R, hR⟩ : ∃ R, R = (runL (s.data.toList.drop k)).length := ⟨_, rfl⟩
    have hRb : k + R ≤ s.size := by
      have := run_len (s.data.toList.drop k)
      rw [List.length_drop, size_list] at this
      omega
    have CB := behind_any s hs h k R (by omega) hR _ X0
    have hRp : 0 < R := by rw [hR]; exact run_pos (by rw [ht0]; omega)
    have CN := name_any (s.extract k (k + R)) (by simp; omega)
    rw [ext_run s k R hR] at CN
    have hv : Hid (wordL (s.data.toList.drop k) = nameL (runL (s.data.toList.drop k))) := Lib.hid (by unfold wordL; rw [ht0, hq]; rfl)
    rw [hq] at CT
    clear hR ht0 hq
    obtain ⟨m, hm⟩ : ∃ m, m = k + R := ⟨_, rfl⟩
    rw [← hm] at CB CN hRb
    have h1 : (k : Int) ≤ (m : Int) := by omega
    have h2 : (m : Int) ≤ (s.size : Int) := by omega
    clear hRp hm hRb
    generalize nameL (runL (s.data.toList.drop k)) = oo at *
    obtain ⟨qk, qT, qv, qb, ho⟩ := optP_open oo
    rw [ho] at CN
    have HO := Lib.hid ho
    replace CB := Lib.hid CB
    replace CN := Lib.hid CN
    replace E0 := Lib.hid E0
    clear X X0 hE ho
    unfold telF at CB
    unfold telF
    go_enter Tryd.func11, Tryd.ntmps11
    go_wp2_with fail
    refine (CT.out).mono ?_; rintro e w1 ⟨rfl, rfl⟩
    go_wp2_with fail
    refine (CB.out).mono ?_; rintro e w1 ⟨rfl, rfl⟩
    go_wp2_with fail
    refine (CN.out _).mono ?_; rintro e w2 ⟨rfl, hb⟩
    have B1 := Lib.hid (bel_then B0.out hb)
    have N1 := N0.out.below hb
    clear hb CT
    have c0 := N1.cell 0
    have c1 := N1.cell 1
    have c2 := N1.cell 2
    have f0 := N1.frozen 0
    have f1 := N1.frozen 1
    have f2 := N1.frozen 2
    simp only [List.getElem?_cons_zero, List.getElem?_cons_succ] at c0 c1 c2
    clear N1
    go_wp2
    exact bodyPost_ret (v := .tuple #[.agg #[.int .u8 qk, .string qT, .int .u32 qv], .bool qb]) (by simp [results, Tryd.results11, go_sem, c0, c1, c2]) rfl ⟨by rw [hv.out, HO.out], set3_bel (Nat.le_refl _) B1.out _ _ _⟩
  · obtain ⟨R, hR⟩ : ∃ R, R = (runL (s.data.toList.drop k)).length := ⟨_, rfl⟩
    have hRb : k + R ≤ s.size := by
      have := run_len (s.data.toList.drop k)
      rw [List.length_drop, size_list] at this
      omega
    have CB := behind_any s hs h k R (by omega) hR _ X0
    have hRp : 0 < R := by rw [hR]; exact run_pos (by rw [ht0]; omega)
    have CN := num_any (s.extract k (k + R)) (by simp; omega) (by simp; omega)
    rw [ext_run s k R hR] at CN
    have hv : Hid (wordL (s.data.toList.drop k) = numL (runL (s.data.toList.drop k))) := Lib.hid (by unfold wordL; rw [ht0, hq]; rfl)
    rw [hq] at CT
    clear hR ht0 hq
    obtain ⟨m, hm⟩ : ∃ m, m = k + R := ⟨_, rfl⟩
    rw [← hm] at CB CN hRb
    have h1 : (k : Int) ≤ (m : Int) := by omega
    have h2 : (m : Int) ≤ (s.size : Int) := by omega
    clear hRp hm hRb
    generalize numL (runL (s.data.toList.drop k)) = oo at *
    obtain ⟨qk, qT, qv, qb, ho⟩ := optP_open oo
    rw [ho] at CN
    have HO := Lib.hid ho
    replace CB := Lib.hid CB
    replace CN := Lib.hid CN
    replace E0 := Lib.hid E0
    clear X X0 hE ho
    unfold telF at CB
    unfold telF
    go_enter Tryd.func11, Tryd.ntmps11
    go_wp2_with fail
    refine (CT.out).mono ?_; rintro e w1 ⟨rfl, rfl⟩
    go_wp2_with fail
    refine (CB.out).mono ?_; rintro e w1 ⟨rfl, rfl⟩
    go_wp2_with fail
    refine (CN.out _ E0.out).mono ?_; rintro e w2 ⟨rfl, hb⟩
    have B1 := Lib.hid (bel_then B0.out hb)
    have N1 := N0.out.below hb
    clear hb CT
    have c0 := N1.cell 0
    have c1 := N1.cell 1
    have c2 := N1.cell 2
    have f0 := N1.frozen 0
    have f1 := N1.frozen 1
    have f2 := N1.frozen 2
    simp only [List.getElem?_cons_zero, List.getElem?_cons_succ] at c0 c1 c2
    clear N1
    go_wp2
    exact bodyPost_ret (v := .tuple #[.agg #[.int .u8 qk, .string qT, .int .u32 qv], .bool qb]) (by simp [results, Tryd.results11, go_sem, c0, c1, c2]) rfl ⟨by rw [hv.out, HO.out], set3_bel (Nat.le_refl _) B1.out _ _ _⟩
  · have CN := sign_any (s.extract k s.size) (by simp; omega) (by simp; omega)
    rw [ext_end] at CN
    have hv : Hid (wordL (s.data.toList.drop k) = some (signL (s.data.toList.drop k))) := Lib.hid (by unfold wordL; rw [ht0, hq]; rfl)
    rw [hq] at CT
    have h1 : (k : Int) ≤ (s.size : Int) := by omega
    clear ht0 hq
    generalize signL (s.data.toList.drop k) = oo at *
    obtain ⟨qk, qT, qv, ho⟩ : ∃ k T v, aggP oo = .agg #[.int .u8 k, .string T, .int .u32 v] := ⟨_, _, _, rfl⟩
    rw [ho] at CN
    have HO := Lib.hid ho
    replace CN := Lib.hid CN
    clear X X0 hE E0 ho
    unfold telF
    go_enter Tryd.func11, Tryd.ntmps11
    go_wp2_with fail
    refine (CT.out).mono ?_; rintro e w1 ⟨rfl, rfl⟩
    go_wp2_with fail
    refine (CN.out _).mono ?_; rintro e w2 ⟨rfl, hb⟩
    have B1 := Lib.hid (bel_then B0.out hb)
    have N1 := N0.out.below hb
    clear hb CT
    have c0 := N1.cell 0
    have c1 := N1.cell 1
    have c2 := N1.cell 2
    have f0 := N1.frozen 0
    have f1 := N1.frozen 1
    have f2 := N1.frozen 2
    simp only [List.getElem?_cons_zero, List.getElem?_cons_succ] at c0 c1 c2
    clear N1
    go_wp2
    exact bodyPost_ret (v := .tuple #[.agg #[.int .u8 qk, .string qT, .int .u32 qv], .bool true]) (by simp [results, Tryd.results11, go_sem, c0, c1, c2]) rfl ⟨by rw [hv.out]; unfold optP; simp only [Option.getD_some, Option.isSome_some]; rw [HO.out], set3_bel (Nat.le_refl _) B1.out _ _ _⟩
  · have hv : Hid (wordL (s.data.toList.drop k) = none) := Lib.hid (by unfold wordL; rw [ht0, if_neg q1, if_neg q2, if_neg q3])
    have c0 := N0.out.cell 0
    have c1 := N0.out.cell 1
    have c2 := N0.out.cell 2
    have f0 := N0.out.frozen 0
    have f1 := N0.out.frozen 1
    have f2 := N0.out.frozen 2
    simp only [List.getElem?_cons_zero, List.getElem?_cons_succ] at c0 c1 c2
    clear X X0 hE E0 ht0
    generalize tell s.data.toList k = q at *
    have q1 : (q == 1) = false := by simpa using q1
    have q2 : (q == 2) = false := by simpa using q2
    have q3 : (q == 3) = false := by simpa using q3
    unfold telF
    go_enter Tryd.func11, Tryd.ntmps11
    go_wp2_with fail
    refine (CT.out).mono ?_; rintro e w1 ⟨rfl, rfl⟩
    go_wp2
    exact bodyPost_ret (v := .tuple #[.agg #[.int .u8 0, .string ⟨#[]⟩, .int .u32 0], .bool false]) (by simp [results, Tryd.results11, go_sem, c0, c1, c2]) rfl ⟨by rw [hv.out]; rfl, B0.out⟩
end Go.Proofs.YtnlanaompaaijaaDoor.Mm
