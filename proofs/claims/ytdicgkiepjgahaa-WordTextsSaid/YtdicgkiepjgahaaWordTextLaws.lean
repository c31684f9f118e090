/- The statements WordSigns and WordTexts, walked: each returns true, and changes nothing that was there. -/
import Derived.Test.YtdicgkiepjgahaaTextWalks
import Derived.Test.YtdicgkiepjgahaaRefText
import Derived.Test.YtdicgkiepjgahaaRefAWalks
import Derived.Test.YtdicgkiepjgahaaWordLaws
import Derived.Deep.QuietTactic
import Derived.BigQuiet
import Derived.WalkSmall
namespace Go.Proofs.Ytdicgkiepjgahaa
open Go.ChangeShapes Go.WideShapes Go.ChangeAt Go.RowKit
set_option linter.unusedVariables false

theorem signs_n (a n x : Int) (s : ByteArray)
    (c1 : ∀ w, Calls Try.prog 12 #[.int .u32 a] w fun e w' => e = .returned (.int .i64 x) ∧ w = w')
    (c2 : ∀ w, Calls Try.prog 13 #[.int .u32 a] w fun e w' => e = .returned (.int .i64 x) ∧ w = w')
    (c3 : ∀ w, Calls Try.prog 14 #[.int .i64 x] w fun e w' => e = .returned (.int .u32 a) ∧ w = w')
    (c4 : ∀ w, Calls Try.prog 16 #[.int .u32 a] w fun e w' => e = .returned (.string s) ∧ Below w.heap.size w w')
    (c5 : ∀ w, Calls Try.prog 17 #[.int .i64 x] w fun e w' => e = .returned (.string s) ∧ Below w.heap.size w w')
    (w : World) :
    Calls Try.prog 4 #[.int .u32 a, .int .i64 n] w fun e w' => e = .returned (.bool true) ∧ Below w.heap.size w w' := by
  have C1 := Lib.hid c1; clear c1
  have C2 := Lib.hid c2; clear c2
  have C3 := Lib.hid c3; clear c3
  have C4 := Lib.hid c4; clear c4
  have C5 := Lib.hid c5; clear c5
  go_enter Try.func4, Try.ntmps4
  go_wp2_with (first | (go_at_call 9; refine (awake_any _).mono ?_; rintro e w' ⟨rfl, rfl⟩) | fail)
  refine (C1.out _).mono ?_; rintro e w' ⟨rfl, rfl⟩
  go_wp2_with fail
  refine (C2.out _).mono ?_; rintro e w' ⟨rfl, rfl⟩
  go_wp2_with fail
  refine (of_any _ _).mono ?_; rintro e w' ⟨rfl, rfl⟩
  go_wp2_with fail
  refine (rof_any _ _).mono ?_; rintro e w' ⟨rfl, rfl⟩
  go_wp2_with fail
  refine (C1.out _).mono ?_; rintro e w' ⟨rfl, rfl⟩
  go_wp2_with fail
  refine (C3.out _).mono ?_; rintro e w' ⟨rfl, rfl⟩
  go_wp2_with fail
  refine (C4.out _).mono ?_; rintro e w1 ⟨rfl, hb1⟩
  go_wp2_with fail
  refine (C2.out _).mono ?_; rintro e w' ⟨rfl, rfl⟩
  go_wp2_with fail
  refine (C5.out _).mono ?_; rintro e w2 ⟨rfl, hb2⟩
  go_wp2_with fail
  go_ret
  exact ⟨rfl, hb1.trans (hb2.mono hb1.size)⟩

theorem wordSigns_walk (a n : Int) (w : World) (wa : (Lit.int .u32 a).wf = true) (wn : (Lit.int .i64 n).wf = true) :
    Calls Try.prog 4 #[.int .u32 a, .int .i64 n] w fun e w' => e = .returned (.bool true) ∧ Below w.heap.size w w' := by
  obtain ⟨h0, h1⟩ := bounds_u32 wa
  have h1' : a < 4294967296 := by omega
  refine signs_n a n (wrap32 a) _ (sign_any a) (rsign_any a h0 h1') (fun w => ?_) (text_any a h0 h1') (rtext_any (wrap32 a) (wrap32_bd a)) w
  have c := of_any (wrap32 a) w
  rw [wrap32_mod, Int.emod_eq_of_lt h0 h1'] at c
  exact c

theorem quiet_eq {P : Program} {f : FuncId} {args : Array Value} {w : World} {n : Nat} {v : Value}
    (h : Calls P f args (w.drewN n) fun e w' => e = .returned v ∧ w.drewN n = w') : Calls P f args (w.drewN n) fun e w'' => e = .returned v ∧ ∃ m, w'' = w.drewN m :=
  h.mono fun _ _ ⟨he, hm⟩ => ⟨he, n, hm.symm⟩

theorem toList_data (s : ByteArray) : s.toList = s.data.toList := ByteArray.toList_eq s

theorem texts_n (a b : Int) (s t : ByteArray) (x : Int)
    (c1 : ∀ w, Calls Try.prog 16 #[.int .u32 a] w fun e w' => e = .returned (.string s) ∧ Below w.heap.size w w')
    (c2 : ∀ w, Calls Try.prog 16 #[.int .u32 b] w fun e w' => e = .returned (.string t) ∧ Below w.heap.size w w')
    (c3 : ∀ w, Calls Try.prog 12 #[.int .u32 a] w fun e w' => e = .returned (.int .i64 x) ∧ w = w')
    (h1 : 0 < s.size) (h2 : s.size ≤ 11) (hst : ((s.toList == t.toList) == (a == b)) = true)
    (hc : ((((s[0]'h1).toNat : Int) == 45) == decide (x < 0)) = true) (w : World) :
    Calls Try.prog 8 #[.int .u32 a, .int .u32 b] w fun e w' => e = .returned (.bool true) ∧ Below w.heap.size w w' := by
  have C1 := Lib.hid c1; clear c1
  have C2 := Lib.hid c2; clear c2
  have C3 := Lib.hid c3; clear c3
  go_enter Try.func8, Try.ntmps8
  go_wp2_with fail
  refine (C1.out _).mono ?_; rintro e w1 ⟨rfl, hb1⟩
  go_wp2_with fail
  refine (C2.out _).mono ?_; rintro e w2 ⟨rfl, hb2⟩
  go_wp2_with fail
  go_quiet ((first | (go_at_call 9; exact quiet_eq (awake_any _)) | (go_at_call 12; exact quiet_eq (C3.out _))))
  go_wp2
  go_ret
  exact ⟨ret_bool (by rw [decide_eq_true_iff]; omega), below_drewN (hb1.trans (hb2.mono hb1.size)) nq⟩

theorem wordTexts_walk (a b : Int) (w : World) (wa : (Lit.int .u32 a).wf = true) (wb : (Lit.int .u32 b).wf = true) :
    Calls Try.prog 8 #[.int .u32 a, .int .u32 b] w fun e w' => e = .returned (.bool true) ∧ Below w.heap.size w w' := by
  obtain ⟨h0, h1⟩ := bounds_u32 wa
  obtain ⟨h2, h3⟩ := bounds_u32 wb
  have h1' : a < 4294967296 := by omega
  have h3' : b < 4294967296 := by omega
  have hl := txtL_len (wrap32 a) (wrap32_bd a)
  have hsz : (strOfNums (txtL (wrap32 a))).size = (txtL (wrap32 a)).length := strOfNums_size _
  refine texts_n a b _ _ (wrap32 a) (text_any a h0 h1') (text_any b h2 h3') (sign_any a) (by omega) (by omega) ?_ ?_ w
  · rw [beq_iff_eq, Bool.eq_iff_iff, beq_iff_eq, beq_iff_eq]
    constructor
    · intro h
      have h' : (strOfNums (txtL (wrap32 a))).data.toList = (strOfNums (txtL (wrap32 b))).data.toList := by
        rw [show (strOfNums (txtL (wrap32 a))).data.toList = (strOfNums (txtL (wrap32 a))).toList from (toList_data _).symm, h, toList_data]
      rw [strOfNums_data, strOfNums_data] at h'
      have e := txtL_inj _ _ (strOfNums_inj _ _ (txtL_byte _) (txtL_byte _) h')
      unfold wrap32 at e; omega
    · intro h; rw [h]
  · rw [beq_iff_eq]
    have hg : ((strOfNums (txtL (wrap32 a)))[0]'(by omega)).toNat = ((txtL (wrap32 a))[0]'(by omega)).toNat % 256 := by
      show ((strOfNums (txtL (wrap32 a))).data[0]'_).toNat = _
      simp [strOfNums]
    have hb := txtL_byte (wrap32 a) _ (List.getElem_mem (show 0 < (txtL (wrap32 a)).length by omega))
    rw [hg, Bool.eq_iff_iff, beq_iff_eq, decide_eq_true_iff]
    obtain ⟨d, l, hd, d1, d2⟩ := decL_head (wrap32 a).natAbs
    by_cases hn : wrap32 a < 0
    · have e : txtL (wrap32 a) = 45 :: decL (wrap32 a).natAbs := by unfold txtL; rw [if_pos hn]
      have e0 : (txtL (wrap32 a))[0]'(by omega) = 45 := by simp [e]
      rw [e0]; simp [hn]
    · have e : txtL (wrap32 a) = d :: l := by unfold txtL; rw [if_neg hn, hd]
      have e0 : (txtL (wrap32 a))[0]'(by omega) = d := by simp [e]
      rw [e0]; omega
end Go.Proofs.Ytdicgkiepjgahaa
