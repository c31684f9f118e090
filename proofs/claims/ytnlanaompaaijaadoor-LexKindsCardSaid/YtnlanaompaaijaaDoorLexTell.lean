/- What a byte of a text is; where letters and digits end. -/
import Derived.Test.YtnlanaompaaijaaDoorLexNum
namespace Go.Proofs.YtnlanaompaaijaaDoor.Mm
open Go.ChangeShapes Go.WideShapes Go.ChangeAt Go.RowKit
set_option linter.unusedVariables false

def telF (h : Nat) : Value := .func (.func 12) #[] #[.pointer (some ⟨h, 0, none⟩)]
theorem size_list (s : ByteArray) : s.data.toList.length = s.size := by show _ = s.data.size; simp
theorem list_get (s : ByteArray) (k : Nat) (h : k < s.size) : s.data.toList.getD k 0 = s[k] := by
  have h2 : k < s.data.size := h
  have e : s.data[k]? = some (s.data[k]'h2) := Array.getElem?_eq_getElem h2
  simp only [List.getD, Array.getElem?_toList, e, Option.getD_some]
  rfl
theorem marks_str : (⟨#[123, 125, 91, 93, 40, 41, 59, 61, 60, 43, 45, 42, 47, 37]⟩ : ByteArray).data.toList = lmarks := rfl
theorem byte_back (c : UInt8) : ((c.toNat : Int)).toNat.toUInt8 = c := by simp
theorem tell_any (s : ByteArray) (h : Nat) (k : Nat) (w : World) (X : HasB w h 9 [.string s]) :
    Calls Tryd.prog 12 #[.int .i64 k, .pointer (some ⟨h, 0, none⟩)] w fun e w' => e = .returned (.int .i64 (tell s.data.toList k)) ∧ w = w' := by
  have d0 := X.cell 0
  simp only [List.getElem?_cons_zero] at d0
  clear X
  by_cases hk : k < s.size
  · have ht := tell_lt (l := s.data.toList) (k := k) (by rw [size_list]; exact hk)
    rw [list_get s k hk] at ht
    have CI := Lib.hid (fun (c : UInt8) W => sindex_any ⟨#[123, 125, 91, 93, 40, 41, 59, 61, 60, 43, 45, 42, 47, 37]⟩ (c.toNat : Int) W)
    have HT := Lib.hid ht
    have hki : (k : Int) < (s.size : Int) := by omega
    clear ht
    go_enter Tryd.func12, Tryd.ntmps12
    go_wp2_with (go_at_call 13; refine (CI.out s[k] _).mono ?_; rintro e w1 ⟨rfl, rfl⟩)
    all_goals
      go_ret
      refine ⟨ret_int ?_, rfl⟩
      rw [HT.out]
      clear HT CI
      generalize s[k] = c at *
      try simp only [beq_iff_eq, beq_eq_false_iff_ne, ne_eq] at *
      unfold cls isL isD isG isM lmarks
      simp only [decide_eq_true_eq]
      split
      · first | rfl | (exfalso; omega)
      · split
        · first | rfl | (exfalso; omega)
        · split
          · first | rfl | (exfalso; omega)
          · first | rfl | (exfalso; omega) | (rw [if_pos (by assumption)]; done) | (rw [if_neg (by omega)]; done)
  · have HT := Lib.hid (tell_ge (l := s.data.toList) (k := k) (by rw [size_list]; omega))
    have hki : (s.size : Int) ≤ (k : Int) := by omega
    go_enter Tryd.func12, Tryd.ntmps12
    go_wp2
    go_ret
    exact ⟨ret_int HT.out.symm, rfl⟩
theorem teller_any (s : ByteArray) (w : World) : Calls Tryd.prog 10 #[.string s] w fun e w' => e = .returned (telF w.heap.size) ∧ w' = w.alloc (.cells #[.string s] 9) := by
  go_enter Tryd.func10, Tryd.ntmps10
  go_wp2
  go_ret
  exact ⟨rfl, rfl⟩
theorem tell_run : ∀ (l : Bs) (j : Nat), (j < (runL l).length → tell l j = 1 ∨ tell l j = 2) ∧ (j = (runL l).length → tell l j ≠ 1 ∧ tell l j ≠ 2) := by
  intro l
  induction l with
  | nil =>
    intro j
    refine ⟨fun h => by simp [runL] at h, fun h => ?_⟩
    rw [tell_ge (by simp)]
    decide
  | cons c r ih =>
    intro j
    cases hc : alnum c
    · have e : runL (c :: r) = [] := by unfold runL; simp [hc]
      rw [e]
      refine ⟨fun h => by simp at h, fun h => ?_⟩
      obtain rfl : j = 0 := h
      rw [tell_0]
      unfold alnum at hc
      simp only [Bool.or_eq_false_iff] at hc
      constructor
      · intro e1; have := cls_1 e1; rw [hc.1] at this; cases this
      · intro e1; have := (cls_2 e1).2; rw [hc.2] at this; cases this
    · rw [head_run hc]
      cases j with
      | zero =>
        refine ⟨fun _ => ?_, fun h => by simp at h⟩
        rw [tell_0]
        unfold alnum at hc
        unfold cls
        cases hL : isL c
        · rw [hL] at hc
          simp only [Bool.false_or] at hc
          rw [hc]
          exact .inr rfl
        · exact .inl rfl
      | succ j =>
        obtain ⟨h1, h2⟩ := ih j
        have e : tell (c :: r) (j + 1) = tell r j := rfl
        rw [e, List.length_cons]
        exact ⟨fun h => h1 (by omega), fun h => h2 (by omega)⟩
set_option maxHeartbeats 1000000 in
theorem behind_any (s : ByteArray) (hs : s.size ≤ 100000) (h : Nat) (k R : Nat) (hk : k ≤ s.size) (hR : R = (runL (s.data.toList.drop k)).length) (w : World) (X : HasB w h 9 [.string s]) :
    Calls Tryd.prog 15 #[.int .i64 k, telF h] w fun e w' => e = .returned (.int .i64 ((k + R : Nat) : Int)) ∧ w = w' := by
  have CT := Lib.hid (fun j => tell_any s h j w X)
  have HT := Lib.hid (fun j => tell_run (s.data.toList.drop k) j)
  have hb : R ≤ s.size - k := by
    have := run_len (s.data.toList.drop k)
    rw [List.length_drop, size_list] at this
    omega
  have HR := Lib.hid hR
  clear X hR
  unfold telF
  go_enter Tryd.func15, Tryd.ntmps15
  go_wp2
  go_loop [0] (fun a => ∃ m : Nat, a = .int .i64 m ∧ k ≤ m ∧ m ≤ k + R) (fun a => (k + R) - (intOf a).toNat)
  case atStart => exact ⟨k, rfl, Nat.le_refl _, by omega⟩
  case round =>
    obtain ⟨m, rfl, hkm, hm⟩ := hrel
    have C1 := Lib.hid (CT.out m)
    have T := HT.out (m - k)
    rw [← HR.out, tell_drop, show k + (m - k) = m by omega] at T
    by_cases hlt : m < k + R
    · rcases T.1 (by omega) with ht | ht
      all_goals
        rw [ht] at C1
        clear T CT HT
        go_wp2_with ((with_reducible refine (C1.out).mono ?_); rintro e w1 ⟨rfl, rfl⟩)
        go_round
        case rel => exact ⟨m + 1, by go_num, by omega, by omega⟩
        case measure => simp [intOf]; omega
    · obtain ⟨t1, t2⟩ := T.2 (by omega)
      have e : (m : Int) = ((k + R : Nat) : Int) := by omega
      have HE := Lib.hid e
      clear e
      generalize tell s.data.toList m = q at *
      have t1 : (q == 1) = false := by simpa using t1
      have t2 : (q == 2) = false := by simpa using t2
      clear T CT HT
      go_wp2_with ((with_reducible refine (C1.out).mono ?_); rintro e w1 ⟨rfl, rfl⟩)
      go_ret
      exact ⟨ret_int HE.out, rfl⟩
end Go.Proofs.YtnlanaompaaijaaDoor.Mm
