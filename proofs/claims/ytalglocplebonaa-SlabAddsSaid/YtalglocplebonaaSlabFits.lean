/- Package slab as it landed: sizes, what lies behind what, where a region may lie, which are apart. -/
import Derived.Test.YtalglocplebonaaSlabRef
namespace Go.Proofs.Ytalglocplebonaa.Mm
open Go.ChangeShapes Go.WideShapes Go.ChangeAt Go.RowKit
set_option linter.unusedVariables false
set_option linter.unusedSimpArgs false

theorem may_not (s : Int) (h : ¬ (128 ≤ s ∧ s ≤ 16384)) (w : World) : Calls Try.prog 28 #[.int .i64 s] w fun e w' => e = .returned (.bool false) ∧ w = w' := by
  by_cases h1 : 128 ≤ s
  · have h2 : ¬ s ≤ 16384 := by omega
    go_enter Try.func28, Try.ntmps28
    go_wp2
    go_ret
    exact ⟨rfl, rfl⟩
  · go_enter Try.func28, Try.ntmps28
    go_wp2
    go_ret
    exact ⟨rfl, rfl⟩
theorem and_pow {s k : Nat} (h1 : 2 ^ k < s) (h2 : s < 2 ^ (k + 1)) : s &&& (s - 1) ≠ 0 := by
  intro h
  have b1 : s.testBit k = true := Nat.testBit_of_two_pow_le_and_two_pow_add_one_gt (by omega) h2
  have b2 : (s - 1).testBit k = true := Nat.testBit_of_two_pow_le_and_two_pow_add_one_gt (by omega) (by omega)
  have : (s &&& (s - 1)).testBit k = true := by rw [Nat.testBit_and, b1, b2]; rfl
  rw [h, Nat.zero_testBit] at this
  cases this
theorem and_pow0 (k : Nat) : 2 ^ k &&& (2 ^ k - 1) = 0 := by
  rw [Nat.and_two_pow_sub_one_eq_mod, Nat.mod_self]
theorem and_i64 (s : Nat) (h : s ≤ 16384) (h0 : 0 < s) : bits .and .i64 (s : Int) ((s : Int) - 1) = ((s &&& (s - 1) : Nat) : Int) := by
  show IntKind.i64.wrap ((BitVec.ofInt 64 (s : Int) &&& BitVec.ofInt 64 ((s : Int) - 1)).toNat : Int) = _
  have e1 : BitVec.ofInt 64 (s : Int) = BitVec.ofNat 64 s := by
    rw [← BitVec.ofInt_natCast]
  have e2 : BitVec.ofInt 64 ((s : Int) - 1) = BitVec.ofNat 64 (s - 1) := by
    rw [← BitVec.ofInt_natCast]; congr 1; omega
  rw [e1, e2, BitVec.toNat_and, BitVec.toNat_ofNat, BitVec.toNat_ofNat, Nat.mod_eq_of_lt (by omega), Nat.mod_eq_of_lt (by omega)]
  have : s &&& (s - 1) ≤ s := Nat.and_le_left
  exact IntWalk.i64_in _ (by omega)
theorem may_in (s : Nat) (h1 : 128 ≤ s) (h2 : s ≤ 16384) (q : Bool) (hq : (((s &&& (s - 1) : Nat) : Int) == 0) = q) (w : World) : Calls Try.prog 28 #[.int .i64 s] w fun e w' => e = .returned (.bool q) ∧ w = w' := by
  have ha := and_i64 s h2 (by omega)
  generalize ((s &&& (s - 1) : Nat) : Int) = z at *
  have w1 : IntKind.i64.wrap ((s : Int) - 1) = (s : Int) - 1 := IntWalk.i64_in _ (by omega)
  go_enter Try.func28, Try.ntmps28
  go_wp2
  go_ret
  exact ⟨rfl, rfl⟩
theorem pow_and (s : Nat) (h1 : 128 ≤ s) (h2 : s ≤ 16384) : (((s &&& (s - 1) : Nat) : Int) == 0) = powS s := by
  have hc : s = 128 ∨ s = 256 ∨ s = 512 ∨ s = 1024 ∨ s = 2048 ∨ s = 4096 ∨ s = 8192 ∨ s = 16384 ∨ (powS s = false ∧ ∃ k, 2 ^ k < s ∧ s < 2 ^ (k + 1)) := by
    have : s = 128 ∨ s = 256 ∨ s = 512 ∨ s = 1024 ∨ s = 2048 ∨ s = 4096 ∨ s = 8192 ∨ s = 16384 ∨ (s ≠ 128 ∧ s ≠ 256 ∧ s ≠ 512 ∧ s ≠ 1024 ∧ s ≠ 2048 ∧ s ≠ 4096 ∧ s ≠ 8192 ∧ s ≠ 16384) := by omega
    rcases this with h | h | h | h | h | h | h | h | ⟨n1, n2, n3, n4, n5, n6, n7, n8⟩
    · exact .inl h
    · exact .inr (.inl h)
    · exact .inr (.inr (.inl h))
    · exact .inr (.inr (.inr (.inl h)))
    · exact .inr (.inr (.inr (.inr (.inl h))))
    · exact .inr (.inr (.inr (.inr (.inr (.inl h)))))
    · exact .inr (.inr (.inr (.inr (.inr (.inr (.inl h))))))
    · exact .inr (.inr (.inr (.inr (.inr (.inr (.inr (.inl h)))))))
    · refine .inr (.inr (.inr (.inr (.inr (.inr (.inr (.inr ⟨?_, ?_⟩)))))))
      · unfold powS; simp; omega
      · have : (128 < s ∧ s < 256) ∨ (256 < s ∧ s < 512) ∨ (512 < s ∧ s < 1024) ∨ (1024 < s ∧ s < 2048) ∨ (2048 < s ∧ s < 4096) ∨ (4096 < s ∧ s < 8192) ∨ (8192 < s ∧ s < 16384) := by omega
        rcases this with h | h | h | h | h | h | h
        · exact ⟨7, h⟩
        · exact ⟨8, h⟩
        · exact ⟨9, h⟩
        · exact ⟨10, h⟩
        · exact ⟨11, h⟩
        · exact ⟨12, h⟩
        · exact ⟨13, h⟩
  rcases hc with rfl | rfl | rfl | rfl | rfl | rfl | rfl | rfl | ⟨hp, k, h3, h4⟩
  · exact by rw [and_pow0 7]; rfl
  · exact by rw [and_pow0 8]; rfl
  · exact by rw [and_pow0 9]; rfl
  · exact by rw [and_pow0 10]; rfl
  · exact by rw [and_pow0 11]; rfl
  · exact by rw [and_pow0 12]; rfl
  · exact by rw [and_pow0 13]; rfl
  · exact by rw [and_pow0 14]; rfl
  · have := and_pow h3 h4
    rw [hp]
    generalize s &&& (s - 1) = z at *
    simp; omega
theorem mayBe_s (s : Int) (w : World) : Calls Try.prog 28 #[.int .i64 s] w fun e w' => e = .returned (.bool (powS s)) ∧ w = w' := by
  by_cases h : 128 ≤ s ∧ s ≤ 16384
  · obtain ⟨n, rfl⟩ := Int.eq_ofNat_of_zero_le (show (0 : Int) ≤ s by omega)
    exact may_in n (by omega) (by omega) _ (pow_and n (by omega) (by omega)) w
  · have : powS s = false := by unfold powS; simp; omega
    rw [this]
    exact may_not s h w
theorem fits_0 (s : Int) (w : World) : Calls Try.prog 26 #[.int .i64 0, .int .i64 s] w fun e w' => e = .returned (.bool (powS s)) ∧ w = w' := by
  have M := mayBe_s s w
  rcases Bool.eq_false_or_eq_true (powS s) with h | h
  · obtain ⟨h1, h2⟩ := powS_pos h
    have hd : s.tdiv 2 = s / 2 := Int.tdiv_eq_ediv_of_nonneg (by omega)
    have hw1 : IntKind.i64.wrap (s / 2) = s / 2 := IntWalk.i64_in _ (by omega)
    have hw2 : IntKind.i64.wrap (s / 2 - 32) = s / 2 - 32 := IntWalk.i64_in _ (by omega)
    have hd2 : decide (32 ≤ s / 2) = true := by simp; omega
    rw [h] at M ⊢; clear h
    replace M := Lib.hid M
    generalize s / 2 = d at *
    go_enter Try.func26, Try.ntmps26
    go_wp2_with fail
    refine M.out.mono ?_; rintro e w2 ⟨rfl, rfl⟩
    go_wp2
    go_ret
    exact ⟨rfl, rfl⟩
  · rw [h] at M ⊢; clear h
    replace M := Lib.hid M
    go_enter Try.func26, Try.ntmps26
    go_wp2_with fail
    refine M.out.mono ?_; rintro e w2 ⟨rfl, rfl⟩
    go_wp2
    go_ret
    exact ⟨rfl, rfl⟩
theorem smay_any (s : Int) (w : World) : Calls Try.prog 20 #[.int .i64 s] w fun e w' => e = .returned (.bool (powS s)) ∧ w = w' := by
  have M := Lib.hid (fits_0 s)
  generalize powS s = q at *
  go_enter Try.func20, Try.ntmps20
  go_wp2_with fail
  refine (M.out _).mono ?_; rintro e w2 ⟨rfl, rfl⟩
  go_wp2
  go_ret
  exact ⟨rfl, rfl⟩
theorem w64 {x : Int} (h : -9223372036854775808 ≤ x ∧ x ≤ 9223372036854775807) : wrap64 x = x := by unfold wrap64; omega
theorem and3 (x : Int) (h : -1000000 ≤ x ∧ x ≤ 1000000) : bits .and .i64 x 3 = x % 4 := by
  show IntKind.i64.wrap ((BitVec.ofInt 64 x &&& BitVec.ofInt 64 3).toNat : Int) = _
  have e2 : BitVec.ofInt 64 3 = BitVec.ofNat 64 3 := rfl
  rw [e2, BitVec.toNat_and, BitVec.toNat_ofNat, show 3 % 2 ^ 64 = 2 ^ 2 - 1 by decide, Nat.and_two_pow_sub_one_eq_mod, BitVec.toNat_ofInt]
  have : (((x % ((2 : Nat) ^ 64 : Nat)).toNat % 2 ^ 2 : Nat) : Int) = x % 4 := by omega
  rw [this]
  exact IntWalk.i64_in _ (by omega)
theorem behind_any (a b : Rg) (ha : -100000 ≤ a.1 ∧ a.1 ≤ 100000 ∧ 0 ≤ a.2 ∧ a.2 ≤ 100000) (hb : -100000 ≤ b.1 ∧ b.1 ≤ 100000 ∧ 0 ≤ b.2 ∧ b.2 ≤ 100000) (w : World) :
    Calls Try.prog 22 #[.agg #[.int .i64 a.1, .int .i64 a.2], .agg #[.int .i64 b.1, .int .i64 b.2]] w fun e w' => e = .returned (.bool (decide (a.1 + a.2 + 64 ≤ b.1))) ∧ Below w.heap.size w w' := by
  obtain ⟨a0, a1⟩ := a
  obtain ⟨b0, b1⟩ := b
  simp only at ha hb ⊢
  have e1 := and3 a0 (by omega)
  have e2 := and3 a1 (by omega)
  have e3 := and3 b0 (by omega)
  have hd := Lib.hid (show decide (16 ≤ b0 / 4 - a0 / 4 - a1 / 4 + (b0 % 4 - a0 % 4 - a1 % 4) / 4) = decide (a0 + a1 + 64 ≤ b0) from decide_eq_decide.2 (by omega))
  have w1 : wrap64 (b0 % 4 - a0 % 4) = b0 % 4 - a0 % 4 := w64 (by omega)
  have w2 : wrap64 (b0 % 4 - a0 % 4 - a1 % 4) = b0 % 4 - a0 % 4 - a1 % 4 := w64 (by omega)
  have w3 : wrap64 (b0 / 4 - a0 / 4 - a1 / 4 + (b0 % 4 - a0 % 4 - a1 % 4) / 4) = b0 / 4 - a0 / 4 - a1 / 4 + (b0 % 4 - a0 % 4 - a1 % 4) / 4 := w64 (by omega)
  go_enter Try.func22, Try.ntmps22
  go_wp2
  go_ret
  refine ⟨ret_bool ?_, bel_al (bel_al (Below.refl _ _) _) _⟩
  exact hd.out
theorem apart_code : ApartC := by
  intro a b ha hb w
  have C1 := Lib.hid (fun w => behind_any a b ha hb w)
  have C2 := Lib.hid (fun w => behind_any b a hb ha w)
  unfold apartE
  obtain ⟨a0, a1⟩ := a
  obtain ⟨b0, b1⟩ := b
  simp only at C1 C2 ⊢
  clear ha hb
  generalize decide (a0 + a1 + 64 ≤ b0) = q1 at *
  generalize decide (b0 + b1 + 64 ≤ a0) = q2 at *
  have N0 := HasB.new w 26 [.int .i64 a0, .int .i64 a1]
  have N1 := HasB.new (w.alloc (.cells #[.int .i64 a0, .int .i64 a1] 26)) 26 [.int .i64 b0, .int .i64 b1]
  have P0 := HasB.below N0 (bel_al (Below.refl _ _) (.cells #[.int .i64 b0, .int .i64 b1] 26))
  have hs : (w.alloc (.cells #[.int .i64 a0, .int .i64 a1] 26)).heap.size = w.heap.size + 1 := Array.size_push _
  have BB := Lib.hid (bel_al (bel_al (Below.refl _ w) (.cells #[.int .i64 a0, .int .i64 a1] 26)) (.cells #[.int .i64 b0, .int .i64 b1] 26))
  rw [hs] at N1
  obtain ⟨W, hW⟩ : ∃ W, (w.alloc (.cells #[.int .i64 a0, .int .i64 a1] 26)).alloc (.cells #[.int .i64 b0, .int .i64 b1] 26) = W := ⟨_, rfl⟩
  replace N1 := Lib.hid (show HasB W (w.heap.size + 1) 26 [.int .i64 b0, .int .i64 b1] from hW ▸ N1)
  replace P0 := Lib.hid (show HasB W w.heap.size 26 [.int .i64 a0, .int .i64 a1] from hW ▸ P0)
  rw [hW] at BB
  clear N0
  have c0 := P0.out.cell 0
  have c1 := P0.out.cell 1
  have d0 := N1.out.cell 0
  have d1 := N1.out.cell 1
  simp only [List.getElem?_cons_succ, List.getElem?_cons_zero] at c0 c1 d0 d1
  go_enter Try.func18, Try.ntmps18
  go_wp2_with fail
  refine (C1.out _).mono ?_; rintro e w2 ⟨rfl, hb⟩
  have B2 := Lib.hid (bel_then BB.out hb)
  replace P0 := Lib.hid (P0.out.below hb)
  replace N1 := Lib.hid (N1.out.below hb)
  clear hb c0 c1 d0 d1
  have c0 := P0.out.cell 0
  have c1 := P0.out.cell 1
  have d0 := N1.out.cell 0
  have d1 := N1.out.cell 1
  simp only [List.getElem?_cons_succ, List.getElem?_cons_zero] at c0 c1 d0 d1
  cases q1
  · go_wp2_with fail
    refine (C2.out _).mono ?_; rintro e w3 ⟨rfl, hb⟩
    have B3 := Lib.hid (bel_then B2.out hb)
    clear hb
    go_wp2
    go_ret
    exact ⟨rfl, B3.out⟩
  · go_wp2
    go_ret
    exact ⟨rfl, B2.out⟩
theorem lies_any (x : Rg) (n : Int) (hx : rgWf x) (hn : 0 ≤ n ∧ n ≤ 65536) (w : World) :
    Calls Try.prog 21 #[.agg #[.int .i64 x.1, .int .i64 x.2], .int .i64 n] w fun e w' => e = .returned (.bool (regB n x)) ∧ Below w.heap.size w w' := by
  obtain ⟨b, s⟩ := x
  unfold regB rgWf at *
  simp only at hx ⊢
  have M := smay_any s
  have B0 := Lib.hid (bel_al (Below.refl _ w) (.cells #[.int .i64 b, .int .i64 s] 26))
  rcases Bool.eq_false_or_eq_true (powS s) with h | h
  · obtain ⟨h1, h2⟩ := powS_pos h
    rw [h] at M ⊢; clear h
    replace M := Lib.hid M
    by_cases k1 : 0 < b
    · have htm : b.tmod s = b % s := Int.tmod_eq_emod_of_nonneg (by omega)
      have hz : (s == 0) = false := by simp; omega
      have e0 := Int.emod_nonneg b (by omega : s ≠ 0)
      have e1 := Int.emod_lt_of_pos b (by omega : 0 < s)
      have hsb : b % s = 0 → s ≤ b := fun h => by
        refine Int.not_lt.1 fun q => ?_
        rw [Int.emod_eq_of_lt (by omega) q] at h; omega
      generalize hd : b % s = d at *
      have w1 : wrap64 (n - 64 - s) = n - 64 - s := w64 (by omega)
      by_cases k3 : d = 0
      · subst k3
        have hs2 := hsb rfl
        have e : (true && decide (s ≤ b) && decide (True) && decide (b + s + 64 ≤ n)) = decide (b ≤ n - 64 - s) := by
          rw [decide_eq_true hs2]; simp only [decide_true, Bool.true_and]; exact decide_eq_decide.2 (by omega)
        have E := Lib.hid e
        clear hsb e
        go_enter Try.func21, Try.ntmps21
        go_wp2_with fail
        refine (M.out _).mono ?_; rintro e w2 ⟨rfl, rfl⟩
        go_wp2
        go_ret
        exact ⟨ret_bool (by simpa using E.out.symm), B0.out⟩
      · have k3' : (d == 0) = false := by simpa using k3
        have e : (true && decide (s ≤ b) && decide (d = 0) && decide (b + s + 64 ≤ n)) = false := by simp [k3]
        rw [e]; clear e hsb
        go_enter Try.func21, Try.ntmps21
        go_wp2_with fail
        refine (M.out _).mono ?_; rintro e w2 ⟨rfl, rfl⟩
        go_wp2
        go_ret
        exact ⟨rfl, B0.out⟩
    · have e : (true && decide (s ≤ b) && decide (b % s = 0) && decide (b + s + 64 ≤ n)) = false := by rw [decide_eq_false (by omega : ¬ s ≤ b)]; simp
      rw [e]; clear e
      go_enter Try.func21, Try.ntmps21
      go_wp2_with fail
      refine (M.out _).mono ?_; rintro e w2 ⟨rfl, rfl⟩
      go_wp2
      go_ret
      exact ⟨rfl, B0.out⟩
  · rw [h] at M ⊢; clear h
    replace M := Lib.hid M
    go_enter Try.func21, Try.ntmps21
    go_wp2_with fail
    refine (M.out _).mono ?_; rintro e w2 ⟨rfl, rfl⟩
    go_wp2
    go_ret
    exact ⟨rfl, B0.out⟩
end Go.Proofs.Ytalglocplebonaa.Mm
