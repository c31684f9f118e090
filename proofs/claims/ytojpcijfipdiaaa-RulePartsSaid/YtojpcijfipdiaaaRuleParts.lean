/- The statement RuleParts, walked. -/
import Derived.Test.YtojpcijfipdiaaaRuleAwake
import Derived.Test.YtojpcijfipdiaaaScanParts
namespace Go.Proofs.Ytojpcijfipdiaaa.Mm
open Go.ChangeShapes Go.WideShapes Go.ChangeAt Go.RowKit
set_option linter.unusedVariables false

set_option maxHeartbeats 2000000 in
theorem rparts_skip (A B : Option Addr) (c d n m : Nat) (hn : n ≤ maxLen) (hm : m ≤ maxLen) (h : ¬ (n ≤ 2000 ∧ m ≤ 2000 ∧ n % 32 = 0 ∧ m % 32 = 0 ∧ n ≠ 0 ∧ m ≠ 0)) (w : World) :
    Calls Try.prog 6 #[.slice A n c, .slice B m d] w fun e w' => e = .returned (.bool true) ∧ Below w.heap.size w w' := by
  unfold maxLen at hn hm
  have hc : 2000 < n ∨ (n ≤ 2000 ∧ 2000 < m) ∨ (n ≤ 2000 ∧ m ≤ 2000 ∧ ((n : Int) % 32 != 0) = true) ∨ (n ≤ 2000 ∧ m ≤ 2000 ∧ ((n : Int) % 32 != 0) = false ∧ ((m : Int) % 32 != 0) = true) ∨
      (n ≤ 2000 ∧ m ≤ 2000 ∧ ((n : Int) % 32 != 0) = false ∧ ((m : Int) % 32 != 0) = false ∧ ((n : Int) == 0) = true) ∨
      (n ≤ 2000 ∧ m ≤ 2000 ∧ ((n : Int) % 32 != 0) = false ∧ ((m : Int) % 32 != 0) = false ∧ ((n : Int) == 0) = false ∧ ((m : Int) == 0) = true) := by
    simp only [bne_iff_ne, ne_eq, beq_iff_eq, bne_eq_false_iff_eq, beq_eq_false_iff_ne]
    omega
  clear h
  rcases hc with h | ⟨h, h1⟩ | ⟨h, h1, h2⟩ | ⟨h, h1, h2, h3⟩ | ⟨h, h1, h2, h3, h4⟩ | ⟨h, h1, h2, h3, h4, h5⟩
  all_goals
    go_enter Try.func6, Try.ntmps6
    go_wp2_with fail
    refine (awake_any _).mono ?_; rintro e w1 ⟨rfl, hb1⟩
    have B1 := Lib.hid hb1; clear hb1
    go_wp2_with fail
    refine (awake_any _).mono ?_; rintro e w2 ⟨rfl, hb2⟩
    have B2 := Lib.hid (bel_then B1.out hb2); clear hb2
    go_wp2_with fail
    go_ret
    exact ⟨rfl, B2.out⟩

theorem sec_cnt {code : List Int} (hb : Go.Proofs.Ytojpcijfipdiaaa.Bytes code) : (secL code).length ≤ 4096 := by
  unfold secL
  split
  · exact Nat.le_trans (sec_len _) (scanL_len hb)
  · exact Nat.zero_le _
theorem Seconds_some (A : Option Addr) (cap n : Nat) (code : List Int) (hn : code.length = n) (w : World) (r : RowAt w A cap code) :
    Calls Try.prog 8 #[.slice A n cap] w fun e w' => ∃ m q, e = .returned (.tuple #[.map m, .int .i64 q]) ∧ Below w.heap.size w w' := by
  by_cases hE : ruleE code = 0
  · refine (Seconds_yes A cap n code hn hE w r).mono ?_
    rintro e w' ⟨g, rfl, _, _, hb⟩
    exact ⟨_, _, rfl, hb⟩
  · refine (Seconds_no A cap n code hn hE w r).mono ?_
    rintro e w' ⟨rfl, hb⟩
    exact ⟨_, _, rfl, hb⟩

set_option maxHeartbeats 2000000 in
theorem rparts_yes (A B : Option Addr) (c d n m : Nat) (a b : List Int) (ha : a.length = n) (hb : b.length = m) (h1 : n ≤ 2000) (h2 : m ≤ 2000) (h3 : n % 32 = 0) (h4 : m % 32 = 0) (h5 : n ≠ 0) (h6 : m ≠ 0)
    (e1 : ruleE a = 0) (e2 : ruleE b = 0) (e3 : ruleE (a ++ b) = 0) (hl : (secL (a ++ b)).length = (secL a).length + (secL b).length) (w : World) (ra : RowAt w A c a) (rb : RowAt w B d b) :
    Calls Try.prog 6 #[.slice A n c, .slice B m d] w fun e w' => e = .returned (.bool true) ∧ Below w.heap.size w w' := by
  have RA := Lib.hid ra
  have RB := Lib.hid rb
  have HA := Lib.hid ha
  have HB := Lib.hid hb
  have K1 := Lib.hid (fun w' (k : Below w.heap.size w w') => Keeps_any A c n a ha w' (ra.below k))
  have K2 := Lib.hid (fun w' (k : Below w.heap.size w w') => Keeps_any B d m b hb w' (rb.below k))
  have K3 := Lib.hid (fun w' A' c' (k : RowAt w' A' c' (a ++ b)) => Keeps_any A' c' (n + m) (a ++ b) (by rw [List.length_append, ha, hb]) w' k)
  have C1 := Lib.hid (fun w' (k : Below w.heap.size w w') => Seconds_yes A c n a ha e1 w' (ra.below k))
  have C2 := Lib.hid (fun w' (k : Below w.heap.size w w') => Seconds_yes B d m b hb e2 w' (rb.below k))
  have C3 := Lib.hid (fun w' A' c' (k : RowAt w' A' c' (a ++ b)) => Seconds_yes A' c' (n + m) (a ++ b) (by rw [List.length_append, ha, hb]) e3 w' k)
  rw [e1] at K1
  rw [e2] at K2
  rw [e3] at K3
  have hx : (secL a).length ≤ 4096 := sec_cnt ra.2.2.1
  have hy : (secL b).length ≤ 4096 := sec_cnt rb.2.2.1
  have HL := Lib.hid hl
  clear ha hb ra rb e1 e2 e3 hl
  have k3 : ((n : Int) % 32 != 0) = false := by rw [bne_eq_false_iff_eq]; omega
  have k4 : ((m : Int) % 32 != 0) = false := by rw [bne_eq_false_iff_eq]; omega
  have k5 : ((n : Int) == 0) = false := by rw [beq_eq_false_iff_ne]; omega
  have k6 : ((m : Int) == 0) = false := by rw [beq_eq_false_iff_ne]; omega
  clear h3 h4 h5 h6
  go_enter Try.func6, Try.ntmps6
  go_wp2_with fail
  refine (awake_any _).mono ?_; rintro e w1 ⟨rfl, hb1⟩
  have B1 := Lib.hid hb1; clear hb1
  go_wp2_with fail
  refine (K1.out w1 B1.out).mono ?_; rintro e w2 ⟨rfl, hb2⟩
  have B2 := Lib.hid (bel_then B1.out hb2); clear hb2 k3 k4 k5 k6
  go_wp2_with fail
  refine (K2.out w2 B2.out).mono ?_; rintro e w3 ⟨rfl, hb3⟩
  have B3 := Lib.hid (bel_then B2.out hb3); clear hb3 K1 K2
  have D3 := Lib.hid (bel_al B3.out (.cells #[] 5))
  go_wp2_with (first
      | (at_builtin
         refine append_row rfl (.tmp 53) (.tmp 54) rfl w3.heap.size (.slice (some ⟨w3.heap.size, 0, none⟩) 0 0) 0 [] rfl (own_new w3) (fun z h => by cases h) A n c a rfl HA.out.symm c (RA.out.below D3.out) n (by omega) (by omega) (by simp) ?_
         intro A4 c4 w4 own4 row4 bel4
         have O4 := Lib.hid own4
         have B4 := Lib.hid (D3.out.trans (bel4.mono B3.out.size))
         have E4 := Lib.hid ((bel_al (Below.refl _ _) (.cells #[] 5)).trans bel4)
         clear own4 row4 bel4 D3)
      | (at_builtin
         refine append_row rfl (.tmp 55) (.tmp 56) rfl w3.heap.size (.slice A4 n c4) n a rfl O4.out RA.out.2.2.1 B m d b rfl HB.out.symm d (RB.out.below B4.out) (n + m) rfl (by omega) (by have := E4.out.size; omega) ?_
         intro A5 c5 w5 own5 row5 bel5
         have R5 := Lib.hid row5
         have B5 := Lib.hid (B4.out.trans (bel5.mono B3.out.size))
         have E5 := Lib.hid (E4.out.trans bel5)
         clear own5 row5 bel5 O4 B4 E4)
      | ((with_reducible refine Calls.mono (K3.out _ _ _ R5.out) ?_)
         rintro e w6 ⟨rfl, hb6⟩
         have B6 := Lib.hid (bel_then B5.out hb6)
         clear hb6 E5 B5 R5 K3))
  refine (C1.out w6 B6.out).mono ?_; rintro e w7 ⟨g1, rfl, _, s1, hb7⟩
  have S1 := Lib.hid s1
  have B7 := Lib.hid (bel_then B6.out hb7); clear hb7 s1
  go_wp2_with fail
  refine (C2.out w7 B7.out).mono ?_; rintro e w8 ⟨g2, rfl, _, s2, hb8⟩
  have T1 := Lib.hid (S1.out.below hb8)
  have S2 := Lib.hid s2
  have B8 := Lib.hid (bel_then B7.out hb8); clear hb8 s2 S1
  have D8 := Lib.hid (bel_al B8.out (.cells #[] 5))
  go_wp2_with (first
      | (at_builtin
         refine append_row rfl (.tmp 70) (.tmp 71) rfl w8.heap.size (.slice (some ⟨w8.heap.size, 0, none⟩) 0 0) 0 [] rfl (own_new w8) (fun z h => by cases h) A n c a rfl HA.out.symm c (RA.out.below D8.out) n (by omega) (by omega) (by simp) ?_
         intro A9 c9 w9 own4 row4 bel4
         have O9 := Lib.hid own4
         have B9 := Lib.hid (D8.out.trans (bel4.mono B8.out.size))
         have E9 := Lib.hid ((bel_al (Below.refl _ _) (.cells #[] 5)).trans bel4)
         clear own4 row4 bel4 D8)
      | (at_builtin
         refine append_row rfl (.tmp 72) (.tmp 73) rfl w8.heap.size (.slice A9 n c9) n a rfl O9.out RA.out.2.2.1 B m d b rfl HB.out.symm d (RB.out.below B9.out) (n + m) rfl (by omega) (by have := E9.out.size; omega) ?_
         intro A10 c10 w10 own5 row5 bel5
         have R10 := Lib.hid row5
         have B10 := Lib.hid (B9.out.trans (bel5.mono B8.out.size))
         have E10 := Lib.hid (E9.out.trans bel5)
         clear own5 row5 bel5 O9 B9 E9)
      | ((with_reducible refine Calls.mono (C3.out _ _ _ R10.out) ?_)
         rintro e w11 ⟨g3, rfl, _, s3, hb11⟩
         have B11 := Lib.hid (bel_then B10.out hb11)
         have l1 := (T1.out.below (bel_then E10.out hb11)).len Try.underlying24 3
         have l2 := (S2.out.below (bel_then E10.out hb11)).len Try.underlying24 3
         have l3 := s3.len Try.underlying24 3
         rw [HL.out] at l3
         clear hb11 E10 B10 R10 s3 T1 S2))
  go_ret
  exact ⟨rfl, B11.out⟩

set_option maxHeartbeats 2000000 in
theorem rparts_no (A B : Option Addr) (c d n m : Nat) (a b : List Int) (ha : a.length = n) (hb : b.length = m) (h1 : n ≤ 2000) (h2 : m ≤ 2000) (h3 : n % 32 = 0) (h4 : m % 32 = 0) (h5 : n ≠ 0) (h6 : m ≠ 0)
    (he : (ruleE a == 0 && ruleE b == 0) = false) (e3 : ruleE (a ++ b) ≠ 0) (w : World) (ra : RowAt w A c a) (rb : RowAt w B d b) :
    Calls Try.prog 6 #[.slice A n c, .slice B m d] w fun e w' => e = .returned (.bool true) ∧ Below w.heap.size w w' := by
  have RA := Lib.hid ra
  have RB := Lib.hid rb
  have HA := Lib.hid ha
  have HB := Lib.hid hb
  have K1 := Lib.hid (fun w' (k : Below w.heap.size w w') => Keeps_any A c n a ha w' (ra.below k))
  have K2 := Lib.hid (fun w' (k : Below w.heap.size w w') => Keeps_any B d m b hb w' (rb.below k))
  have K3 := Lib.hid (fun w' A' c' (k : RowAt w' A' c' (a ++ b)) => Keeps_any A' c' (n + m) (a ++ b) (by rw [List.length_append, ha, hb]) w' k)
  have C1 := Lib.hid (fun w' (k : Below w.heap.size w w') => Seconds_some A c n a ha w' (ra.below k))
  have C2 := Lib.hid (fun w' (k : Below w.heap.size w w') => Seconds_some B d m b hb w' (rb.below k))
  have C3 := Lib.hid (fun w' A' c' (k : RowAt w' A' c' (a ++ b)) => Seconds_some A' c' (n + m) (a ++ b) (by rw [List.length_append, ha, hb]) w' k)
  clear ha hb ra rb
  generalize ruleE a = x1 at *
  generalize ruleE b = x2 at *
  generalize ruleE (a ++ b) = x3 at *
  have f3 : (x3 == 0) = false := by rw [beq_eq_false_iff_ne]; exact e3
  have f4 : (x3 != 0) = true := by rw [bne_iff_ne]; exact e3
  have hc : (x1 == 0) = false ∨ ((x1 == 0) = true ∧ (x2 == 0) = false) := by
    cases h : x1 == 0
    · exact .inl rfl
    · rw [h] at he; exact .inr ⟨rfl, by simpa using he⟩
  clear e3 he
  have k3 : ((n : Int) % 32 != 0) = false := by rw [bne_eq_false_iff_eq]; omega
  have k4 : ((m : Int) % 32 != 0) = false := by rw [bne_eq_false_iff_eq]; omega
  have k5 : ((n : Int) == 0) = false := by rw [beq_eq_false_iff_ne]; omega
  have k6 : ((m : Int) == 0) = false := by rw [beq_eq_false_iff_ne]; omega
  clear h3 h4 h5 h6
  rcases hc with f1 | ⟨f1, f2⟩
  · go_enter Try.func6, Try.ntmps6
    go_wp2_with fail
    refine (awake_any _).mono ?_; rintro e w1 ⟨rfl, hb1⟩
    have B1 := Lib.hid hb1; clear hb1
    go_wp2_with fail
    refine (K1.out w1 B1.out).mono ?_; rintro e w2 ⟨rfl, hb2⟩
    have B2 := Lib.hid (bel_then B1.out hb2); clear hb2 k3 k4 k5 k6
    go_wp2_with fail
    refine (K2.out w2 B2.out).mono ?_; rintro e w3 ⟨rfl, hb3⟩
    have B3 := Lib.hid (bel_then B2.out hb3); clear hb3 K1 K2
    have D3 := Lib.hid (bel_al B3.out (.cells #[] 5))
    go_wp2_with (first
        | (at_builtin
           refine append_row rfl (.tmp 53) (.tmp 54) rfl w3.heap.size (.slice (some ⟨w3.heap.size, 0, none⟩) 0 0) 0 [] rfl (own_new w3) (fun z h => by cases h) A n c a rfl HA.out.symm c (RA.out.below D3.out) n (by omega) (by omega) (by simp) ?_
           intro A4 c4 w4 own4 row4 bel4
           have O4 := Lib.hid own4
           have B4 := Lib.hid (D3.out.trans (bel4.mono B3.out.size))
           have E4 := Lib.hid ((bel_al (Below.refl _ _) (.cells #[] 5)).trans bel4)
           clear own4 row4 bel4 D3)
        | (at_builtin
           refine append_row rfl (.tmp 55) (.tmp 56) rfl w3.heap.size (.slice A4 n c4) n a rfl O4.out RA.out.2.2.1 B m d b rfl HB.out.symm d (RB.out.below B4.out) (n + m) rfl (by omega) (by have := E4.out.size; omega) ?_
           intro A5 c5 w5 own5 row5 bel5
           have R5 := Lib.hid row5
           have B5 := Lib.hid (B4.out.trans (bel5.mono B3.out.size))
           have E5 := Lib.hid (E4.out.trans bel5)
           clear own5 row5 bel5 O4 B4 E4)
        | ((with_reducible refine Calls.mono (K3.out _ _ _ R5.out) ?_)
           rintro e w6 ⟨rfl, hb6⟩
           have B6 := Lib.hid (bel_then B5.out hb6)
           clear hb6 E5 B5 R5 K3))
    refine (C1.out w6 B6.out).mono ?_; rintro e w7 ⟨m1, q1, rfl, hb7⟩
    have B7 := Lib.hid (bel_then B6.out hb7); clear hb7
    go_wp2_with fail
    refine (C2.out w7 B7.out).mono ?_; rintro e w8 ⟨m2, q2, rfl, hb8⟩
    have B8 := Lib.hid (bel_then B7.out hb8); clear hb8
    have D8 := Lib.hid (bel_al B8.out (.cells #[] 5))
    go_wp2_with (first
        | (at_builtin
           refine append_row rfl (.tmp 70) (.tmp 71) rfl w8.heap.size (.slice (some ⟨w8.heap.size, 0, none⟩) 0 0) 0 [] rfl (own_new w8) (fun z h => by cases h) A n c a rfl HA.out.symm c (RA.out.below D8.out) n (by omega) (by omega) (by simp) ?_
           intro A9 c9 w9 own4 row4 bel4
           have O9 := Lib.hid own4
           have B9 := Lib.hid (D8.out.trans (bel4.mono B8.out.size))
           have E9 := Lib.hid ((bel_al (Below.refl _ _) (.cells #[] 5)).trans bel4)
           clear own4 row4 bel4 D8)
        | (at_builtin
           refine append_row rfl (.tmp 72) (.tmp 73) rfl w8.heap.size (.slice A9 n c9) n a rfl O9.out RA.out.2.2.1 B m d b rfl HB.out.symm d (RB.out.below B9.out) (n + m) rfl (by omega) (by have := E9.out.size; omega) ?_
           intro A10 c10 w10 own5 row5 bel5
           have R10 := Lib.hid row5
           have B10 := Lib.hid (B9.out.trans (bel5.mono B8.out.size))
           have E10 := Lib.hid (E9.out.trans bel5)
           clear own5 row5 bel5 O9 B9 E9)
        | ((with_reducible refine Calls.mono (C3.out _ _ _ R10.out) ?_)
           rintro e w11 ⟨m3, q3, rfl, hb11⟩
           have B11 := Lib.hid (bel_then B10.out hb11)
           clear hb11 E10 B10 R10))
    go_ret
    exact ⟨rfl, B11.out⟩
  · go_enter Try.func6, Try.ntmps6
    go_wp2_with fail
    refine (awake_any _).mono ?_; rintro e w1 ⟨rfl, hb1⟩
    have B1 := Lib.hid hb1; clear hb1
    go_wp2_with fail
    refine (K1.out w1 B1.out).mono ?_; rintro e w2 ⟨rfl, hb2⟩
    have B2 := Lib.hid (bel_then B1.out hb2); clear hb2 k3 k4 k5 k6
    go_wp2_with fail
    refine (K2.out w2 B2.out).mono ?_; rintro e w3 ⟨rfl, hb3⟩
    have B3 := Lib.hid (bel_then B2.out hb3); clear hb3 K1 K2
    have D3 := Lib.hid (bel_al B3.out (.cells #[] 5))
    go_wp2_with (first
        | (at_builtin
           refine append_row rfl (.tmp 53) (.tmp 54) rfl w3.heap.size (.slice (some ⟨w3.heap.size, 0, none⟩) 0 0) 0 [] rfl (own_new w3) (fun z h => by cases h) A n c a rfl HA.out.symm c (RA.out.below D3.out) n (by omega) (by omega) (by simp) ?_
           intro A4 c4 w4 own4 row4 bel4
           have O4 := Lib.hid own4
           have B4 := Lib.hid (D3.out.trans (bel4.mono B3.out.size))
           have E4 := Lib.hid ((bel_al (Below.refl _ _) (.cells #[] 5)).trans bel4)
           clear own4 row4 bel4 D3)
        | (at_builtin
           refine append_row rfl (.tmp 55) (.tmp 56) rfl w3.heap.size (.slice A4 n c4) n a rfl O4.out RA.out.2.2.1 B m d b rfl HB.out.symm d (RB.out.below B4.out) (n + m) rfl (by omega) (by have := E4.out.size; omega) ?_
           intro A5 c5 w5 own5 row5 bel5
           have R5 := Lib.hid row5
           have B5 := Lib.hid (B4.out.trans (bel5.mono B3.out.size))
           have E5 := Lib.hid (E4.out.trans bel5)
           clear own5 row5 bel5 O4 B4 E4)
        | ((with_reducible refine Calls.mono (K3.out _ _ _ R5.out) ?_)
           rintro e w6 ⟨rfl, hb6⟩
           have B6 := Lib.hid (bel_then B5.out hb6)
           clear hb6 E5 B5 R5 K3))
    refine (C1.out w6 B6.out).mono ?_; rintro e w7 ⟨m1, q1, rfl, hb7⟩
    have B7 := Lib.hid (bel_then B6.out hb7); clear hb7
    go_wp2_with fail
    refine (C2.out w7 B7.out).mono ?_; rintro e w8 ⟨m2, q2, rfl, hb8⟩
    have B8 := Lib.hid (bel_then B7.out hb8); clear hb8
    have D8 := Lib.hid (bel_al B8.out (.cells #[] 5))
    go_wp2_with (first
        | (at_builtin
           refine append_row rfl (.tmp 70) (.tmp 71) rfl w8.heap.size (.slice (some ⟨w8.heap.size, 0, none⟩) 0 0) 0 [] rfl (own_new w8) (fun z h => by cases h) A n c a rfl HA.out.symm c (RA.out.below D8.out) n (by omega) (by omega) (by simp) ?_
           intro A9 c9 w9 own4 row4 bel4
           have O9 := Lib.hid own4
           have B9 := Lib.hid (D8.out.trans (bel4.mono B8.out.size))
           have E9 := Lib.hid ((bel_al (Below.refl _ _) (.cells #[] 5)).trans bel4)
           clear own4 row4 bel4 D8)
        | (at_builtin
           refine append_row rfl (.tmp 72) (.tmp 73) rfl w8.heap.size (.slice A9 n c9) n a rfl O9.out RA.out.2.2.1 B m d b rfl HB.out.symm d (RB.out.below B9.out) (n + m) rfl (by omega) (by have := E9.out.size; omega) ?_
           intro A10 c10 w10 own5 row5 bel5
           have R10 := Lib.hid row5
           have B10 := Lib.hid (B9.out.trans (bel5.mono B8.out.size))
           have E10 := Lib.hid (E9.out.trans bel5)
           clear own5 row5 bel5 O9 B9 E9)
        | ((with_reducible refine Calls.mono (C3.out _ _ _ R10.out) ?_)
           rintro e w11 ⟨m3, q3, rfl, hb11⟩
           have B11 := Lib.hid (bel_then B10.out hb11)
           clear hb11 E10 B10 R10))
    go_ret
    exact ⟨rfl, B11.out⟩

theorem ruleParts_walk (A : Option Addr) (c : Nat) (a : List Int) (B : Option Addr) (d : Nat) (b : List Int) (w : World) (ra : RowAt w A c a) (rb : RowAt w B d b) :
    Calls Try.prog 6 #[.slice A a.length c, .slice B b.length d] w fun e w' => e = .returned (.bool true) ∧ Below w.heap.size w w' := by
  by_cases h : a.length ≤ 2000 ∧ b.length ≤ 2000 ∧ a.length % 32 = 0 ∧ b.length % 32 = 0 ∧ a.length ≠ 0 ∧ b.length ≠ 0
  · obtain ⟨h1, h2, h3, h4, h5, h6⟩ := h
    obtain ⟨s1, s2, s3⟩ := part_size (a := a) (b := b) h1 h2 h3 h4 h5 h6
    rcases parts_rule ra.2.2.1 rb.2.2.1 h3 s1 s2 s3 with ⟨e3, he⟩ | ⟨e1, e2, e3, hl⟩
    · refine rparts_no A B c d _ _ a b rfl rfl h1 h2 h3 h4 h5 h6 ?_ e3 w ra rb
      rcases he with he | he
      · simp [he]
      · simp [he]
    · exact rparts_yes A B c d _ _ a b rfl rfl h1 h2 h3 h4 h5 h6 e1 e2 e3 hl w ra rb
  · exact rparts_skip A B c d _ _ (by have := ra.1; have := ra.2.1; omega) (by have := rb.1; have := rb.2.1; omega) h w
end Go.Proofs.Ytojpcijfipdiaaa.Mm
