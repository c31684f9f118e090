/- The statement ScanParts, walked. -/
import Derived.Test.YtcfdebamokcjkaaScanParts
namespace Go.Proofs.Ytcfdebamokcjkaa.Mm
open Go.ChangeShapes Go.WideShapes Go.ChangeAt Go.RowKit
set_option linter.unusedVariables false

set_option maxHeartbeats 2000000 in
theorem parts_skip (A B : Option Addr) (c d n m : Nat) (hn : n ≤ maxLen) (hm : m ≤ maxLen) (h : ¬ (n ≤ 2000 ∧ m ≤ 2000 ∧ n % 32 = 0 ∧ m % 32 = 0 ∧ n ≠ 0 ∧ m ≠ 0)) (w : World) :
    Calls Try.prog 6 #[.slice A n c, .slice B m d] w fun e w' => e = .returned (.bool true) ∧ Below w.heap.size w w' := by
  unfold maxLen at hn hm
  have hc : 2000 < n ∨ (n ≤ 2000 ∧ 2000 < m) ∨ (n ≤ 2000 ∧ m ≤ 2000 ∧ ((n : Int) % 32 != 0) = true) ∨ (n ≤ 2000 ∧ m ≤ 2000 ∧ ((n : Int) % 32 != 0) = false ∧ ((m : Int) % 32 != 0) = true) ∨
      (n ≤ 2000 ∧ m ≤ 2000 ∧ ((n : Int) % 32 != 0) = false ∧ ((m : Int) % 32 != 0) = false ∧ ((n : Int) == 0) = true) ∨
      (n ≤ 2000 ∧ m ≤ 2000 ∧ ((n : Int) % 32 != 0) = false ∧ ((m : Int) % 32 != 0) = false ∧ ((n : Int) == 0) = false ∧ ((m : Int) == 0) = true) := by
    simp only [bne_iff_ne, ne_eq, beq_iff_eq, bne_eq_false_iff_eq, beq_eq_false_iff_ne]
    omega
  clear h
  rcases hc with h | ⟨h, h1⟩ | ⟨h, h1, h2⟩ | ⟨h, h1, h2, h3⟩ | ⟨h, h1, h2, h3, h4⟩ | ⟨h, h1, h2, h3, h4, h5⟩
  all_goals
    go_enter Try.func6, Try.ntmps6
    go_wp2_with fail
    refine (awake_any _).mono ?_; rintro e w1 ⟨rfl, hb1⟩
    have B1 := Lib.hid hb1; clear hb1
    go_wp2_with fail
    refine (awake_any _).mono ?_; rintro e w2 ⟨rfl, hb2⟩
    have B2 := Lib.hid (bel_then B1.out hb2); clear hb2
    go_wp2_with fail
    go_ret
    exact ⟨rfl, B2.out⟩

theorem app_b {L M : List Int} (h : Bytes L) (k : Bytes M) : Bytes (L ++ M) := fun x hx => (List.mem_append.1 hx).elim (h x) (k x)
set_option maxHeartbeats 2000000 in
theorem parts_ok (A B : Option Addr) (c d n m : Nat) (a b : List Int) (ha : a.length = n) (hb : b.length = m) (h1 : n ≤ 2000) (h2 : m ≤ 2000) (h3 : n % 32 = 0) (h4 : m % 32 = 0) (h5 : n ≠ 0) (h6 : m ≠ 0) (w : World)
    (ra : RowAt w A c a) (rb : RowAt w B d b) :
    Calls Try.prog 6 #[.slice A n c, .slice B m d] w fun e w' => e = .returned (.bool true) ∧ Below w.heap.size w w' := by
  have RA := Lib.hid ra
  have RB := Lib.hid rb
  have HA := Lib.hid ha
  have HB := Lib.hid hb
  obtain ⟨s1, s2, s3⟩ := part_size (a := a) (b := b) (by omega) (by omega) (by omega) (by omega) (by omega) (by omega)
  have hsc := part_scan ra.2.2.1 rb.2.2.1 (by omega) s1 s2 s3
  have C1 := Lib.hid (fun w' (k : Below w.heap.size w w') => Listing_any A c n a ha w' (ra.below k))
  have C2 := Lib.hid (fun w' (k : Below w.heap.size w w') => Listing_any B d m b hb w' (rb.below k))
  have C3 := Lib.hid (fun w' A' c' (k : RowAt w' A' c' (a ++ b)) => Listing_any A' c' (n + m) (a ++ b) (by rw [List.length_append, ha, hb]) w' k)
  have X1 := Lib.hid (insI_len (scanL a))
  have X2 := Lib.hid (insI_len (scanL b))
  have X3 := Lib.hid (insI_len (scanL (a ++ b)))
  have l1 := scanL_len ra.2.2.1
  have l2 := scanL_len rb.2.2.1
  have l3 := scanL_len (app_b ra.2.2.1 rb.2.2.1)
  unfold ListP at C1 C2 C3
  clear s1 s2 s3 ha hb ra rb
  generalize (scanL a).length = x at *
  generalize (scanL b).length = y at *
  generalize (scanL (a ++ b)).length = z at *
  generalize insI (scanL a) = X at *
  generalize insI (scanL b) = Y at *
  generalize insI (scanL (a ++ b)) = Z at *
  generalize scanE a = p at *
  generalize scanE b = q at *
  generalize scanE (a ++ b) = g at *
  have k3 : ((n : Int) % 32 != 0) = false := by rw [bne_eq_false_iff_eq]; omega
  have k4 : ((m : Int) % 32 != 0) = false := by rw [bne_eq_false_iff_eq]; omega
  have k5 : ((n : Int) == 0) = false := by rw [beq_eq_false_iff_ne]; omega
  have k6 : ((m : Int) == 0) = false := by rw [beq_eq_false_iff_ne]; omega
  clear h3 h4 h5 h6
  have hz : g = 0 → p = 0 → q = 0 → Z = X ++ Y → z = x + y := fun _ _ _ h => by rw [← X3.out, h, List.length_append, X1.out, X2.out]
  rcases hsc with ⟨rfl, rfl, rfl⟩ | ⟨rfl, rfl, rfl, rfl⟩ | ⟨rfl, rfl, rfl, rfl⟩
  rotate_left 2
  obtain rfl := hz rfl rfl rfl rfl
  rotate_left 1
  all_goals
    clear hz
    go_enter Try.func6, Try.ntmps6
    go_wp2_with fail
    refine (awake_any _).mono ?_; rintro e w1 ⟨rfl, hb1⟩
    have B1 := Lib.hid hb1; clear hb1
    go_wp2_with fail
    refine (C1.out w1 B1.out).mono ?_; rintro e w2 ⟨A2, c2, rfl, i2, hb2⟩
    have I2 := Lib.hid i2
    have B2 := Lib.hid (bel_then B1.out hb2); clear i2 hb2
    clear k3 k4 k5 k6
    go_wp2_with fail
    refine (C2.out w2 B2.out).mono ?_; rintro e w3 ⟨A3, c3, rfl, i3, hb3⟩
    have I3 := Lib.hid i3
    have J2 := Lib.hid (I2.out.below hb3)
    have B3 := Lib.hid (bel_then B2.out hb3); clear i3 hb3 I2
    have D3 := Lib.hid (bel_al B3.out (.cells #[] 5))
    go_wp2_with (first
      | (at_builtin
         refine append_row rfl (.tmp 57) (.tmp 58) rfl w3.heap.size (.slice (some ⟨w3.heap.size, 0, none⟩) 0 0) 0 [] rfl (own_new w3) (fun z h => by cases h) A n c a rfl HA.out.symm c (RA.out.below D3.out) n (by omega) (by omega) (by simp) ?_
         intro A4 c4 w4 own4 row4 bel4
         have O4 := Lib.hid own4
         have B4 := Lib.hid (D3.out.trans (bel4.mono B3.out.size))
         have E4 := Lib.hid ((bel_al (Below.refl _ _) (.cells #[] 5)).trans bel4)
         clear own4 row4 bel4 D3)
      | (at_builtin
         refine append_row rfl (.tmp 59) (.tmp 60) rfl w3.heap.size (.slice A4 n c4) n a rfl O4.out RA.out.2.2.1 B m d b rfl HB.out.symm d (RB.out.below B4.out) (n + m) rfl (by omega) (by have := E4.out.size; omega) ?_
         intro A5 c5 w5 own5 row5 bel5
         have R5 := Lib.hid row5
         have B5 := Lib.hid (B4.out.trans (bel5.mono B3.out.size))
         have E5 := Lib.hid (E4.out.trans bel5)
         clear own5 row5 bel5 O4 B4 E4)
      | ((with_reducible refine Calls.mono (C3.out _ _ _ R5.out) ?_)
         rintro e w6 ⟨A6, c6, rfl, i6, hb6⟩
         have I6 := Lib.hid i6
         have B6 := Lib.hid (bel_then B5.out hb6)
         have E6 := Lib.hid (bel_then E5.out hb6)
         clear i6 hb6 E5 B5)
      | (at_builtin
         refine wpList_unguard rfl ?_
         refine append_insrow rfl (.tmp 82) (.tmp 83) rfl w6.heap.size (.slice (some ⟨w6.heap.size, 0, none⟩) 0 0) 0 [] rfl (ins_new0 w6) (fun z h => by cases h) A2 x c2 X rfl X1.out.symm c2 ((J2.out.below E6.out).below (bel_al (Below.refl _ _) _)) x (by omega) (by omega) (by simp) ?_
         intro A7 c7 w7 own7 row7 bel7
         have O7 := Lib.hid own7
         have R7 := Lib.hid row7
         have B7 := Lib.hid ((bel_al B6.out (.cells #[] 40)).trans (bel7.mono B6.out.size))
         have E7 := Lib.hid ((bel_al (Below.refl _ _) (.cells #[] 40)).trans bel7)
         clear own7 row7 bel7)
      | (at_builtin
         refine wpList_unguard rfl ?_
         refine append_insrow rfl (.tmp 84) (.tmp 85) rfl w6.heap.size (.slice A7 x c7) x X rfl O7.out R7.out.2.2.1 A3 y c3 Y rfl X2.out.symm c3 ((I3.out.below E6.out).below E7.out) (x + y) rfl (by omega) (by have := E7.out.size; omega) ?_
         intro A8 c8 w8 own8 row8 bel8
         have R8 := Lib.hid row8
         have B8 := Lib.hid (B7.out.trans (bel8.mono B6.out.size))
         have E8 := Lib.hid (E7.out.trans bel8)
         clear own8 row8 bel8 O7 B7 E7)
      | ((with_reducible refine Calls.mono (same_yes (X ++ Y) A6 A8 c6 c8 (x + y) X3.out w8 (I6.out.below E8.out) R8.out) ?_)
         rintro e w9 ⟨rfl, hb9⟩
         have B9 := Lib.hid (bel_then B8.out hb9)
         clear hb9))
    go_ret
    first | exact ⟨rfl, B9.out⟩ | exact ⟨rfl, B6.out⟩
theorem scanParts_walk (A : Option Addr) (c : Nat) (a : List Int) (B : Option Addr) (d : Nat) (b : List Int) (w : World) (ra : RowAt w A c a) (rb : RowAt w B d b) :
    Calls Try.prog 6 #[.slice A a.length c, .slice B b.length d] w fun e w' => e = .returned (.bool true) ∧ Below w.heap.size w w' := by
  by_cases h : a.length ≤ 2000 ∧ b.length ≤ 2000 ∧ a.length % 32 = 0 ∧ b.length % 32 = 0 ∧ a.length ≠ 0 ∧ b.length ≠ 0
  · obtain ⟨h1, h2, h3, h4, h5, h6⟩ := h
    exact parts_ok A B c d _ _ a b rfl rfl h1 h2 h3 h4 h5 h6 w ra rb
  · exact parts_skip A B c d _ _ (by have := ra.1; have := ra.2.1; omega) (by have := rb.1; have := rb.2.1; omega) h w
end Go.Proofs.Ytcfdebamokcjkaa.Mm
