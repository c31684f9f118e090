/- The statements VerifyParts and VerifyTurned, walked, over the contracts of package verify. -/
import Derived.Test.YtinehmagkdgiiaaVerC
namespace Go.Proofs.Ytinehmagkdgiiaa.Mm
open Go.ChangeShapes Go.WideShapes Go.ChangeAt Go.RowKit
set_option linter.unusedVariables false

set_option maxRecDepth 10000 in
set_option maxHeartbeats 2000000 in
theorem vparts_skip (AW : Hid AwC) (VC : Hid CodeC) (A B : Option Addr) (c d n m : Nat) (a b : List Int) (ha : a.length = n) (hb : b.length = m) (h : ¬ (n ≤ 1000 ∧ m ≤ 1000 ∧ verE a = 0 ∧ verE b = 0)) (w : World) (ra : RowAt w A c a) (rb : RowAt w B d b) :
    Calls Try.prog 7 #[.slice A n c, .slice B m d] w fun e w' => e = .returned (.bool true) ∧ Below w.heap.size w w' := by
  have hn : n ≤ maxLen := by have := ra.1; have := ra.2.1; omega
  have hm : m ≤ maxLen := by have := rb.1; have := rb.2.1; omega
  unfold maxLen at hn hm
  have K1 := Lib.hid (fun w' (k : Below w.heap.size w w') => VC.out A c n a ha w' (ra.below k))
  have K2 := Lib.hid (fun w' (k : Below w.heap.size w w') => VC.out B d m b hb w' (rb.below k))
  clear ha hb ra rb
  generalize verE a = x1 at *
  generalize verE b = x2 at *
  have hc : 1000 < n ∨ (n ≤ 1000 ∧ 1000 < m) ∨ (n ≤ 1000 ∧ m ≤ 1000 ∧ (x1 != 0) = true) ∨ (n ≤ 1000 ∧ m ≤ 1000 ∧ (x1 != 0) = false ∧ (x2 != 0) = true) := by
    simp only [bne_iff_ne, ne_eq, bne_eq_false_iff_eq]
    omega
  clear h
  rcases hc with h | ⟨h, h1⟩ | ⟨h, h1, h2⟩ | ⟨h, h1, h2, h3⟩
  · go_enter Try.func7, Try.ntmps7
    go_wp2_with fail
    refine (AW.out _).mono ?_; rintro e w1 ⟨rfl, hb1⟩
    have B1 := Lib.hid hb1; clear hb1
    go_wp2_with fail
    refine (AW.out _).mono ?_; rintro e w2 ⟨rfl, hb2⟩
    have B2 := Lib.hid (bel_then B1.out hb2); clear hb2
    go_wp2_with fail
    go_ret
    exact ⟨rfl, B2.out⟩
  · go_enter Try.func7, Try.ntmps7
    go_wp2_with fail
    refine (AW.out _).mono ?_; rintro e w1 ⟨rfl, hb1⟩
    have B1 := Lib.hid hb1; clear hb1
    go_wp2_with fail
    refine (AW.out _).mono ?_; rintro e w2 ⟨rfl, hb2⟩
    have B2 := Lib.hid (bel_then B1.out hb2); clear hb2
    go_wp2_with fail
    go_ret
    exact ⟨rfl, B2.out⟩
  · go_enter Try.func7, Try.ntmps7
    go_wp2_with fail
    refine (AW.out _).mono ?_; rintro e w1 ⟨rfl, hb1⟩
    have B1 := Lib.hid hb1; clear hb1
    go_wp2_with fail
    refine (K1.out w1 B1.out).mono ?_; rintro e w2 ⟨rfl, hb2⟩
    have B2 := Lib.hid (bel_then B1.out hb2); clear hb2
    go_wp2_with fail
    refine (AW.out _).mono ?_; rintro e w3 ⟨rfl, hb3⟩
    have B3 := Lib.hid (bel_then B2.out hb3); clear hb3
    go_wp2_with fail
    go_ret
    exact ⟨rfl, B3.out⟩
  · go_enter Try.func7, Try.ntmps7
    go_wp2_with fail
    refine (AW.out _).mono ?_; rintro e w1 ⟨rfl, hb1⟩
    have B1 := Lib.hid hb1; clear hb1
    go_wp2_with fail
    refine (K1.out w1 B1.out).mono ?_; rintro e w2 ⟨rfl, hb2⟩
    have B2 := Lib.hid (bel_then B1.out hb2); clear hb2
    go_wp2_with fail
    refine (K2.out w2 B2.out).mono ?_; rintro e w3 ⟨rfl, hb3⟩
    have B3 := Lib.hid (bel_then B2.out hb3); clear hb3
    go_wp2_with fail
    refine (AW.out _).mono ?_; rintro e w4 ⟨rfl, hb4⟩
    have B4 := Lib.hid (bel_then B3.out hb4); clear hb4
    go_wp2_with fail
    go_ret
    exact ⟨rfl, B4.out⟩

set_option maxRecDepth 10000 in
set_option maxHeartbeats 2000000 in
theorem vparts_yes (AW : Hid AwC) (VC : Hid CodeC) (A B : Option Addr) (c d n m : Nat) (a b : List Int) (ha : a.length = n) (hb : b.length = m) (h1 : n ≤ 1000) (h2 : m ≤ 1000) (e1 : verE a = 0) (e2 : verE b = 0) (w : World) (ra : RowAt w A c a) (rb : RowAt w B d b) :
    Calls Try.prog 7 #[.slice A n c, .slice B m d] w fun e w' => e = .returned (.bool true) ∧ Below w.heap.size w w' := by
  obtain ⟨e3, e4⟩ := ver_parts ra.2.2.1 rb.2.2.1 (by omega) (by omega) e1 e2
  have RA := Lib.hid ra
  have RB := Lib.hid rb
  have HA := Lib.hid ha
  have HB := Lib.hid hb
  have K1 := Lib.hid (fun w' (k : Below w.heap.size w w') => VC.out A c n a ha w' (ra.below k))
  have K2 := Lib.hid (fun w' (k : Below w.heap.size w w') => VC.out B d m b hb w' (rb.below k))
  have K3 := Lib.hid (fun w' A' c' (k : RowAt w' A' c' (a ++ b)) => VC.out A' c' (n + m) (a ++ b) (by rw [List.length_append, ha, hb]) w' k)
  have K4 := Lib.hid (fun w' A' c' (k : RowAt w' A' c' (a ++ b ++ List.replicate 32 0)) => VC.out A' c' (n + m + 32) (a ++ b ++ List.replicate 32 0) (by rw [List.length_append, List.length_append, ha, hb, List.length_replicate]) w' k)
  have HBy := Lib.hid (show Bytes (a ++ b) from fun x hx => (List.mem_append.1 hx).elim (ra.2.2.1 x) (rb.2.2.1 x))
  rw [e1] at K1
  rw [e2] at K2
  rw [e3] at K3
  rw [e4] at K4
  clear ha hb ra rb e1 e2 e3 e4
  go_enter Try.func7, Try.ntmps7
  go_wp2_with fail
  refine (AW.out _).mono ?_; rintro e w1 ⟨rfl, hb1⟩
  have B1 := Lib.hid hb1; clear hb1
  go_wp2_with fail
  refine (K1.out w1 B1.out).mono ?_; rintro e w2 ⟨rfl, hb2⟩
  have B2 := Lib.hid (bel_then B1.out hb2); clear hb2
  go_wp2_with fail
  refine (K2.out w2 B2.out).mono ?_; rintro e w3 ⟨rfl, hb3⟩
  have B3 := Lib.hid (bel_then B2.out hb3); clear hb3 K1 K2
  have D3 := Lib.hid (bel_al B3.out (.cells #[] 5))
  go_wp2_with (first
      | (at_builtin
         refine append_row rfl (.tmp 29) (.tmp 30) rfl w3.heap.size (.slice (some ⟨w3.heap.size, 0, none⟩) 0 0) 0 [] rfl (own_new w3) (fun z h => by cases h) A n c a rfl HA.out.symm c (RA.out.below D3.out) n (by omega) (by omega) (by simp) ?_
         intro A4 c4 w4 own4 row4 bel4
         have O4 := Lib.hid own4
         have Q4 := Lib.hid row4
         have B4 := Lib.hid (D3.out.trans (bel4.mono B3.out.size))
         have E4 := Lib.hid ((bel_al (Below.refl _ _) (.cells #[] 5)).trans bel4)
         clear own4 row4 bel4 D3)
      | (at_builtin
         refine append_row rfl (.tmp 31) (.tmp 32) rfl w3.heap.size (.slice A4 n c4) n a rfl O4.out RA.out.2.2.1 B m d b rfl HB.out.symm d (RB.out.below B4.out) (n + m) rfl (by omega) (by have := E4.out.size; omega) ?_
         intro A5 c5 w5 own5 row5 bel5
         have O5 := Lib.hid own5
         have R5 := Lib.hid row5
         have B5 := Lib.hid (B4.out.trans (bel5.mono B3.out.size))
         have E5 := Lib.hid (E4.out.trans bel5)
         clear own5 row5 bel5 O4 B4 E4)
      | ((with_reducible refine Calls.mono (K3.out _ _ _ R5.out) ?_)
         rintro e w6 ⟨rfl, hb6⟩
         have B6 := Lib.hid (bel_then B5.out hb6)
         have E6 := Lib.hid (bel_then E5.out hb6)
         have O6 := Lib.hid (own_below' O5.out hb6)
         clear hb6 B5 E5 O5 R5 K3)
      | (at_builtin
         refine wpList_unguard rfl ?_
         refine append_zeros rfl (.tmp 38) (.const (.int .i64 32)) rfl w3.heap.size (.slice A5 (n + m) c5) (n + m) (a ++ b) rfl O6.out HBy.out 32 rfl (by omega) (n + m + 32) rfl (by omega) E6.out.size ?_
         intro A7 c7 w7 own7 row7 bel7
         have R7 := Lib.hid row7
         have B7 := Lib.hid (B6.out.trans (bel7.mono B3.out.size))
         clear own7 row7 bel7 O6 E6)
      | ((with_reducible refine Calls.mono (K4.out _ _ _ R7.out) ?_)
         rintro e w8 ⟨rfl, hb8⟩
         have B8 := Lib.hid (bel_then B7.out hb8)
         clear hb8 R7))
  go_ret
  exact ⟨rfl, B8.out⟩
theorem vparts (AW : Hid AwC) (VC : Hid CodeC) (A : Option Addr) (c : Nat) (a : List Int) (B : Option Addr) (d : Nat) (b : List Int) (w : World) (ra : RowAt w A c a) (rb : RowAt w B d b) :
    Calls Try.prog 7 #[.slice A a.length c, .slice B b.length d] w fun e w' => e = .returned (.bool true) ∧ Below w.heap.size w w' := by
  by_cases h : a.length ≤ 1000 ∧ b.length ≤ 1000 ∧ verE a = 0 ∧ verE b = 0
  · exact vparts_yes AW VC A B c d _ _ a b rfl rfl h.1 h.2.1 h.2.2.1 h.2.2.2 w ra rb
  · exact vparts_skip AW VC A B c d _ _ a b rfl rfl h w ra rb

/-- one byte of code turned -/
theorem turn_bits {x y : Int} (hx : 0 ≤ x ∧ x ≤ 255) (hy : 0 ≤ y ∧ y ≤ 255) : 0 ≤ bits .xor .u8 x y ∧ bits .xor .u8 x y ≤ 255 ∧ (y = 0 → bits .xor .u8 x y = x) := by
  rw [u8_xor x y hx.1 (by omega) hy.1 (by omega)]
  have h : x.toNat ^^^ y.toNat < 2 ^ 8 := Nat.xor_lt_two_pow (by omega) (by omega)
  refine ⟨by omega, by omega, fun h0 => ?_⟩
  subst h0
  simp
  omega
set_option maxRecDepth 10000 in
set_option maxHeartbeats 2000000 in
theorem vturned_skip (AW : Hid AwC) (VC : Hid CodeC) (A : Option Addr) (cap n : Nat) (code : List Int) (hn : code.length = n) (a b : Int) (h : ¬ (n ≤ 2000 ∧ n ≠ 0 ∧ verE code = 0)) (w : World) (r : RowAt w A cap code) :
    Calls Try.prog 8 #[.slice A n cap, .int .u16 a, .int .u8 b] w fun e w' => e = .returned (.bool true) ∧ Below w.heap.size w w' := by
  have hm : n ≤ maxLen := by have := r.1; have := r.2.1; omega
  unfold maxLen at hm
  have K1 := Lib.hid (fun w' (k : Below w.heap.size w w') => VC.out A cap n code hn w' (r.below k))
  clear hn r
  generalize verE code = x1 at *
  have hc : 2000 < n ∨ (n ≤ 2000 ∧ n = 0) ∨ (n ≤ 2000 ∧ ((n : Int) == 0) = false ∧ (x1 != 0) = true) := by
    simp only [bne_iff_ne, ne_eq, beq_eq_false_iff_ne]
    omega
  clear h
  rcases hc with h | ⟨h, rfl⟩ | ⟨h, h1, h2⟩
  · go_enter Try.func8, Try.ntmps8
    go_wp2_with fail
    refine (AW.out _).mono ?_; rintro e w1 ⟨rfl, hb1⟩
    have B1 := Lib.hid hb1; clear hb1
    go_wp2_with fail
    refine (AW.out _).mono ?_; rintro e w2 ⟨rfl, hb2⟩
    have B2 := Lib.hid (bel_then B1.out hb2); clear hb2
    go_wp2_with fail
    go_ret
    exact ⟨rfl, B2.out⟩
  · go_enter Try.func8, Try.ntmps8
    go_wp2_with fail
    refine (AW.out _).mono ?_; rintro e w1 ⟨rfl, hb1⟩
    have B1 := Lib.hid hb1; clear hb1
    go_wp2_with fail
    refine (AW.out _).mono ?_; rintro e w2 ⟨rfl, hb2⟩
    have B2 := Lib.hid (bel_then B1.out hb2); clear hb2
    go_wp2_with fail
    go_ret
    exact ⟨rfl, B2.out⟩
  · go_enter Try.func8, Try.ntmps8
    go_wp2_with fail
    refine (AW.out _).mono ?_; rintro e w1 ⟨rfl, hb1⟩
    have B1 := Lib.hid hb1; clear hb1
    go_wp2_with fail
    refine (K1.out w1 B1.out).mono ?_; rintro e w2 ⟨rfl, hb2⟩
    have B2 := Lib.hid (bel_then B1.out hb2); clear hb2
    go_wp2_with fail
    refine (AW.out _).mono ?_; rintro e w3 ⟨rfl, hb3⟩
    have B3 := Lib.hid (bel_then B2.out hb3); clear hb3
    go_wp2_with fail
    go_ret
    exact ⟨rfl, B3.out⟩

set_option maxRecDepth 10000 in
set_option maxHeartbeats 2000000 in
theorem vturned_yes (AW : Hid AwC) (VC : Hid CodeC) (A : Option Addr) (cap n : Nat) (code : List Int) (hn : code.length = n) (a : Nat) (ha : a < 65536) (b : Int) (hb : 0 ≤ b ∧ b ≤ 255) (h2 : n ≤ 2000) (h0 : n ≠ 0) (hE : verE code = 0) (w : World) (r : RowAt w A cap code) :
    Calls Try.prog 8 #[.slice A n cap, .int .u16 a, .int .u8 b] w fun e w' => e = .returned (.bool true) ∧ Below w.heap.size w w' := by
  obtain ⟨k, hk⟩ : ∃ k, k = a % n := ⟨_, rfl⟩
  have hkl : k < n := by rw [hk]; exact Nat.mod_lt _ (by omega)
  have hkm : (a : Int) % (n : Int) = (k : Int) := by rw [hk]; rfl
  have wa : IntKind.i64.wrap (a : Int) = a := IntWalk.i64_in _ (by omega)
  have q0 : ((n : Int) == 0) = false := beq_eq_false_iff_ne.2 (by omega)
  have hby := r.2.2.1
  have X8 := turn_bits (row_byte hby k) hb
  have VT := ver_turned (b := code.set k (bits .xor .u8 (code.getD k 0) b)) (by rw [List.length_set]) hE
  have VZ : b = 0 → verE (code.set k (bits .xor .u8 (code.getD k 0) b)) = 0 := fun h => by
    rw [X8.2.2 h]
    have : code.set k (code.getD k 0) = code := by
      apply List.ext_getElem
      · simp
      · intro i h1 h3
        rw [List.getElem_set]
        split
        · rename_i e; subst e; simp [List.getD, h3]
        · rfl
    rw [this]; exact hE
  have K1 := Lib.hid (fun w' (k : Below w.heap.size w w') => VC.out A cap n code hn w' (r.below k))
  have K2 := Lib.hid (fun w' A' c' (h : RowAt w' A' c' (code.set k (bits .xor .u8 (code.getD k 0) b))) => VC.out A' c' n (code.set k (bits .xor .u8 (code.getD k 0) b)) (by rw [List.length_set]; exact hn) w' h)
  rw [hE] at K1
  have R := Lib.hid r
  have HN := Lib.hid hn
  have HB := Lib.hid hby
  have HX := Lib.hid X8
  clear r hby X8 hk hn hE
  generalize hy : code.getD k 0 = y at *
  have HY := Lib.hid hy
  clear hy
  generalize verE (code.set k (bits .xor .u8 y b)) = q at *
  go_enter Try.func8, Try.ntmps8
  go_wp2_with fail
  refine (AW.out _).mono ?_; rintro e w0 ⟨rfl, hb0⟩
  have HB0 := Lib.hid hb0
  clear hb0
  go_wp2_with fail
  refine (K1.out w0 HB0.out).mono ?_; rintro e w1 ⟨rfl, hb1⟩
  have HB1 := Lib.hid (bel_then HB0.out hb1)
  have OWN1 := Lib.hid (own_new w1)
  clear hb1 K1
  go_wp2_with (first
    | (at_builtin
       refine append_row rfl (.tmp 27) (.tmp 28) rfl w1.heap.size (.slice (some ⟨w1.heap.size, 0, none⟩) 0 0) 0 [] rfl OWN1.out (fun z hz => by simp at hz) A n cap code rfl HN.out.symm cap (R.out.below (bel_al HB1.out _)) n (by omega) (by omega) (by simp) ?_
       intro A2 c2 w2 own2 row2 bel2
       rw [List.nil_append] at own2
       obtain ⟨g, cg, hA, hq, hg1, hg2⟩ := own_open own2 (by rw [HN.out]; omega)
       clear hq
       injection hA with hA1 hA2 hA3
       subst hA1 hA3
       clear hA2
       have st := (own_set own2 HB.out k hkl (bits .xor .u8 y b) HX.out.1 HX.out.2.1)
       rw [HY.out] at st
       have ST := Lib.hid st
       have hcell := st.1
       clear st
       have hfr := own2.frozenAt k
       have BEL2 := Lib.hid bel2
       have HG := Lib.hid hg1
       clear own2 row2 bel2 hg1))
  have hbel : Below w.heap.size w (w2.setCell ⟨g, k, none⟩ (.int .u8 (bits .xor .u8 y b))) :=
    ((bel_al HB1.out (.cells #[] 5)).trans (BEL2.out.mono HB1.out.size)).setCell (Nat.le_trans HB1.out.size HG.out) _
  have HBEL := Lib.hid hbel
  clear hbel hcell hfr
  refine (K2.out _ _ _ ST.out.2).mono ?_; rintro e w3 ⟨rfl, hb3⟩
  have B3 := Lib.hid (bel_then HBEL.out hb3)
  clear hb3 K2 ST HBEL
  generalize bits .xor .u8 y b = zz at *
  have hc : (q == 0) = true ∨ ((q == 0) = false ∧ (b != 0) = true ∧ (q == 2) = true) ∨ ((q == 0) = false ∧ (b != 0) = true ∧ (q == 2) = false ∧ (q == 5) = true) ∨ ((q == 0) = false ∧ (b != 0) = true ∧ (q == 2) = false ∧ (q == 5) = false ∧ (q == 6) = true) := by
    rcases VT with rfl | rfl | rfl | rfl
    · exact .inl rfl
    all_goals
      have hb0 : (b != 0) = true := by
        rw [bne_iff_ne]; intro h; have := VZ h; omega
      simp [hb0]
  clear VT VZ
  rcases hc with h1 | ⟨h1, h3, h4⟩ | ⟨h1, h3, h4, h5⟩ | ⟨h1, h3, h4, h5, h6⟩
  all_goals
    go_wp2
    go_ret
    exact ⟨rfl, B3.out⟩
theorem vturned (AW : Hid AwC) (VC : Hid CodeC) (A : Option Addr) (cap : Nat) (code : List Int) (a b : Int) (w : World) (r : RowAt w A cap code) (wa : (Lit.int .u16 a).wf = true) (wb : (Lit.int .u8 b).wf = true) :
    Calls Try.prog 8 #[.slice A code.length cap, .int .u16 a, .int .u8 b] w fun e w' => e = .returned (.bool true) ∧ Below w.heap.size w w' := by
  obtain ⟨b0, b1⟩ := bounds_u8 wb
  have ha : 0 ≤ a ∧ a < 65536 := by have := bounds_u16 wa; omega
  by_cases h : code.length ≤ 2000 ∧ code.length ≠ 0 ∧ verE code = 0
  · obtain ⟨n, rfl⟩ : ∃ n : Nat, a = n := ⟨a.toNat, by omega⟩
    exact vturned_yes AW VC A cap _ code rfl n (by omega) b ⟨b0, by omega⟩ h.1 h.2.1 h.2.2 w r
  · exact vturned_skip AW VC A cap _ code rfl a b h w r
end Go.Proofs.Ytinehmagkdgiiaa.Mm
