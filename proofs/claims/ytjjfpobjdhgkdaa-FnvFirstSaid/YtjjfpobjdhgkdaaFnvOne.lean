/- The statements FnvOne, FnvMore and FnvFirst, walked. -/
import Derived.Test.YtjjfpobjdhgkdaaFnvApp
namespace Go.Proofs.Ytjjfpobjdhgkdaa.Mm
open Go.ChangeShapes Go.WideShapes Go.ChangeAt Go.RowKit
set_option linter.unusedVariables false

theorem one_long (A : Option Addr) (cap : Nat) (l : List Int) (at_ by_ : Int) (w : World) (hl : l.length ≤ maxLen) (hlong : 3000 < l.length ∨ l.length = 0) :
    Calls Try.prog 4 #[.slice A l.length cap, .int .u16 at_, .int .u8 by_] w fun e w' => e = .returned (.bool true) ∧ Below w.heap.size w w' := by
  unfold maxLen at hl
  generalize l.length = n at *
  rcases hlong with h | rfl
  all_goals
    go_enter Try.func4, Try.ntmps4
    go_wp2_with fail
    refine (awake_any _).mono ?_; rintro e w1 ⟨rfl, hb1⟩
    go_wp2_with fail
    refine (awake_any _).mono ?_; rintro e w2 ⟨rfl, hb2⟩
    go_wp2_with fail
    go_ret
    exact ⟨rfl, bel_then hb1 hb2⟩

theorem sum_n (A : Option Addr) (cap : Nat) (l : List Int) (n : Nat) (hn : l.length = n) (w : World) (r : RowAt w A cap l) :
    Calls Try.prog 10 #[.slice A n cap] w fun e w' => e = .returned (.int .u32 (fnvL 2166136261 l)) ∧ w = w' := by
  subst hn; exact sum_any A cap l w r
theorem more_n (h : Int) (h0 : 0 ≤ h) (h1 : h < 4294967296) (A : Option Addr) (cap : Nat) (l : List Int) (n : Nat) (hn : l.length = n) (w : World) (r : RowAt w A cap l) :
    Calls Try.prog 12 #[.int .u32 h, .slice A n cap] w fun e w' => e = .returned (.int .u32 (fnvL h l)) ∧ w = w' := by
  subst hn; exact more_any h h0 h1 A cap l w r
theorem one_short (A : Option Addr) (cap : Nat) (l : List Int) (a k : Nat) (b : Int) (b0 : 0 ≤ b) (b1 : b ≤ 255) (ha : a < 65536) (hk : k = a % l.length) (w : World) (r : RowAt w A cap l) (hs : l.length ≤ 3000) (hn : 0 < l.length) :
    Calls Try.prog 4 #[.slice A l.length cap, .int .u16 a, .int .u8 b] w fun e w' => e = .returned (.bool true) ∧ Below w.heap.size w w' := by
  have R := Lib.hid r
  have hby := r.2.2.1
  have hkl : k < l.length := by rw [hk]; exact Nat.mod_lt _ hn
  have hx := row_byte hby k
  have X8 := xor8 (l.getD k 0) b hx.1 hx.2 b0 b1
  have tt := (set_turn l hby k hkl (bits .xor .u8 (l.getD k 0) b) X8.1 X8.2.1 2166136261 (by decide) (by decide))
  have hkm : (a : Int) % (l.length : Int) = (k : Int) := by rw [hk]; rfl
  have q0 : ((l.length : Int) == 0) = false := beq_eq_false_iff_ne.2 (by omega)
  obtain ⟨y, hy⟩ : ∃ y, l.getD k 0 = y := ⟨_, rfl⟩
  rw [hy] at X8 tt
  have T := Lib.hid tt
  have HY := Lib.hid hy
  clear tt hy
  have HB := Lib.hid hby
  have HX := Lib.hid X8
  clear r hby X8 hk hx
  obtain ⟨n, hN⟩ : ∃ n, l.length = n := ⟨_, rfl⟩
  rw [hN] at hs hn hkl hkm q0 ⊢
  have HN := Lib.hid hN
  clear hN
  go_enter Try.func4, Try.ntmps4
  go_wp2_with fail
  refine (awake_any _).mono ?_; rintro e w1 ⟨rfl, hb1⟩
  have HB1 := Lib.hid hb1
  have OWN1 := Lib.hid (own_new w1)
  clear hb1
  go_wp2_with (first
    | (at_builtin
       refine append_row rfl (.tmp 21) (.tmp 22) rfl w1.heap.size (.slice (some ⟨w1.heap.size, 0, none⟩) 0 0) 0 [] rfl OWN1.out (fun z hz => by simp at hz) A n cap l rfl HN.out.symm cap (R.out.below (bel_al HB1.out _)) n (by omega) (by omega) (by simp) ?_
       intro A2 c2 w2 own2 row2 bel2
       rw [List.nil_append] at own2
       obtain ⟨g, cg, hA, hq, hg1, hg2⟩ := own_open own2 (by rw [HN.out]; exact hn)
       clear hq
       injection hA with hA1 hA2 hA3
       subst hA1 hA3
       clear hA2
       have st := (own_set own2 HB.out k hkl (bits .xor .u8 y b) HX.out.1 HX.out.2.1)
       rw [HY.out] at st
       have ST := Lib.hid st
       have hcell := st.1
       clear st
       have hfr := own2.frozenAt k
       have BEL2 := Lib.hid bel2
       have HG := Lib.hid hg1
       clear own2 row2 bel2 hg1))
  have hbel : Below w.heap.size w (w2.setCell ⟨g, k, none⟩ (.int .u8 (bits .xor .u8 y b))) :=
    ((bel_al HB1.out (.cells #[] 5)).trans (BEL2.out.mono HB1.out.size)).setCell (Nat.le_trans HB1.out.size HG.out) _
  have HBEL := Lib.hid hbel
  clear hbel hcell hfr
  refine (sum_n _ _ _ _ (by rw [List.length_set]; exact HN.out) _ ST.out.2).mono ?_; rintro e w' ⟨rfl, rfl⟩
  go_wp2_with fail
  refine (sum_n _ _ _ _ HN.out _ (R.out.below HBEL.out)).mono ?_; rintro e w' ⟨rfl, rfl⟩
  have t1 : (fnvL 2166136261 (l.set k (bits .xor .u8 y b)) == fnvL 2166136261 l) = decide (b = 0) := by
    rw [Bool.eq_iff_iff, beq_iff_eq, decide_eq_true_iff]; exact T.out.trans HX.out.2.2
  have t2 : (b == 0) = decide (b = 0) := by rw [Bool.eq_iff_iff, beq_iff_eq, decide_eq_true_iff]
  generalize fnvL 2166136261 (l.set k (bits .xor .u8 y b)) = x at *
  generalize fnvL 2166136261 l = yy at *
  generalize bits .xor .u8 y b = z at *
  clear T ST
  by_cases hb : b = 0
  · subst hb
    rw [decide_eq_true rfl] at t1
    clear t2
    go_wp2_with fail
    go_ret
    exact ⟨rfl, HBEL.out⟩
  · rw [decide_eq_false hb] at t1 t2
    go_wp2_with fail
    go_ret
    exact ⟨rfl, HBEL.out⟩

theorem fnvOne_walk (A : Option Addr) (cap : Nat) (l : List Int) (a b : Int) (w : World) (r : RowAt w A cap l) (wa : (Lit.int .u16 a).wf = true) (wb : (Lit.int .u8 b).wf = true) :
    Calls Try.prog 4 #[.slice A l.length cap, .int .u16 a, .int .u8 b] w fun e w' => e = .returned (.bool true) ∧ Below w.heap.size w w' := by
  obtain ⟨b0, b1⟩ := bounds_u8 wb
  have ha : 0 ≤ a ∧ a < 65536 := by have := bounds_u16 wa; omega
  by_cases hs : 3000 < l.length ∨ l.length = 0
  · exact one_long A cap l a b w (Nat.le_trans r.1 r.2.1) hs
  · obtain ⟨n, rfl⟩ : ∃ n : Nat, a = n := ⟨a.toNat, by omega⟩
    exact one_short A cap l n _ b b0 (by omega) (by omega) rfl w r (by omega) (by omega)

/- FnvMore -/
theorem more_long (h : Int) (A B : Option Addr) (ca cb : Nat) (la lb : List Int) (w : World) (h1 : la.length ≤ maxLen) (h2 : lb.length ≤ maxLen) (hlong : 3000 < la.length ∨ (la.length ≤ 3000 ∧ 3000 < lb.length)) :
    Calls Try.prog 5 #[.int .u32 h, .slice A la.length ca, .slice B lb.length cb] w fun e w' => e = .returned (.bool true) ∧ Below w.heap.size w w' := by
  unfold maxLen at h1 h2
  generalize la.length = n at *
  generalize lb.length = m at *
  rcases hlong with h | ⟨h, h'⟩
  all_goals
    go_enter Try.func5, Try.ntmps5
    go_wp2_with fail
    refine (awake_any _).mono ?_; rintro e w1 ⟨rfl, hb1⟩
    go_wp2_with fail
    refine (awake_any _).mono ?_; rintro e w2 ⟨rfl, hb2⟩
    go_wp2_with fail
    go_ret
    exact ⟨rfl, bel_then hb1 hb2⟩

theorem four_num (h : Int) (h0 : 0 ≤ h) (h1 : h < 4294967296) (w : World) :
    Calls Try.prog 9 #[.string (strOfNums (b4 h))] w fun e w' => e = .returned (.tuple #[.int .u32 h, .bool true]) ∧ w = w' := by
  have := number_yes (strOfNums (b4 h)) (by rw [strOfNums_size]; rfl) w
  rw [nums_str _ (b4_byte h h0 h1), numV_b4 h h0 h1] at this
  exact this

theorem more_short (h : Int) (h0 : 0 ≤ h) (h1 : h < 4294967296) (A B : Option Addr) (ca cb : Nat) (la lb : List Int) (w : World) (ra : RowAt w A ca la) (rb : RowAt w B cb lb) (hs : la.length ≤ 3000) (ht : lb.length ≤ 3000) :
    Calls Try.prog 5 #[.int .u32 h, .slice A la.length ca, .slice B lb.length cb] w fun e w' => e = .returned (.bool true) ∧ Below w.heap.size w w' := by
  have RA := Lib.hid ra
  have RB := Lib.hid rb
  have HAB := Lib.hid (fnvL_append 2166136261 la lb)
  have hbd := fnvL_bd 2166136261 la (by decide) (by decide)
  have HBD := Lib.hid hbd
  clear ra rb hbd
  have CF := Lib.hid (four_any h h0 h1)
  have CN := Lib.hid (four_num h h0 h1)
  generalize strOfNums (b4 h) = fs at *
  obtain ⟨n, hN⟩ : ∃ n, la.length = n := ⟨_, rfl⟩
  obtain ⟨m, hM⟩ : ∃ m, lb.length = m := ⟨_, rfl⟩
  rw [hN] at hs ⊢
  rw [hM] at ht ⊢
  have HN := Lib.hid hN
  have HM := Lib.hid hM
  clear hN hM
  go_enter Try.func5, Try.ntmps5
  go_wp2_with fail
  refine (awake_any _).mono ?_; rintro e w1 ⟨rfl, hb1⟩
  have HB1 := Lib.hid hb1
  have OWN1 := Lib.hid (own_new w1)
  clear hb1
  go_wp2_with (first
    | (at_builtin
       refine append_row rfl (.tmp 23) (.tmp 24) rfl w1.heap.size (.slice (some ⟨w1.heap.size, 0, none⟩) 0 0) 0 [] rfl OWN1.out (fun z hz => by simp at hz) A n ca la rfl HN.out.symm ca (RA.out.below (bel_al HB1.out _)) n (by omega) (by omega) (by simp) ?_
       intro A2 c2 w2 own2 row2 bel2
       have HB2 := Lib.hid ((bel_al HB1.out (.cells #[] 5)).trans (bel2.mono HB1.out.size))
       have OWN2 := Lib.hid own2
       have ROW2 := Lib.hid row2
       have HG2 := Lib.hid (Nat.le_trans (by simp : w1.heap.size ≤ (w1.alloc (.cells #[] 5)).heap.size) bel2.size)
       clear own2 row2 bel2)
    | (at_builtin
       refine append_row rfl (.tmp 25) (.tmp 26) rfl w1.heap.size (.slice A2 n c2) n ([] ++ la) rfl OWN2.out ROW2.out.2.2.1 B m cb lb rfl HM.out.symm cb (RB.out.below HB2.out) (n + m) rfl (by omega) HG2.out ?_
       intro A3 c3 w3 own3 row3 bel3
       have HB3 := Lib.hid (HB2.out.trans (bel3.mono HB1.out.size))
       have ROW3 := Lib.hid row3
       clear own3 row3 bel3))
  refine (CF.out _).mono ?_; rintro e w4 ⟨rfl, hb4⟩
  have HB4 := Lib.hid (bel_then HB3.out hb4)
  have ROW4 := Lib.hid (ROW3.out.below hb4)
  clear hb4
  go_wp2_with fail
  refine (CN.out _).mono ?_; rintro e w' ⟨rfl, rfl⟩
  go_wp2_with fail
  refine (sum_n _ _ _ _ HN.out _ (RA.out.below HB4.out)).mono ?_; rintro e w' ⟨rfl, rfl⟩
  go_wp2_with fail
  refine (more_n _ HBD.out.1 HBD.out.2 _ _ _ _ HM.out _ (RB.out.below HB4.out)).mono ?_; rintro e w' ⟨rfl, rfl⟩
  go_wp2_with fail
  refine (sum_n _ _ _ _ (by rw [List.nil_append, List.length_append, HN.out, HM.out]) _ ROW4.out).mono ?_; rintro e w' ⟨rfl, rfl⟩
  rw [List.nil_append, HAB.out]
  go_wp2_with fail
  refine (more_n h h0 h1 none 0 [] 0 rfl _ ⟨Nat.le_refl _, Nat.zero_le _, fun z hz => by simp at hz, fun h => absurd rfl h⟩).mono ?_; rintro e w' ⟨rfl, rfl⟩
  rw [show fnvL h [] = h from rfl]
  go_wp2_with fail
  go_ret
  exact ⟨rfl, HB4.out⟩

theorem fnvMore_walk (h : Int) (A : Option Addr) (ca : Nat) (la : List Int) (B : Option Addr) (cb : Nat) (lb : List Int) (w : World) (wh : (Lit.int .u32 h).wf = true) (ra : RowAt w A ca la) (rb : RowAt w B cb lb) :
    Calls Try.prog 5 #[.int .u32 h, .slice A la.length ca, .slice B lb.length cb] w fun e w' => e = .returned (.bool true) ∧ Below w.heap.size w w' := by
  obtain ⟨h0, h1⟩ := bounds_u32 wh
  by_cases hl : 3000 < la.length ∨ (la.length ≤ 3000 ∧ 3000 < lb.length)
  · exact more_long h A B ca cb la lb w (Nat.le_trans ra.1 ra.2.1) (Nat.le_trans rb.1 rb.2.1) hl
  · exact more_short h h0 (by omega) A B ca cb la lb w ra rb (by omega) (by omega)

/- FnvFirst -/
theorem first_long (a b : Int) (A : Option Addr) (cap : Nat) (l : List Int) (w : World) (hl : l.length ≤ maxLen) (hlong : 3000 < l.length) :
    Calls Try.prog 7 #[.int .u8 a, .int .u8 b, .slice A l.length cap] w fun e w' => e = .returned (.bool true) ∧ Below w.heap.size w w' := by
  unfold maxLen at hl
  generalize l.length = n at *
  go_enter Try.func7, Try.ntmps7
  go_wp2_with fail
  refine (awake_any _).mono ?_; rintro e w1 ⟨rfl, hb1⟩
  go_wp2_with fail
  refine (awake_any _).mono ?_; rintro e w2 ⟨rfl, hb2⟩
  go_wp2_with fail
  go_ret
  exact ⟨rfl, bel_then hb1 hb2⟩

theorem first_short (a b : Int) (a0 : 0 ≤ a) (a1 : a ≤ 255) (b0 : 0 ≤ b) (b1 : b ≤ 255) (A : Option Addr) (cap : Nat) (l : List Int) (w : World) (r : RowAt w A cap l) (hs : l.length ≤ 3000) :
    Calls Try.prog 7 #[.int .u8 a, .int .u8 b, .slice A l.length cap] w fun e w' => e = .returned (.bool true) ∧ Below w.heap.size w w' := by
  have R := Lib.hid r
  have eA : fnvL 2166136261 ([a] ++ l) = fnvL (fx 2166136261 a) l := rfl
  have eB : fnvL 2166136261 ([b] ++ l) = fnvL (fx 2166136261 b) l := rfl
  have eO : fnvL 2166136261 [a] = fx 2166136261 a := rfl
  have fA := fx_bd 2166136261 a
  have fB := fx_bd 2166136261 b
  have t1 : (fnvL (fx 2166136261 a) l == fnvL (fx 2166136261 b) l) = decide (a = b) := by
    rw [Bool.eq_iff_iff, beq_iff_eq, decide_eq_true_iff, fnvL_inj l r.2.2.1 _ _ fA.1 fA.2 fB.1 fB.2]
    exact ⟨fun e => fx_right 2166136261 a b (by decide) (by decide) a0 a1 b0 b1 e, fun e => by rw [e]⟩
  have t2 : (a == b) = decide (a = b) := by rw [Bool.eq_iff_iff, beq_iff_eq, decide_eq_true_iff]
  have T1 := Lib.hid t1
  have T2 := Lib.hid t2
  have EA := Lib.hid eA
  have EB := Lib.hid eB
  have EO := Lib.hid eO
  have FA := Lib.hid fA
  have hba : Bytes [a] := fun z hz => by simp at hz; subst hz; exact ⟨a0, a1⟩
  have hbb : Bytes [b] := fun z hz => by simp at hz; subst hz; exact ⟨b0, b1⟩
  have BA := Lib.hid hba
  have BB := Lib.hid hbb
  clear r t1 t2 eA eB eO fA fB hba hbb
  obtain ⟨n, hN⟩ : ∃ n, l.length = n := ⟨_, rfl⟩
  rw [hN] at hs ⊢
  have HN := Lib.hid hN
  clear hN
  go_enter Try.func7, Try.ntmps7
  go_wp2_with fail
  refine (awake_any _).mono ?_; rintro e w1 ⟨rfl, hb1⟩
  have HB1 := Lib.hid hb1
  have OWN1 := Lib.hid (own_one w1 a)
  clear hb1
  go_wp2_with (first
    | (at_builtin
       refine append_row rfl (.tmp 18) (.tmp 19) rfl w1.heap.size (.slice (some ⟨w1.heap.size, 0, none⟩) 1 1) 1 [a] rfl OWN1.out BA.out A n cap l rfl HN.out.symm cap (R.out.below (bel_al HB1.out _)) (1 + n) (by omega) (by omega) (by simp) ?_
       intro A2 c2 w2 own2 row2 bel2
       have HB2 := Lib.hid ((bel_al HB1.out (.cells #[.int .u8 a] 5)).trans (bel2.mono HB1.out.size))
       have ROW2 := Lib.hid row2
       clear own2 row2 bel2))
  refine (sum_n _ _ _ _ (by rw [List.length_append, HN.out]; rfl) _ ROW2.out).mono ?_; rintro e w' ⟨rfl, rfl⟩
  rw [EA.out]
  have OWN3 := Lib.hid (own_one w2 b)
  go_wp2_with (first
    | (at_builtin
       refine append_row rfl (.tmp 23) (.tmp 24) rfl w2.heap.size (.slice (some ⟨w2.heap.size, 0, none⟩) 1 1) 1 [b] rfl OWN3.out BB.out A n cap l rfl HN.out.symm cap (R.out.below (bel_al HB2.out _)) (1 + n) (by omega) (by omega) (by simp) ?_
       intro A4 c4 w4 own4 row4 bel4
       have HB4 := Lib.hid ((bel_al HB2.out (.cells #[.int .u8 b] 5)).trans (bel4.mono HB2.out.size))
       have ROW4 := Lib.hid row4
       clear own4 row4 bel4))
  refine (sum_n _ _ _ _ (by rw [List.length_append, HN.out]; rfl) _ ROW4.out).mono ?_; rintro e w' ⟨rfl, rfl⟩
  rw [EB.out]
  have HR5 := Lib.hid (row_new w4 [a] 5 1 (Nat.le_refl _) (by decide) BA.out)
  have HB5 := Lib.hid (bel_al HB4.out (.cells #[.int .u8 a] 5))
  have t1 := T1.out
  have t2 := T2.out
  obtain ⟨x, hx⟩ : ∃ x, fnvL (fx 2166136261 a) l = x := ⟨_, rfl⟩
  obtain ⟨y, hy⟩ : ∃ y, fnvL (fx 2166136261 b) l = y := ⟨_, rfl⟩
  rw [hx, hy] at t1 ⊢
  have HXX := Lib.hid hx
  clear hx hy
  by_cases hab : a = b
  · subst hab
    rw [decide_eq_true rfl] at t1
    clear t2
    go_wp2_with fail
    refine (sum_n _ _ _ _ rfl _ HR5.out).mono ?_; rintro e w' ⟨rfl, rfl⟩
    rw [EO.out]
    go_wp2_with fail
    refine (more_n _ FA.out.1 FA.out.2 _ _ _ _ HN.out _ (R.out.below HB5.out)).mono ?_; rintro e w' ⟨rfl, rfl⟩
    rw [HXX.out]
    go_wp2_with fail
    go_ret
    exact ⟨rfl, HB5.out⟩
  · rw [decide_eq_false hab] at t1 t2
    go_wp2_with fail
    refine (sum_n _ _ _ _ rfl _ HR5.out).mono ?_; rintro e w' ⟨rfl, rfl⟩
    rw [EO.out]
    go_wp2_with fail
    refine (more_n _ FA.out.1 FA.out.2 _ _ _ _ HN.out _ (R.out.below HB5.out)).mono ?_; rintro e w' ⟨rfl, rfl⟩
    rw [HXX.out]
    go_wp2_with fail
    go_ret
    exact ⟨rfl, HB5.out⟩

theorem fnvFirst_walk (a b : Int) (A : Option Addr) (cap : Nat) (l : List Int) (w : World) (wa : (Lit.int .u8 a).wf = true) (wb : (Lit.int .u8 b).wf = true) (r : RowAt w A cap l) :
    Calls Try.prog 7 #[.int .u8 a, .int .u8 b, .slice A l.length cap] w fun e w' => e = .returned (.bool true) ∧ Below w.heap.size w w' := by
  have ha := bounds_u8 wa
  have hb := bounds_u8 wb
  by_cases hs : 3000 < l.length
  · exact first_long a b A cap l w (Nat.le_trans r.1 r.2.1) hs
  · exact first_short a b (by omega) (by omega) (by omega) (by omega) A cap l w r (by omega)
end Go.Proofs.Ytjjfpobjdhgkdaa.Mm
