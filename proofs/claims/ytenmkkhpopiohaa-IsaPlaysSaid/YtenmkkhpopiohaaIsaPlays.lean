/- The statement IsaPlays, walked. -/
import Derived.Test.YtenmkkhpopiohaaIsaRefRead
import Derived.Test.YtenmkkhpopiohaaIsaRow
namespace Go.Proofs.Ytenmkkhpopiohaa
open Go.ChangeShapes Go.WideShapes Go.ChangeAt Go.RowKit
set_option linter.unusedVariables false

/-- three blocks of four cells, in a world in which nothing that was there has changed -/
def Three (w : World) (g h i : Nat) (a b c d a' b' c' d' : Value) (w' : World) : Prop := Res w' g a b c d ∧ Res w' h a' b' c' d' ∧ Res w' i a' b' c' d' ∧ Below w.heap.size w w'
def ThreeS (w : World) (g h i : Nat) (a b c d a' b' c' d' : Value) (w' : World) : Prop :=
  ((w'.cell? ⟨g, 0, none⟩ = some a ∧ w'.cell? ⟨g, 1, none⟩ = some b ∧ w'.cell? ⟨g, 2, none⟩ = some c ∧ w'.cell? ⟨g, 3, none⟩ = some d) ∧
  (w'.cell? ⟨h, 0, none⟩ = some a' ∧ w'.cell? ⟨h, 1, none⟩ = some b' ∧ w'.cell? ⟨h, 2, none⟩ = some c' ∧ w'.cell? ⟨h, 3, none⟩ = some d') ∧
  (w'.cell? ⟨i, 0, none⟩ = some a' ∧ w'.cell? ⟨i, 1, none⟩ = some b' ∧ w'.cell? ⟨i, 2, none⟩ = some c' ∧ w'.cell? ⟨i, 3, none⟩ = some d')) ∧ Three w g h i a b c d a' b' c' d' w'
theorem Three.s {w : World} {g h i : Nat} {a b c d a' b' c' d' : Value} {w' : World} (k : Three w g h i a b c d a' b' c' d' w') : ThreeS w g h i a b c d a' b' c' d' w' := ⟨⟨k.1.2.1, k.2.1.2.1, k.2.2.1.2.1⟩, k⟩
theorem Three.below {w : World} {g h i : Nat} {a b c d a' b' c' d' : Value} {v w' : World} (k : Three w g h i a b c d a' b' c' d' v) (hb : Below v.heap.size v w') : Three w g h i a b c d a' b' c' d' w' :=
  ⟨k.1.below hb, k.2.1.below hb, k.2.2.1.below hb, bel_then k.2.2.2 hb⟩
theorem Three.drew {w : World} {g h i : Nat} {a b c d a' b' c' d' : Value} {v : World} (k : Three w g h i a b c d a' b' c' d' v) : Three w g h i a b c d a' b' c' d' v.drew := k.below (below_drew1 (Below.refl _ _))
theorem three_keep {w : World} {g h i : Nat} {a b c d a' b' c' d' : Value} {v w' : World} {P : Prop} (k : P ∧ Three w g h i a b c d a' b' c' d' v) (hb : Below v.heap.size v w') : ThreeS w g h i a b c d a' b' c' d' w' := (k.2.below hb).s

theorem plays_long (op a b imm : Int) (l : List Int) (A : Option Addr) (cap : Nat) (k : Int) (hl : l.length ≤ maxLen) (h : 5000 < l.length) (w : World) :
    Calls Try.prog 5 #[.agg #[.int .i64 op, .int .i64 a, .int .i64 b, .int .u32 imm], .slice A l.length cap, .int .i64 k] w fun e w' => e = .returned (.bool true) ∧ Below w.heap.size w w' := by
  unfold maxLen at hl
  go_enter Try.func5, Try.ntmps5
  go_wp2_with fail
  refine (awake_any _).mono ?_; rintro e w1 ⟨rfl, hb1⟩
  go_wp2_with fail
  refine (awake_any _).mono ?_; rintro e w2 ⟨rfl, hb2⟩
  go_wp2_with fail
  go_ret
  exact ⟨rfl, bel_then (bel_then (bel_al (Below.refl _ _) _) hb1) hb2⟩

set_option maxHeartbeats 8000000 in
theorem plays_true (op a b imm op' a' b' imm' n z : Int) (s : ByteArray) (l : List Int) (A : Option Addr) (cap : Nat) (k : Int) (hl : l.length ≤ 5000) (w : World)
    (c1 : ∀ w, Calls Try.prog 14 #[.agg #[.int .i64 op, .int .i64 a, .int .i64 b, .int .u32 imm]] w fun e w' => e = .returned (.bool true) ∧ Below w.heap.size w w')
    (c2 : ∀ w, Calls Try.prog 15 #[.agg #[.int .i64 op, .int .i64 a, .int .i64 b, .int .u32 imm]] w fun e w' => e = .returned (.string s) ∧ Below w.heap.size w w')
    (c3 : ∀ w1, Below w.heap.size w w1 → Calls Try.prog 12 #[.slice A l.length cap, .int .i64 k] w1 fun e w' => e = .returned (.tuple #[.agg #[.int .i64 op', .int .i64 a', .int .i64 b', .int .u32 imm'], .int .i64 n]) ∧ Below w1.heap.size w1 w')
    (c4 : ∀ w1, Below w.heap.size w w1 → Calls Try.prog 16 #[.slice A l.length cap, .int .i64 k] w1 fun e w' => e = .returned (.tuple #[.agg #[.int .i64 op', .int .i64 a', .int .i64 b', .int .u32 imm'], .int .i64 n]) ∧ Below w1.heap.size w1 w')
    (c5 : ∀ w, Calls Try.prog 11 #[.agg #[.int .i64 op, .int .i64 a, .int .i64 b, .int .u32 imm]] w fun e w' => e = .returned (.bool true) ∧ Below w.heap.size w w')
    (c6 : ∀ w, Calls Try.prog 10 #[.agg #[.int .i64 op, .int .i64 a, .int .i64 b, .int .u32 imm]] w fun e w' => e = .returned (.string s) ∧ Below w.heap.size w w')
    (c7 : ∀ w, Calls Try.prog 13 #[.int .i64 op] w fun e w' => e = .returned (.int .i64 z) ∧ Below w.heap.size w w')
    (c8 : ∀ w, Calls Try.prog 17 #[.int .i64 op] w fun e w' => e = .returned (.int .i64 z) ∧ w = w') :
    Calls Try.prog 5 #[.agg #[.int .i64 op, .int .i64 a, .int .i64 b, .int .u32 imm], .slice A l.length cap, .int .i64 k] w fun e w' => e = .returned (.bool true) ∧ Below w.heap.size w w' := by
  have C1 := Lib.hid c1; clear c1
  have C2 := Lib.hid c2; clear c2
  have C3 := Lib.hid c3; clear c3
  have C4 := Lib.hid c4; clear c4
  have C5 := Lib.hid c5; clear c5
  have C6 := Lib.hid c6; clear c6
  have C7 := Lib.hid c7; clear c7
  have C8 := Lib.hid c8; clear c8
  go_enter Try.func5, Try.ntmps5
  go_wp2_with fail
  refine (awake_any _).mono ?_; rintro e w1 ⟨rfl, hb1⟩
  have K1 := (Res.new w (.int .i64 op) (.int .i64 a) (.int .i64 b) (.int .u32 imm) 24).below hb1
  have HK1 := Lib.hid K1
  have HB1 := Lib.hid (bel_then (bel_al (Below.refl w.heap.size w) _) hb1)
  clear hb1
  obtain ⟨x0, ⟨x1, x2, x3, x4⟩, _⟩ := K1
  go_wp2_with fail
  refine (C1.out _).mono ?_; rintro e w2 ⟨rfl, hb2⟩
  clear x0 x1 x2 x3 x4
  have K2 := HK1.out.below hb2
  have HK2 := Lib.hid K2
  have HB2 := Lib.hid (bel_then HB1.out hb2)
  clear hb2 HK1 HB1
  obtain ⟨x0, ⟨x1, x2, x3, x4⟩, _⟩ := K2
  go_wp2_with fail
  refine (C2.out _).mono ?_; rintro e w3 ⟨rfl, hb3⟩
  clear x0 x1 x2 x3 x4
  have HK3 := Lib.hid (HK2.out.below hb3)
  have HB3 := Lib.hid (bel_then HB2.out hb3)
  clear hb3 HK2 HB2
  go_wp2_with fail
  refine (C3.out _ HB3.out).mono ?_; rintro e w4 ⟨rfl, hb4⟩
  have HK4 := Lib.hid ((HK3.out.below hb4).alloc (.cells #[.int .i64 op', .int .i64 a', .int .i64 b', .int .u32 imm'] 24))
  have HY4 := Lib.hid (Res.new w4 (.int .i64 op') (.int .i64 a') (.int .i64 b') (.int .u32 imm') 24)
  have HB4 := Lib.hid (bel_al (bel_then HB3.out hb4) (.cells #[.int .i64 op', .int .i64 a', .int .i64 b', .int .u32 imm'] 24))
  clear hb4 HK3 HB3
  go_wp2_with fail
  refine (C4.out _ HB4.out).mono ?_; rintro e w5 ⟨rfl, hb5⟩
  have K : Three w w.heap.size w4.heap.size w5.heap.size (.int .i64 op) (.int .i64 a) (.int .i64 b) (.int .u32 imm) (.int .i64 op') (.int .i64 a') (.int .i64 b') (.int .u32 imm') (w5.alloc (.cells #[.int .i64 op', .int .i64 a', .int .i64 b', .int .u32 imm'] 24)) :=
    ⟨(HK4.out.below hb5).alloc (.cells #[.int .i64 op', .int .i64 a', .int .i64 b', .int .u32 imm'] 24), (HY4.out.below hb5).alloc (.cells #[.int .i64 op', .int .i64 a', .int .i64 b', .int .u32 imm'] 24), Res.new w5 (.int .i64 op') (.int .i64 a') (.int .i64 b') (.int .u32 imm') 24, bel_al (bel_then HB4.out hb5) (.cells #[.int .i64 op', .int .i64 a', .int .i64 b', .int .u32 imm'] 24)⟩
  have K := Lib.hid K
  clear hb5 HK4 HY4 HB4
  go_wp2_with fail
  generalize w5.alloc (.cells #[.int .i64 op', .int .i64 a', .int .i64 b', .int .u32 imm'] 24) = W at *
  generalize w4.heap.size = g at *
  generalize w5.heap.size = h at *
  clear C1 C3 C4
  go_region_held3 (fun w' => ((w'.cell? ⟨w.heap.size, 0, none⟩ = some (.int .i64 op) ∧ w'.cell? ⟨w.heap.size, 1, none⟩ = some (.int .i64 a) ∧ w'.cell? ⟨w.heap.size, 2, none⟩ = some (.int .i64 b) ∧ w'.cell? ⟨w.heap.size, 3, none⟩ = some (.int .u32 imm)) ∧
      (w'.cell? ⟨g, 0, none⟩ = some (.int .i64 op') ∧ w'.cell? ⟨g, 1, none⟩ = some (.int .i64 a') ∧ w'.cell? ⟨g, 2, none⟩ = some (.int .i64 b') ∧ w'.cell? ⟨g, 3, none⟩ = some (.int .u32 imm')) ∧
      (w'.cell? ⟨h, 0, none⟩ = some (.int .i64 op') ∧ w'.cell? ⟨h, 1, none⟩ = some (.int .i64 a') ∧ w'.cell? ⟨h, 2, none⟩ = some (.int .i64 b') ∧ w'.cell? ⟨h, 3, none⟩ = some (.int .u32 imm'))) ∧ Three w w.heap.size g h (.int .i64 op) (.int .i64 a) (.int .i64 b) (.int .u32 imm) (.int .i64 op') (.int .i64 a') (.int .i64 b') (.int .u32 imm') w')
    (first | exact Three.s K.out | exact Three.s (Three.drew K.out) | exact three_keep ‹_ ∧ Three _ _ _ _ _ _ _ _ _ _ _ _ _› hb | assumption)
    (first | (go_at_call 11; (with_reducible refine (C5.out _).mono ?_); rintro e w' ⟨rfl, hb⟩) | (go_at_call 10; (with_reducible refine (C6.out _).mono ?_); rintro e w' ⟨rfl, hb⟩) | (go_at_call 13; (with_reducible refine (C7.out _).mono ?_); rintro e w' ⟨rfl, hb⟩) | (go_at_call 17; (with_reducible refine (C8.out _).mono ?_); rintro e w' ⟨rfl, rfl⟩))
  rename_i hh
  obtain ⟨_, K2⟩ := hh
  have HB := Lib.hid K2.2.2.2
  clear K2
  go_wp2
  go_ret
  exact ⟨rfl, HB.out⟩

set_option maxHeartbeats 8000000 in
theorem plays_false (op a b imm op' a' b' imm' n z : Int) (l : List Int) (A : Option Addr) (cap : Nat) (k : Int) (hl : l.length ≤ 5000) (w : World)
    (c1 : ∀ w, Calls Try.prog 14 #[.agg #[.int .i64 op, .int .i64 a, .int .i64 b, .int .u32 imm]] w fun e w' => e = .returned (.bool false) ∧ Below w.heap.size w w')
    (c3 : ∀ w1, Below w.heap.size w w1 → Calls Try.prog 12 #[.slice A l.length cap, .int .i64 k] w1 fun e w' => e = .returned (.tuple #[.agg #[.int .i64 op', .int .i64 a', .int .i64 b', .int .u32 imm'], .int .i64 n]) ∧ Below w1.heap.size w1 w')
    (c4 : ∀ w1, Below w.heap.size w w1 → Calls Try.prog 16 #[.slice A l.length cap, .int .i64 k] w1 fun e w' => e = .returned (.tuple #[.agg #[.int .i64 op', .int .i64 a', .int .i64 b', .int .u32 imm'], .int .i64 n]) ∧ Below w1.heap.size w1 w')
    (c5 : ∀ w, Calls Try.prog 11 #[.agg #[.int .i64 op, .int .i64 a, .int .i64 b, .int .u32 imm]] w fun e w' => e = .returned (.bool false) ∧ Below w.heap.size w w')
    (c6 : ∀ w, Calls Try.prog 10 #[.agg #[.int .i64 op, .int .i64 a, .int .i64 b, .int .u32 imm]] w fun e w' => e = .returned (.string ⟨#[]⟩) ∧ Below w.heap.size w w')
    (c7 : ∀ w, Calls Try.prog 13 #[.int .i64 op] w fun e w' => e = .returned (.int .i64 z) ∧ Below w.heap.size w w')
    (c8 : ∀ w, Calls Try.prog 17 #[.int .i64 op] w fun e w' => e = .returned (.int .i64 z) ∧ w = w') :
    Calls Try.prog 5 #[.agg #[.int .i64 op, .int .i64 a, .int .i64 b, .int .u32 imm], .slice A l.length cap, .int .i64 k] w fun e w' => e = .returned (.bool true) ∧ Below w.heap.size w w' := by
  have C1 := Lib.hid c1; clear c1
  have C3 := Lib.hid c3; clear c3
  have C4 := Lib.hid c4; clear c4
  have C5 := Lib.hid c5; clear c5
  have C6 := Lib.hid c6; clear c6
  have C7 := Lib.hid c7; clear c7
  have C8 := Lib.hid c8; clear c8
  go_enter Try.func5, Try.ntmps5
  go_wp2_with fail
  refine (awake_any _).mono ?_; rintro e w1 ⟨rfl, hb1⟩
  have K1 := (Res.new w (.int .i64 op) (.int .i64 a) (.int .i64 b) (.int .u32 imm) 24).below hb1
  have HK1 := Lib.hid K1
  have HB1 := Lib.hid (bel_then (bel_al (Below.refl w.heap.size w) _) hb1)
  clear hb1
  obtain ⟨x0, ⟨x1, x2, x3, x4⟩, _⟩ := K1
  go_wp2_with fail
  refine (C1.out _).mono ?_; rintro e w2 ⟨rfl, hb2⟩
  clear x0 x1 x2 x3 x4
  have HK3 := Lib.hid (HK1.out.below hb2)
  have HB3 := Lib.hid (bel_then HB1.out hb2)
  clear hb2 HK1 HB1
  go_wp2_with fail
  refine (C3.out _ HB3.out).mono ?_; rintro e w4 ⟨rfl, hb4⟩
  have HK4 := Lib.hid ((HK3.out.below hb4).alloc (.cells #[.int .i64 op', .int .i64 a', .int .i64 b', .int .u32 imm'] 24))
  have HY4 := Lib.hid (Res.new w4 (.int .i64 op') (.int .i64 a') (.int .i64 b') (.int .u32 imm') 24)
  have HB4 := Lib.hid (bel_al (bel_then HB3.out hb4) (.cells #[.int .i64 op', .int .i64 a', .int .i64 b', .int .u32 imm'] 24))
  clear hb4 HK3 HB3
  go_wp2_with fail
  refine (C4.out _ HB4.out).mono ?_; rintro e w5 ⟨rfl, hb5⟩
  have K : Three w w.heap.size w4.heap.size w5.heap.size (.int .i64 op) (.int .i64 a) (.int .i64 b) (.int .u32 imm) (.int .i64 op') (.int .i64 a') (.int .i64 b') (.int .u32 imm') (w5.alloc (.cells #[.int .i64 op', .int .i64 a', .int .i64 b', .int .u32 imm'] 24)) :=
    ⟨(HK4.out.below hb5).alloc (.cells #[.int .i64 op', .int .i64 a', .int .i64 b', .int .u32 imm'] 24), (HY4.out.below hb5).alloc (.cells #[.int .i64 op', .int .i64 a', .int .i64 b', .int .u32 imm'] 24), Res.new w5 (.int .i64 op') (.int .i64 a') (.int .i64 b') (.int .u32 imm') 24, bel_al (bel_then HB4.out hb5) (.cells #[.int .i64 op', .int .i64 a', .int .i64 b', .int .u32 imm'] 24)⟩
  have K := Lib.hid K
  clear hb5 HK4 HY4 HB4
  go_wp2_with fail
  generalize w5.alloc (.cells #[.int .i64 op', .int .i64 a', .int .i64 b', .int .u32 imm'] 24) = W at *
  generalize w4.heap.size = g at *
  generalize w5.heap.size = h at *
  clear C1 C3 C4
  go_region_held3 (fun w' => ((w'.cell? ⟨w.heap.size, 0, none⟩ = some (.int .i64 op) ∧ w'.cell? ⟨w.heap.size, 1, none⟩ = some (.int .i64 a) ∧ w'.cell? ⟨w.heap.size, 2, none⟩ = some (.int .i64 b) ∧ w'.cell? ⟨w.heap.size, 3, none⟩ = some (.int .u32 imm)) ∧
      (w'.cell? ⟨g, 0, none⟩ = some (.int .i64 op') ∧ w'.cell? ⟨g, 1, none⟩ = some (.int .i64 a') ∧ w'.cell? ⟨g, 2, none⟩ = some (.int .i64 b') ∧ w'.cell? ⟨g, 3, none⟩ = some (.int .u32 imm')) ∧
      (w'.cell? ⟨h, 0, none⟩ = some (.int .i64 op') ∧ w'.cell? ⟨h, 1, none⟩ = some (.int .i64 a') ∧ w'.cell? ⟨h, 2, none⟩ = some (.int .i64 b') ∧ w'.cell? ⟨h, 3, none⟩ = some (.int .u32 imm'))) ∧ Three w w.heap.size g h (.int .i64 op) (.int .i64 a) (.int .i64 b) (.int .u32 imm) (.int .i64 op') (.int .i64 a') (.int .i64 b') (.int .u32 imm') w')
    (first | exact Three.s K.out | exact Three.s (Three.drew K.out) | exact three_keep ‹_ ∧ Three _ _ _ _ _ _ _ _ _ _ _ _ _› hb | assumption)
    (first | (go_at_call 11; (with_reducible refine (C5.out _).mono ?_); rintro e w' ⟨rfl, hb⟩) | (go_at_call 10; (with_reducible refine (C6.out _).mono ?_); rintro e w' ⟨rfl, hb⟩) | (go_at_call 13; (with_reducible refine (C7.out _).mono ?_); rintro e w' ⟨rfl, hb⟩) | (go_at_call 17; (with_reducible refine (C8.out _).mono ?_); rintro e w' ⟨rfl, rfl⟩))
  rename_i hh
  obtain ⟨_, K2⟩ := hh
  have HB := Lib.hid K2.2.2.2
  clear K2
  go_wp2
  go_ret
  exact ⟨rfl, HB.out⟩

theorem isaPlays_walk (op a b imm : Int) (A : Option Addr) (cap : Nat) (l : List Int) (k : Int) (w : World) (w1 : (Lit.int .i64 op).wf = true) (w2 : (Lit.int .i64 a).wf = true) (w3 : (Lit.int .i64 b).wf = true) (w4 : (Lit.int .u32 imm).wf = true) (hr : RowAt w A cap l) (wk : (Lit.int .i64 k).wf = true) :
    Calls Try.prog 5 #[.agg #[.int .i64 op, .int .i64 a, .int .i64 b, .int .u32 imm], .slice A l.length cap, .int .i64 k] w fun e w' => e = .returned (.bool true) ∧ Below w.heap.size w w' := by
  obtain ⟨i0, i1⟩ := bounds_u32 w4
  have i1' : imm < 4294967296 := by omega
  have hlen : l.length ≤ maxLen := Nat.le_trans hr.1 hr.2.1
  by_cases h5 : 5000 < l.length
  · exact plays_long op a b imm l A cap k hlen h5 w
  have h5' : l.length ≤ 5000 := by omega
  have q1 := rRight_any op a b imm i0 i1'
  have q2 := Right_any op a b imm i0 i1'
  have q3 := Lay_any op a b imm i0 i1'
  have hread : ∃ op' a' b' imm' n, (∀ w1, Below w.heap.size w w1 → Calls Try.prog 12 #[.slice A l.length cap, .int .i64 k] w1 fun e w' => e = .returned (insV op' a' b' imm' n) ∧ Below w1.heap.size w1 w') ∧
      (∀ w1, Below w.heap.size w w1 → Calls Try.prog 16 #[.slice A l.length cap, .int .i64 k] w1 fun e w' => e = .returned (insV op' a' b' imm' n) ∧ Below w1.heap.size w1 w') := by
    by_cases hn : k < 0 ∨ (l.length : Int) ≤ k ∨ rdB (l.drop k.toNat) = false
    · exact ⟨0, 0, 0, 0, 0, fun w1 hb => Read_no l A cap k (by omega) hn w1 (hr.below hb), fun w1 hb => rRead_no l A cap k (by omega) hn w1 (hr.below hb)⟩
    · obtain ⟨j, rfl⟩ : ∃ j : Nat, k = j := ⟨k.toNat, by omega⟩
      rcases rd_or (l.drop j) with h0 | ⟨op', a', b', imm', n, h0⟩
      · exact absurd (.inr (.inr h0)) hn
      · exact ⟨op', a', b', imm', n, fun w1 hb => Read_yes l A cap j op' a' b' imm' n (by omega) h0 w1 (hr.below hb), fun w1 hb => rRead_yes l A cap j op' a' b' imm' n (by omega) h0 w1 (hr.below hb)⟩
  obtain ⟨op', a', b', imm', n, g1, g2⟩ := hread
  cases hR : rightB op a b imm
  · rw [hR] at q1 q2
    rw [layL_no hR] at q3
    exact plays_false op a b imm op' a' b' imm' n (szO op) l A cap k h5' w q1 g1 g2 q2 q3 (Size_any op) (rSize_any op)
  · rw [hR] at q1 q2
    exact plays_true op a b imm op' a' b' imm' n (szO op) _ l A cap k h5' w q1 (rLay_any op a b imm hR i0 i1') g1 g2 q2 q3 (Size_any op) (rSize_any op)
end Go.Proofs.Ytenmkkhpopiohaa
