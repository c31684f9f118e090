/- The statement SlabPlays, walked, over the contracts of package slab. -/
import Derived.Test.YtalglocplebonaaSlabRef
namespace Go.Proofs.Ytalglocplebonaa.Mm
open Go.ChangeShapes Go.WideShapes Go.ChangeAt Go.RowKit
set_option linter.unusedVariables false

/-- the four ways: not right; no size; no place; a place -/
theorem take_ways (L : List Rg) (m s : Int) :
    (rgtB L m = false ∧ takeE L m s = 12 ∧ takeR L m s = (0, 0)) ∨
    (rgtB L m = true ∧ powS s = false ∧ takeE L m s = 1 ∧ takeR L m s = (0, 0)) ∨
    (rgtB L m = true ∧ powS s = true ∧ takeV L m s < 0 ∧ takeE L m s = 7 ∧ takeR L m s = (0, 0)) ∨
    (rgtB L m = true ∧ powS s = true ∧ 0 ≤ takeV L m s ∧ takeE L m s = 0 ∧ takeR L m s = (takeV L m s, s)) := by
  unfold takeR takeE
  cases h1 : rgtB L m with
  | false => simp
  | true =>
    cases h2 : powS s with
    | false => simp
    | true =>
      by_cases h3 : takeV L m s < 0
      · simp [h3]
      · right; right; right
        simp [h3]; omega
set_option maxRecDepth 10000 in
set_option maxHeartbeats 4000000 in
theorem vplays11_few (AW : Hid AwS) (TC : Hid TakeC) (RC : Hid RightC) (A0 : Option Addr) (ca n : Nat) (L : List Rg) (hl : L.length = n) (hn : n ≤ 100) (m s : Int) (hm : I64r m) (hs : I64r s) (w : World) (rA : RgRow w A0 ca L) :
    Calls Try.prog 3 #[.slice A0 n ca, .int .i64 m, .int .i64 s] w fun e w' => e = .returned (.bool true) ∧ Below w.heap.size w w' := by
  have OF := Lib.hid (fun w' (b : Below w.heap.size w w') => of_any A0 ca n L hl hn w' (rA.below b))
  have RR := Lib.hid (fun w' (b : Below w.heap.size w w') => rright_any A0 ca n L m hl hn hm w' (rA.below b))
  have RT := Lib.hid (fun h1 h2 w' (b : Below w.heap.size w w') => rtake_any A0 ca n L m s hl hn (rgt_iff.1 h1) h2 w' (rA.below b))
  have PW := Lib.hid (fun w => rpow_any s w)
  have T1 := Lib.hid (fun A c w' (r : RgRow w' A c L) => TC.out A c n L m s hl (by omega) hm hs w' r)
  have R1 := Lib.hid (fun A c w' (r : RgRow w' A c L) => RC.out A c n L m hl (by omega) hm w' r)
  have HW := Lib.hid (take_ways L m s)
  clear rA hl
  generalize rgtB L m = q at *
  generalize powS s = p at *
  generalize takeE L m s = er at *
  generalize takeR L m s = rr at *
  generalize takeV L m s = tv at *
  obtain ⟨ra, rb⟩ := rr
  simp only at T1
  have HM := Lib.hid hm
  have HS := Lib.hid hs
  clear hm hs
  go_enter Try.func3, Try.ntmps3
  go_wp2_with fail
  refine (AW.out _).mono ?_; rintro e w1 ⟨rfl, hb1⟩
  have B1 := Lib.hid hb1; clear hb1
  go_wp2_with fail
  refine (RR.out _ B1.out).mono ?_; rintro e w2 ⟨rfl, hb2⟩
  have B2 := Lib.hid (bel_then B1.out hb2); clear hb2
  go_wp2_with fail
  refine (OF.out _ B2.out).mono ?_; rintro e w3 ⟨A3, c3, rfl, r3, hb3⟩
  have B3 := Lib.hid (bel_then B2.out hb3)
  have R3 := Lib.hid r3
  clear hb3 r3
  go_wp2_with fail
  refine (T1.out _ _ _ R3.out).mono ?_; rintro e w4 ⟨rfl, hb4⟩
  have B4 := Lib.hid (bel_al (bel_then B3.out hb4) (.cells #[.int .i64 ra, .int .i64 rb] 26))
  have H4 := Lib.hid (HasB.new w4 26 [.int .i64 ra, .int .i64 rb])
  clear hb4
  go_wp2_with fail
  refine (OF.out _ B4.out).mono ?_; rintro e w5 ⟨A5, c5, rfl, r5, hb5⟩
  have B5 := Lib.hid (bel_then B4.out hb5)
  have H5 := Lib.hid (H4.out.below hb5)
  have R5 := Lib.hid r5
  clear hb5 r5 B4 H4
  go_wp2_with fail
  refine (R1.out _ _ _ R5.out).mono ?_; rintro e w6 ⟨rfl, hb6⟩
  have B6 := Lib.hid (bel_then B5.out hb6)
  have H6 := Lib.hid (H5.out.below hb6)
  clear hb6 B5 H5
  generalize w4.heap.size = g at *
  rcases HW.out with ⟨rfl, rfl, h⟩ | ⟨rfl, rfl, rfl, h⟩ | ⟨rfl, rfl, hv, rfl, h⟩ | ⟨rfl, rfl, hv, rfl, h⟩
  · obtain ⟨rfl, rfl⟩ := Prod.mk.inj h
    have y0 := H6.out.cell 0
    have y1 := H6.out.cell 1
    simp at y0 y1
    clear h HW
    go_wp2_with fail
    go_ret
    exact ⟨rfl, B6.out⟩
  · obtain ⟨rfl, rfl⟩ := Prod.mk.inj h
    have y0 := H6.out.cell 0
    have y1 := H6.out.cell 1
    simp at y0 y1
    clear h HW
    go_wp2_with fail
    refine (PW.out _).mono ?_; rintro e w7 ⟨rfl, rfl⟩
    go_wp2_with fail
    go_ret
    exact ⟨rfl, B6.out⟩
  · obtain ⟨rfl, rfl⟩ := Prod.mk.inj h
    clear h HW
    have RT2 := Lib.hid (RT.out rfl rfl)
    go_wp2_with fail
    refine (PW.out _).mono ?_; rintro e w7 ⟨rfl, rfl⟩
    go_wp2_with fail
    refine (RT2.out _ B6.out).mono ?_; rintro e w8 ⟨rfl, hb8⟩
    have B8 := Lib.hid (bel_then B6.out hb8)
    have H8 := Lib.hid (H6.out.below hb8)
    have y0 := H8.out.cell 0
    have y1 := H8.out.cell 1
    simp at y0 y1
    clear hb8
    go_wp2_with fail
    go_ret
    exact ⟨rfl, B8.out⟩
  · obtain ⟨rfl, rfl⟩ := Prod.mk.inj h
    clear h HW
    have RT2 := Lib.hid (RT.out rfl rfl)
    have hv' : ¬ (ra < 0) := by omega
    go_wp2_with fail
    refine (PW.out _).mono ?_; rintro e w7 ⟨rfl, rfl⟩
    go_wp2_with fail
    refine (RT2.out _ B6.out).mono ?_; rintro e w8 ⟨rfl, hb8⟩
    have B8 := Lib.hid (bel_then B6.out hb8)
    have H8 := Lib.hid (H6.out.below hb8)
    have y0 := H8.out.cell 0
    have y1 := H8.out.cell 1
    simp at y0 y1
    clear hb8
    go_wp2_with fail
    go_ret
    exact ⟨rfl, B8.out⟩
theorem vplays11_long (AW : Hid AwS) (A0 : Option Addr) (ca n : Nat) (h1 : n ≤ maxLen) (h : 100 < n) (m s : Int) (w : World) :
    Calls Try.prog 3 #[.slice A0 n ca, .int .i64 m, .int .i64 s] w fun e w' => e = .returned (.bool true) ∧ Below w.heap.size w w' := by
  unfold maxLen at h1
  go_enter Try.func3, Try.ntmps3
  go_wp2_with fail
  refine (AW.out _).mono ?_; rintro e w1 ⟨rfl, hb1⟩
  have B1 := Lib.hid hb1
  clear hb1
  go_wp2_with fail
  refine (AW.out _).mono ?_; rintro e w2 ⟨rfl, hb2⟩
  have B2 := Lib.hid (bel_then B1.out hb2); clear hb2
  go_wp2_with fail
  go_ret
  exact ⟨rfl, B2.out⟩
theorem vplays11 (AW : Hid AwS) (TC : Hid TakeC) (RC : Hid RightC) (A0 : Option Addr) (ca n : Nat) (m s : Int) (hm : (Lit.int .i64 m).wf = true) (hs : (Lit.int .i64 s).wf = true) (w : World) (rA : ∃ L : List Rg, n = L.length ∧ RgRow w A0 ca L) :
    Calls Try.prog 3 #[.slice A0 n ca, .int .i64 m, .int .i64 s] w fun e w' => e = .returned (.bool true) ∧ Below w.heap.size w w' := by
  obtain ⟨L, hl, rA⟩ := rA
  have h3 : ∀ z : Int, (Lit.int .i64 z).wf = true → I64r z := fun z h => by
    simp [Lit.wf] at h
    have h1 : IntKind.i64.min = -9223372036854775808 := by decide
    have h2 : IntKind.i64.max = 9223372036854775807 := by decide
    unfold I64r; omega
  by_cases h : n ≤ 100
  · exact vplays11_few AW TC RC A0 ca n L hl.symm h m s (h3 m hm) (h3 s hs) w rA
  · exact vplays11_long AW A0 ca n (by rw [hl]; exact Nat.le_trans rA.1 rA.2.1) (by omega) m s w
end Go.Proofs.Ytalglocplebonaa.Mm
