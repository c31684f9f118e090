/- The statement SlabApart, walked, over the contracts of package slab. -/
import Derived.Test.YtalglocplebonaaSlabC
namespace Go.Proofs.Ytalglocplebonaa.Mm
open Go.ChangeShapes Go.WideShapes Go.ChangeAt Go.RowKit
set_option linter.unusedVariables false

def mineB (r : Rg) (at_ g : Int) : Bool := decide (r.1 - g ≤ at_) && decide (at_ < r.1 + r.2 + g)
set_option maxHeartbeats 1000000 in
theorem rmine_any (r : Rg) (at_ g : Int) (h1 : -100000 ≤ r.1 ∧ r.1 ≤ 100000 ∧ -100000 ≤ r.2 ∧ r.2 ≤ 100000) (h2 : -100000 ≤ at_ ∧ at_ ≤ 100000) (h3 : 0 ≤ g ∧ g ≤ 100) (w : World) :
    Calls Try.prog 19 #[.agg #[.int .i64 r.1, .int .i64 r.2], .int .i64 at_, .int .i64 g] w fun e w' => e = .returned (.bool (mineB r at_ g)) ∧ Below w.heap.size w w' := by
  obtain ⟨b, s⟩ := r
  simp only at h1 ⊢
  obtain ⟨b0, b1, s0, s1⟩ := h1
  obtain ⟨a0, a1⟩ := h2
  obtain ⟨g0, g1⟩ := h3
  go_enter Try.func19, Try.ntmps19
  by_cases k1 : b - g ≤ at_
  · by_cases k2 : at_ < b + s + g
    · go_wp2_with fail
      go_ret
      refine ⟨?_, ?_⟩
      · simp [mineB, k1, k2]
      · exact bel_al (Below.refl _ _) _
    · go_wp2_with fail
      go_ret
      refine ⟨?_, ?_⟩
      · simp [mineB, k1, k2]
      · exact bel_al (Below.refl _ _) _
  · go_wp2_with fail
    go_ret
    refine ⟨?_, ?_⟩
    · simp [mineB]; omega
    · exact bel_al (Below.refl _ _) _

theorem mine_not {a b : Rg} (z : Int) (h : (a.1 ≤ z ∧ z < a.1 + a.2 → ¬(b.1 - 64 ≤ z ∧ z < b.1 + b.2 + 64)) ∧ (b.1 ≤ z ∧ z < b.1 + b.2 → ¬(a.1 - 64 ≤ z ∧ z < a.1 + a.2 + 64))) :
    (mineB a z 0 = true → mineB b z 64 = false) ∧ (mineB b z 0 = true → mineB a z 64 = false) := by
  have e : ∀ (r : Rg) (g : Int), mineB r z g = true ↔ (r.1 - g ≤ z ∧ z < r.1 + r.2 + g) := fun r g => by simp [mineB]
  refine ⟨fun k => ?_, fun k => ?_⟩
  · have k1 := (e _ _).1 k
    cases hm : mineB b z 64 with
    | false => rfl
    | true => exact absurd ((e _ _).1 hm) (h.1 (by omega))
  · have k1 := (e _ _).1 k
    cases hm : mineB a z 64 with
    | false => rfl
    | true => exact absurd ((e _ _).1 hm) (h.2 (by omega))
def InR (r : Rg) : Prop := -1000 ≤ r.1 ∧ r.1 ≤ 2000 ∧ 0 ≤ r.2 ∧ r.2 ≤ 500
set_option maxHeartbeats 4000000 in
theorem vapart_1 (AW : Hid AwS) (PC : Hid ApartC) (a b : Rg) (ha : InR a) (hb : InR b) (hk : a.1 + a.2 + 64 ≤ b.1) (w : World) :
    Calls Try.prog 5 #[.agg #[.int .i64 a.1, .int .i64 a.2], .agg #[.int .i64 b.1, .int .i64 b.2]] w fun e w' => e = .returned (.bool true) ∧ Below w.heap.size w w' := by
  have MA := Lib.hid (fun at_ g h2 h3 w => rmine_any a at_ g (by unfold InR at ha; omega) h2 h3 w)
  have MB := Lib.hid (fun at_ g h2 h3 w => rmine_any b at_ g (by unfold InR at hb; omega) h2 h3 w)
  have P1 := Lib.hid (PC.out a b (by unfold InR at ha; omega) (by unfold InR at hb; omega))
  have Q := Lib.hid (fun (h : apartE a b = true) at_ => And.intro (apart_byte h (by unfold InR at hb; omega) (by unfold InR at ha; omega) at_) (apart_byte (a := b) (b := a) (by rw [apart_comm]; exact h) (by unfold InR at ha; omega) (by unfold InR at hb; omega) at_))
  have E := Lib.hid (show apartE a b = (decide (a.1 + a.2 + 64 ≤ b.1) || decide (b.1 + b.2 + 64 ≤ a.1)) from rfl)
  obtain ⟨a1, a2⟩ := a
  obtain ⟨b1, b2⟩ := b
  unfold InR at ha hb
  simp only at *
  obtain ⟨a3, a4, a5, a6⟩ := ha
  obtain ⟨b3, b4, b5, b6⟩ := hb
  go_enter Try.func5, Try.ntmps5
  go_wp2_with fail
  refine (AW.out _).mono ?_; rintro e w1 ⟨rfl, hb1⟩
  have HA := Lib.hid (((HasB.new w 42 [.int .i64 a1, .int .i64 a2]).below (bel_al (Below.refl _ _) (.cells #[.int .i64 b1, .int .i64 b2] 42))).below hb1)
  have HB := Lib.hid (((HasB.new (w.alloc (.cells #[.int .i64 a1, .int .i64 a2] 42)) 42 [.int .i64 b1, .int .i64 b2])).below hb1)
  have B1 := Lib.hid (bel_then (bel_al (bel_al (Below.refl _ w) (.cells #[.int .i64 a1, .int .i64 a2] 42)) (.cells #[.int .i64 b1, .int .i64 b2] 42)) hb1)
  have hs : (w.alloc (.cells #[.int .i64 a1, .int .i64 a2] 42)).heap.size = w.heap.size + 1 := by simp
  rw [hs] at HB
  clear hb1 hs
  generalize w.heap.size + 1 = g2 at *
  have ca0 := HA.out.cell 0
  have ca1 := HA.out.cell 1
  have cb0 := HB.out.cell 0
  have cb1 := HB.out.cell 1
  simp at ca0 ca1 cb0 cb1
  go_wp2_with fail
  refine (P1.out _).mono ?_; rintro e w2 ⟨rfl, hb2⟩
  have HA2 := Lib.hid (HA.out.below hb2)
  have HB2 := Lib.hid (HB.out.below hb2)
  have B2 := Lib.hid (bel_then B1.out hb2)
  clear hb2 ca0 ca1 cb0 cb1 HA HB B1 P1
  have ca0 := HA2.out.cell 0
  have ca1 := HA2.out.cell 1
  have cb0 := HB2.out.cell 0
  have cb1 := HB2.out.cell 1
  simp at ca0 ca1 cb0 cb1
  have EW : Hid (apartE (a1, a2) (b1, b2) = (decide (a1 + a2 + 64 ≤ b1) || decide (b1 + b2 + 64 ≤ a1))) := E
  generalize hi : apartE (a1, a2) (b1, b2) = is at *
  have IS := Lib.hid hi
  clear hi E
  go_wp2_with fail
  generalize hq : w2 = wq at *
  clear hq ca0 ca1 cb0 cb1
  go_loopw [7] (fun v wr => ∃ (z : Int), v = .int .i64 z ∧ -1100 ≤ z ∧ z ≤ 2600 ∧ Hid (HasB wr w.heap.size 42 [.int .i64 a1, .int .i64 a2]) ∧ Hid (HasB wr g2 42 [.int .i64 b1, .int .i64 b2]) ∧ Hid (Below w.heap.size w wr)) (fun v _ => (2600 - intOf v).toNat)
  case atStart => exact ⟨-1100, rfl, by omega, by omega, HA2, HB2, B2⟩
  case round =>
    clear HA2 HB2 B2
    obtain ⟨z, rfl, hz1, hz2, HA, HB, B⟩ := hrel
    have ca0 := HA.out.cell 0
    have ca1 := HA.out.cell 1
    have cb0 := HB.out.cell 0
    have cb1 := HB.out.cell 1
    simp at ca0 ca1 cb0 cb1
    by_cases hz : z < 2600
    · have MA0 := Lib.hid (fun w => MA.out z 0 (by omega) (by omega) w)
      have MA6 := Lib.hid (fun w => MA.out z 64 (by omega) (by omega) w)
      have MB0 := Lib.hid (fun w => MB.out z 0 (by omega) (by omega) w)
      have MB6 := Lib.hid (fun w => MB.out z 64 (by omega) (by omega) w)
      cases is
      · go_wp2_with fail
        go_roundw
        case rel => exact ⟨z + 1, rfl, by omega, by omega, HA, HB, B⟩
        case measure => simp [intOf]; omega
      · have F := Lib.hid (mine_not (a := (a1, a2)) (b := (b1, b2)) z (Q.out rfl z))
        generalize mineB (a1, a2) z 0 = m1 at *
        generalize mineB (b1, b2) z 64 = m2 at *
        generalize mineB (b1, b2) z 0 = m3 at *
        generalize mineB (a1, a2) z 64 = m4 at *
        cases m1
        · cases m3
          · go_wp2_with fail
            refine (MA0.out _).mono ?_; rintro e v1 ⟨rfl, hv⟩
            have HA1 := Lib.hid (HA.out.below hv)
            have HB1 := Lib.hid (HB.out.below hv)
            have B1 := Lib.hid (bel_then B.out hv)
            clear hv
            have ca01 := HA1.out.cell 0
            have ca11 := HA1.out.cell 1
            have cb01 := HB1.out.cell 0
            have cb11 := HB1.out.cell 1
            simp at ca01 ca11 cb01 cb11
            go_wp2_with fail
            refine (MB0.out _).mono ?_; rintro e v2 ⟨rfl, hv⟩
            have HA2 := Lib.hid (HA1.out.below hv)
            have HB2 := Lib.hid (HB1.out.below hv)
            have B2 := Lib.hid (bel_then B1.out hv)
            clear hv
            have ca02 := HA2.out.cell 0
            have ca12 := HA2.out.cell 1
            have cb02 := HB2.out.cell 0
            have cb12 := HB2.out.cell 1
            simp at ca02 ca12 cb02 cb12
            go_wp2_with fail
            go_roundw
            case rel => exact ⟨z + 1, rfl, by omega, by omega, HA2, HB2, B2⟩
            case measure => simp [intOf]; omega
          · have e4 : m4 = false := F.out.2 rfl
            subst e4
            go_wp2_with fail
            refine (MA0.out _).mono ?_; rintro e v1 ⟨rfl, hv⟩
            have HA1 := Lib.hid (HA.out.below hv)
            have HB1 := Lib.hid (HB.out.below hv)
            have B1 := Lib.hid (bel_then B.out hv)
            clear hv
            have ca01 := HA1.out.cell 0
            have ca11 := HA1.out.cell 1
            have cb01 := HB1.out.cell 0
            have cb11 := HB1.out.cell 1
            simp at ca01 ca11 cb01 cb11
            go_wp2_with fail
            refine (MB0.out _).mono ?_; rintro e v2 ⟨rfl, hv⟩
            have HA2 := Lib.hid (HA1.out.below hv)
            have HB2 := Lib.hid (HB1.out.below hv)
            have B2 := Lib.hid (bel_then B1.out hv)
            clear hv
            have ca02 := HA2.out.cell 0
            have ca12 := HA2.out.cell 1
            have cb02 := HB2.out.cell 0
            have cb12 := HB2.out.cell 1
            simp at ca02 ca12 cb02 cb12
            go_wp2_with fail
            refine (MA6.out _).mono ?_; rintro e v3 ⟨rfl, hv⟩
            have HA3 := Lib.hid (HA2.out.below hv)
            have HB3 := Lib.hid (HB2.out.below hv)
            have B3 := Lib.hid (bel_then B2.out hv)
            clear hv
            have ca03 := HA3.out.cell 0
            have ca13 := HA3.out.cell 1
            have cb03 := HB3.out.cell 0
            have cb13 := HB3.out.cell 1
            simp at ca03 ca13 cb03 cb13
            go_wp2_with fail
            go_roundw
            case rel => exact ⟨z + 1, rfl, by omega, by omega, HA3, HB3, B3⟩
            case measure => simp [intOf]; omega
        · have e2 : m2 = false := F.out.1 rfl
          subst e2
          cases m3
          · go_wp2_with fail
            refine (MA0.out _).mono ?_; rintro e v1 ⟨rfl, hv⟩
            have HA1 := Lib.hid (HA.out.below hv)
            have HB1 := Lib.hid (HB.out.below hv)
            have B1 := Lib.hid (bel_then B.out hv)
            clear hv
            have ca01 := HA1.out.cell 0
            have ca11 := HA1.out.cell 1
            have cb01 := HB1.out.cell 0
            have cb11 := HB1.out.cell 1
            simp at ca01 ca11 cb01 cb11
            go_wp2_with fail
            refine (MB6.out _).mono ?_; rintro e v2 ⟨rfl, hv⟩
            have HA2 := Lib.hid (HA1.out.below hv)
            have HB2 := Lib.hid (HB1.out.below hv)
            have B2 := Lib.hid (bel_then B1.out hv)
            clear hv
            have ca02 := HA2.out.cell 0
            have ca12 := HA2.out.cell 1
            have cb02 := HB2.out.cell 0
            have cb12 := HB2.out.cell 1
            simp at ca02 ca12 cb02 cb12
            go_wp2_with fail
            refine (MB0.out _).mono ?_; rintro e v3 ⟨rfl, hv⟩
            have HA3 := Lib.hid (HA2.out.below hv)
            have HB3 := Lib.hid (HB2.out.below hv)
            have B3 := Lib.hid (bel_then B2.out hv)
            clear hv
            have ca03 := HA3.out.cell 0
            have ca13 := HA3.out.cell 1
            have cb03 := HB3.out.cell 0
            have cb13 := HB3.out.cell 1
            simp at ca03 ca13 cb03 cb13
            go_wp2_with fail
            go_roundw
            case rel => exact ⟨z + 1, rfl, by omega, by omega, HA3, HB3, B3⟩
            case measure => simp [intOf]; omega
          · have e4 : m4 = false := F.out.2 rfl
            subst e4
            go_wp2_with fail
            refine (MA0.out _).mono ?_; rintro e v1 ⟨rfl, hv⟩
            have HA1 := Lib.hid (HA.out.below hv)
            have HB1 := Lib.hid (HB.out.below hv)
            have B1 := Lib.hid (bel_then B.out hv)
            clear hv
            have ca01 := HA1.out.cell 0
            have ca11 := HA1.out.cell 1
            have cb01 := HB1.out.cell 0
            have cb11 := HB1.out.cell 1
            simp at ca01 ca11 cb01 cb11
            go_wp2_with fail
            refine (MB6.out _).mono ?_; rintro e v2 ⟨rfl, hv⟩
            have HA2 := Lib.hid (HA1.out.below hv)
            have HB2 := Lib.hid (HB1.out.below hv)
            have B2 := Lib.hid (bel_then B1.out hv)
            clear hv
            have ca02 := HA2.out.cell 0
            have ca12 := HA2.out.cell 1
            have cb02 := HB2.out.cell 0
            have cb12 := HB2.out.cell 1
            simp at ca02 ca12 cb02 cb12
            go_wp2_with fail
            refine (MB0.out _).mono ?_; rintro e v3 ⟨rfl, hv⟩
            have HA3 := Lib.hid (HA2.out.below hv)
            have HB3 := Lib.hid (HB2.out.below hv)
            have B3 := Lib.hid (bel_then B2.out hv)
            clear hv
            have ca03 := HA3.out.cell 0
            have ca13 := HA3.out.cell 1
            have cb03 := HB3.out.cell 0
            have cb13 := HB3.out.cell 1
            simp at ca03 ca13 cb03 cb13
            go_wp2_with fail
            refine (MA6.out _).mono ?_; rintro e v4 ⟨rfl, hv⟩
            have HA4 := Lib.hid (HA3.out.below hv)
            have HB4 := Lib.hid (HB3.out.below hv)
            have B4 := Lib.hid (bel_then B3.out hv)
            clear hv
            have ca04 := HA4.out.cell 0
            have ca14 := HA4.out.cell 1
            have cb04 := HB4.out.cell 0
            have cb14 := HB4.out.cell 1
            simp at ca04 ca14 cb04 cb14
            go_wp2_with fail
            go_roundw
            case rel => exact ⟨z + 1, rfl, by omega, by omega, HA4, HB4, B4⟩
            case measure => simp [intOf]; omega
    · clear MA MB Q
      have hI : is = true := by
        have := EW.out
        rw [this]
        simp only [Bool.or_eq_true, decide_eq_true_eq]
        omega
      subst hI
      go_wp2_with fail
      go_ret
      exact ⟨rfl, B.out⟩
set_option maxHeartbeats 4000000 in
theorem vapart_2 (AW : Hid AwS) (PC : Hid ApartC) (a b : Rg) (ha : InR a) (hb : InR b) (hk : ¬ (a.1 + a.2 + 64 ≤ b.1)) (hk2 : b.1 + b.2 + 64 ≤ a.1) (w : World) :
    Calls Try.prog 5 #[.agg #[.int .i64 a.1, .int .i64 a.2], .agg #[.int .i64 b.1, .int .i64 b.2]] w fun e w' => e = .returned (.bool true) ∧ Below w.heap.size w w' := by
  have MA := Lib.hid (fun at_ g h2 h3 w => rmine_any a at_ g (by unfold InR at ha; omega) h2 h3 w)
  have MB := Lib.hid (fun at_ g h2 h3 w => rmine_any b at_ g (by unfold InR at hb; omega) h2 h3 w)
  have P1 := Lib.hid (PC.out a b (by unfold InR at ha; omega) (by unfold InR at hb; omega))
  have Q := Lib.hid (fun (h : apartE a b = true) at_ => And.intro (apart_byte h (by unfold InR at hb; omega) (by unfold InR at ha; omega) at_) (apart_byte (a := b) (b := a) (by rw [apart_comm]; exact h) (by unfold InR at ha; omega) (by unfold InR at hb; omega) at_))
  have E := Lib.hid (show apartE a b = (decide (a.1 + a.2 + 64 ≤ b.1) || decide (b.1 + b.2 + 64 ≤ a.1)) from rfl)
  obtain ⟨a1, a2⟩ := a
  obtain ⟨b1, b2⟩ := b
  unfold InR at ha hb
  simp only at *
  obtain ⟨a3, a4, a5, a6⟩ := ha
  obtain ⟨b3, b4, b5, b6⟩ := hb
  go_enter Try.func5, Try.ntmps5
  go_wp2_with fail
  refine (AW.out _).mono ?_; rintro e w1 ⟨rfl, hb1⟩
  have HA := Lib.hid (((HasB.new w 42 [.int .i64 a1, .int .i64 a2]).below (bel_al (Below.refl _ _) (.cells #[.int .i64 b1, .int .i64 b2] 42))).below hb1)
  have HB := Lib.hid (((HasB.new (w.alloc (.cells #[.int .i64 a1, .int .i64 a2] 42)) 42 [.int .i64 b1, .int .i64 b2])).below hb1)
  have B1 := Lib.hid (bel_then (bel_al (bel_al (Below.refl _ w) (.cells #[.int .i64 a1, .int .i64 a2] 42)) (.cells #[.int .i64 b1, .int .i64 b2] 42)) hb1)
  have hs : (w.alloc (.cells #[.int .i64 a1, .int .i64 a2] 42)).heap.size = w.heap.size + 1 := by simp
  rw [hs] at HB
  clear hb1 hs
  generalize w.heap.size + 1 = g2 at *
  have ca0 := HA.out.cell 0
  have ca1 := HA.out.cell 1
  have cb0 := HB.out.cell 0
  have cb1 := HB.out.cell 1
  simp at ca0 ca1 cb0 cb1
  go_wp2_with fail
  refine (P1.out _).mono ?_; rintro e w2 ⟨rfl, hb2⟩
  have HA2 := Lib.hid (HA.out.below hb2)
  have HB2 := Lib.hid (HB.out.below hb2)
  have B2 := Lib.hid (bel_then B1.out hb2)
  clear hb2 ca0 ca1 cb0 cb1 HA HB B1 P1
  have ca0 := HA2.out.cell 0
  have ca1 := HA2.out.cell 1
  have cb0 := HB2.out.cell 0
  have cb1 := HB2.out.cell 1
  simp at ca0 ca1 cb0 cb1
  have EW : Hid (apartE (a1, a2) (b1, b2) = (decide (a1 + a2 + 64 ≤ b1) || decide (b1 + b2 + 64 ≤ a1))) := E
  generalize hi : apartE (a1, a2) (b1, b2) = is at *
  have IS := Lib.hid hi
  clear hi E
  go_wp2_with fail
  generalize hq : w2 = wq at *
  clear hq ca0 ca1 cb0 cb1
  go_loopw [7] (fun v wr => ∃ (z : Int), v = .int .i64 z ∧ -1100 ≤ z ∧ z ≤ 2600 ∧ Hid (HasB wr w.heap.size 42 [.int .i64 a1, .int .i64 a2]) ∧ Hid (HasB wr g2 42 [.int .i64 b1, .int .i64 b2]) ∧ Hid (Below w.heap.size w wr)) (fun v _ => (2600 - intOf v).toNat)
  case atStart => exact ⟨-1100, rfl, by omega, by omega, HA2, HB2, B2⟩
  case round =>
    clear HA2 HB2 B2
    obtain ⟨z, rfl, hz1, hz2, HA, HB, B⟩ := hrel
    have ca0 := HA.out.cell 0
    have ca1 := HA.out.cell 1
    have cb0 := HB.out.cell 0
    have cb1 := HB.out.cell 1
    simp at ca0 ca1 cb0 cb1
    by_cases hz : z < 2600
    · have MA0 := Lib.hid (fun w => MA.out z 0 (by omega) (by omega) w)
      have MA6 := Lib.hid (fun w => MA.out z 64 (by omega) (by omega) w)
      have MB0 := Lib.hid (fun w => MB.out z 0 (by omega) (by omega) w)
      have MB6 := Lib.hid (fun w => MB.out z 64 (by omega) (by omega) w)
      cases is
      · go_wp2_with fail
        go_roundw
        case rel => exact ⟨z + 1, rfl, by omega, by omega, HA, HB, B⟩
        case measure => simp [intOf]; omega
      · have F := Lib.hid (mine_not (a := (a1, a2)) (b := (b1, b2)) z (Q.out rfl z))
        generalize mineB (a1, a2) z 0 = m1 at *
        generalize mineB (b1, b2) z 64 = m2 at *
        generalize mineB (b1, b2) z 0 = m3 at *
        generalize mineB (a1, a2) z 64 = m4 at *
        cases m1
        · cases m3
          · go_wp2_with fail
            refine (MA0.out _).mono ?_; rintro e v1 ⟨rfl, hv⟩
            have HA1 := Lib.hid (HA.out.below hv)
            have HB1 := Lib.hid (HB.out.below hv)
            have B1 := Lib.hid (bel_then B.out hv)
            clear hv
            have ca01 := HA1.out.cell 0
            have ca11 := HA1.out.cell 1
            have cb01 := HB1.out.cell 0
            have cb11 := HB1.out.cell 1
            simp at ca01 ca11 cb01 cb11
            go_wp2_with fail
            refine (MB0.out _).mono ?_; rintro e v2 ⟨rfl, hv⟩
            have HA2 := Lib.hid (HA1.out.below hv)
            have HB2 := Lib.hid (HB1.out.below hv)
            have B2 := Lib.hid (bel_then B1.out hv)
            clear hv
            have ca02 := HA2.out.cell 0
            have ca12 := HA2.out.cell 1
            have cb02 := HB2.out.cell 0
            have cb12 := HB2.out.cell 1
            simp at ca02 ca12 cb02 cb12
            go_wp2_with fail
            go_roundw
            case rel => exact ⟨z + 1, rfl, by omega, by omega, HA2, HB2, B2⟩
            case measure => simp [intOf]; omega
          · have e4 : m4 = false := F.out.2 rfl
            subst e4
            go_wp2_with fail
            refine (MA0.out _).mono ?_; rintro e v1 ⟨rfl, hv⟩
            have HA1 := Lib.hid (HA.out.below hv)
            have HB1 := Lib.hid (HB.out.below hv)
            have B1 := Lib.hid (bel_then B.out hv)
            clear hv
            have ca01 := HA1.out.cell 0
            have ca11 := HA1.out.cell 1
            have cb01 := HB1.out.cell 0
            have cb11 := HB1.out.cell 1
            simp at ca01 ca11 cb01 cb11
            go_wp2_with fail
            refine (MB0.out _).mono ?_; rintro e v2 ⟨rfl, hv⟩
            have HA2 := Lib.hid (HA1.out.below hv)
            have HB2 := Lib.hid (HB1.out.below hv)
            have B2 := Lib.hid (bel_then B1.out hv)
            clear hv
            have ca02 := HA2.out.cell 0
            have ca12 := HA2.out.cell 1
            have cb02 := HB2.out.cell 0
            have cb12 := HB2.out.cell 1
            simp at ca02 ca12 cb02 cb12
            go_wp2_with fail
            refine (MA6.out _).mono ?_; rintro e v3 ⟨rfl, hv⟩
            have HA3 := Lib.hid (HA2.out.below hv)
            have HB3 := Lib.hid (HB2.out.below hv)
            have B3 := Lib.hid (bel_then B2.out hv)
            clear hv
            have ca03 := HA3.out.cell 0
            have ca13 := HA3.out.cell 1
            have cb03 := HB3.out.cell 0
            have cb13 := HB3.out.cell 1
            simp at ca03 ca13 cb03 cb13
            go_wp2_with fail
            go_roundw
            case rel => exact ⟨z + 1, rfl, by omega, by omega, HA3, HB3, B3⟩
            case measure => simp [intOf]; omega
        · have e2 : m2 = false := F.out.1 rfl
          subst e2
          cases m3
          · go_wp2_with fail
            refine (MA0.out _).mono ?_; rintro e v1 ⟨rfl, hv⟩
            have HA1 := Lib.hid (HA.out.below hv)
            have HB1 := Lib.hid (HB.out.below hv)
            have B1 := Lib.hid (bel_then B.out hv)
            clear hv
            have ca01 := HA1.out.cell 0
            have ca11 := HA1.out.cell 1
            have cb01 := HB1.out.cell 0
            have cb11 := HB1.out.cell 1
            simp at ca01 ca11 cb01 cb11
            go_wp2_with fail
            refine (MB6.out _).mono ?_; rintro e v2 ⟨rfl, hv⟩
            have HA2 := Lib.hid (HA1.out.below hv)
            have HB2 := Lib.hid (HB1.out.below hv)
            have B2 := Lib.hid (bel_then B1.out hv)
            clear hv
            have ca02 := HA2.out.cell 0
            have ca12 := HA2.out.cell 1
            have cb02 := HB2.out.cell 0
            have cb12 := HB2.out.cell 1
            simp at ca02 ca12 cb02 cb12
            go_wp2_with fail
            refine (MB0.out _).mono ?_; rintro e v3 ⟨rfl, hv⟩
            have HA3 := Lib.hid (HA2.out.below hv)
            have HB3 := Lib.hid (HB2.out.below hv)
            have B3 := Lib.hid (bel_then B2.out hv)
            clear hv
            have ca03 := HA3.out.cell 0
            have ca13 := HA3.out.cell 1
            have cb03 := HB3.out.cell 0
            have cb13 := HB3.out.cell 1
            simp at ca03 ca13 cb03 cb13
            go_wp2_with fail
            go_roundw
            case rel => exact ⟨z + 1, rfl, by omega, by omega, HA3, HB3, B3⟩
            case measure => simp [intOf]; omega
          · have e4 : m4 = false := F.out.2 rfl
            subst e4
            go_wp2_with fail
            refine (MA0.out _).mono ?_; rintro e v1 ⟨rfl, hv⟩
            have HA1 := Lib.hid (HA.out.below hv)
            have HB1 := Lib.hid (HB.out.below hv)
            have B1 := Lib.hid (bel_then B.out hv)
            clear hv
            have ca01 := HA1.out.cell 0
            have ca11 := HA1.out.cell 1
            have cb01 := HB1.out.cell 0
            have cb11 := HB1.out.cell 1
            simp at ca01 ca11 cb01 cb11
            go_wp2_with fail
            refine (MB6.out _).mono ?_; rintro e v2 ⟨rfl, hv⟩
            have HA2 := Lib.hid (HA1.out.below hv)
            have HB2 := Lib.hid (HB1.out.below hv)
            have B2 := Lib.hid (bel_then B1.out hv)
            clear hv
            have ca02 := HA2.out.cell 0
            have ca12 := HA2.out.cell 1
            have cb02 := HB2.out.cell 0
            have cb12 := HB2.out.cell 1
            simp at ca02 ca12 cb02 cb12
            go_wp2_with fail
            refine (MB0.out _).mono ?_; rintro e v3 ⟨rfl, hv⟩
            have HA3 := Lib.hid (HA2.out.below hv)
            have HB3 := Lib.hid (HB2.out.below hv)
            have B3 := Lib.hid (bel_then B2.out hv)
            clear hv
            have ca03 := HA3.out.cell 0
            have ca13 := HA3.out.cell 1
            have cb03 := HB3.out.cell 0
            have cb13 := HB3.out.cell 1
            simp at ca03 ca13 cb03 cb13
            go_wp2_with fail
            refine (MA6.out _).mono ?_; rintro e v4 ⟨rfl, hv⟩
            have HA4 := Lib.hid (HA3.out.below hv)
            have HB4 := Lib.hid (HB3.out.below hv)
            have B4 := Lib.hid (bel_then B3.out hv)
            clear hv
            have ca04 := HA4.out.cell 0
            have ca14 := HA4.out.cell 1
            have cb04 := HB4.out.cell 0
            have cb14 := HB4.out.cell 1
            simp at ca04 ca14 cb04 cb14
            go_wp2_with fail
            go_roundw
            case rel => exact ⟨z + 1, rfl, by omega, by omega, HA4, HB4, B4⟩
            case measure => simp [intOf]; omega
    · clear MA MB Q
      have hI : is = true := by
        have := EW.out
        rw [this]
        simp only [Bool.or_eq_true, decide_eq_true_eq]
        omega
      subst hI
      go_wp2_with fail
      go_ret
      exact ⟨rfl, B.out⟩
set_option maxHeartbeats 4000000 in
theorem vapart_3 (AW : Hid AwS) (PC : Hid ApartC) (a b : Rg) (ha : InR a) (hb : InR b) (hk : ¬ (a.1 + a.2 + 64 ≤ b.1)) (hk2 : ¬ (b.1 + b.2 + 64 ≤ a.1)) (w : World) :
    Calls Try.prog 5 #[.agg #[.int .i64 a.1, .int .i64 a.2], .agg #[.int .i64 b.1, .int .i64 b.2]] w fun e w' => e = .returned (.bool true) ∧ Below w.heap.size w w' := by
  have MA := Lib.hid (fun at_ g h2 h3 w => rmine_any a at_ g (by unfold InR at ha; omega) h2 h3 w)
  have MB := Lib.hid (fun at_ g h2 h3 w => rmine_any b at_ g (by unfold InR at hb; omega) h2 h3 w)
  have P1 := Lib.hid (PC.out a b (by unfold InR at ha; omega) (by unfold InR at hb; omega))
  have Q := Lib.hid (fun (h : apartE a b = true) at_ => And.intro (apart_byte h (by unfold InR at hb; omega) (by unfold InR at ha; omega) at_) (apart_byte (a := b) (b := a) (by rw [apart_comm]; exact h) (by unfold InR at ha; omega) (by unfold InR at hb; omega) at_))
  have E := Lib.hid (show apartE a b = (decide (a.1 + a.2 + 64 ≤ b.1) || decide (b.1 + b.2 + 64 ≤ a.1)) from rfl)
  obtain ⟨a1, a2⟩ := a
  obtain ⟨b1, b2⟩ := b
  unfold InR at ha hb
  simp only at *
  obtain ⟨a3, a4, a5, a6⟩ := ha
  obtain ⟨b3, b4, b5, b6⟩ := hb
  go_enter Try.func5, Try.ntmps5
  go_wp2_with fail
  refine (AW.out _).mono ?_; rintro e w1 ⟨rfl, hb1⟩
  have HA := Lib.hid (((HasB.new w 42 [.int .i64 a1, .int .i64 a2]).below (bel_al (Below.refl _ _) (.cells #[.int .i64 b1, .int .i64 b2] 42))).below hb1)
  have HB := Lib.hid (((HasB.new (w.alloc (.cells #[.int .i64 a1, .int .i64 a2] 42)) 42 [.int .i64 b1, .int .i64 b2])).below hb1)
  have B1 := Lib.hid (bel_then (bel_al (bel_al (Below.refl _ w) (.cells #[.int .i64 a1, .int .i64 a2] 42)) (.cells #[.int .i64 b1, .int .i64 b2] 42)) hb1)
  have hs : (w.alloc (.cells #[.int .i64 a1, .int .i64 a2] 42)).heap.size = w.heap.size + 1 := by simp
  rw [hs] at HB
  clear hb1 hs
  generalize w.heap.size + 1 = g2 at *
  have ca0 := HA.out.cell 0
  have ca1 := HA.out.cell 1
  have cb0 := HB.out.cell 0
  have cb1 := HB.out.cell 1
  simp at ca0 ca1 cb0 cb1
  go_wp2_with fail
  refine (P1.out _).mono ?_; rintro e w2 ⟨rfl, hb2⟩
  have HA2 := Lib.hid (HA.out.below hb2)
  have HB2 := Lib.hid (HB.out.below hb2)
  have B2 := Lib.hid (bel_then B1.out hb2)
  clear hb2 ca0 ca1 cb0 cb1 HA HB B1 P1
  have ca0 := HA2.out.cell 0
  have ca1 := HA2.out.cell 1
  have cb0 := HB2.out.cell 0
  have cb1 := HB2.out.cell 1
  simp at ca0 ca1 cb0 cb1
  have EW : Hid (apartE (a1, a2) (b1, b2) = (decide (a1 + a2 + 64 ≤ b1) || decide (b1 + b2 + 64 ≤ a1))) := E
  generalize hi : apartE (a1, a2) (b1, b2) = is at *
  have IS := Lib.hid hi
  clear hi E
  go_wp2_with fail
  generalize hq : w2 = wq at *
  clear hq ca0 ca1 cb0 cb1
  go_loopw [7] (fun v wr => ∃ (z : Int), v = .int .i64 z ∧ -1100 ≤ z ∧ z ≤ 2600 ∧ Hid (HasB wr w.heap.size 42 [.int .i64 a1, .int .i64 a2]) ∧ Hid (HasB wr g2 42 [.int .i64 b1, .int .i64 b2]) ∧ Hid (Below w.heap.size w wr)) (fun v _ => (2600 - intOf v).toNat)
  case atStart => exact ⟨-1100, rfl, by omega, by omega, HA2, HB2, B2⟩
  case round =>
    clear HA2 HB2 B2
    obtain ⟨z, rfl, hz1, hz2, HA, HB, B⟩ := hrel
    have ca0 := HA.out.cell 0
    have ca1 := HA.out.cell 1
    have cb0 := HB.out.cell 0
    have cb1 := HB.out.cell 1
    simp at ca0 ca1 cb0 cb1
    by_cases hz : z < 2600
    · have MA0 := Lib.hid (fun w => MA.out z 0 (by omega) (by omega) w)
      have MA6 := Lib.hid (fun w => MA.out z 64 (by omega) (by omega) w)
      have MB0 := Lib.hid (fun w => MB.out z 0 (by omega) (by omega) w)
      have MB6 := Lib.hid (fun w => MB.out z 64 (by omega) (by omega) w)
      cases is
      · go_wp2_with fail
        go_roundw
        case rel => exact ⟨z + 1, rfl, by omega, by omega, HA, HB, B⟩
        case measure => simp [intOf]; omega
      · have F := Lib.hid (mine_not (a := (a1, a2)) (b := (b1, b2)) z (Q.out rfl z))
        generalize mineB (a1, a2) z 0 = m1 at *
        generalize mineB (b1, b2) z 64 = m2 at *
        generalize mineB (b1, b2) z 0 = m3 at *
        generalize mineB (a1, a2) z 64 = m4 at *
        cases m1
        · cases m3
          · go_wp2_with fail
            refine (MA0.out _).mono ?_; rintro e v1 ⟨rfl, hv⟩
            have HA1 := Lib.hid (HA.out.below hv)
            have HB1 := Lib.hid (HB.out.below hv)
            have B1 := Lib.hid (bel_then B.out hv)
            clear hv
            have ca01 := HA1.out.cell 0
            have ca11 := HA1.out.cell 1
            have cb01 := HB1.out.cell 0
            have cb11 := HB1.out.cell 1
            simp at ca01 ca11 cb01 cb11
            go_wp2_with fail
            refine (MB0.out _).mono ?_; rintro e v2 ⟨rfl, hv⟩
            have HA2 := Lib.hid (HA1.out.below hv)
            have HB2 := Lib.hid (HB1.out.below hv)
            have B2 := Lib.hid (bel_then B1.out hv)
            clear hv
            have ca02 := HA2.out.cell 0
            have ca12 := HA2.out.cell 1
            have cb02 := HB2.out.cell 0
            have cb12 := HB2.out.cell 1
            simp at ca02 ca12 cb02 cb12
            go_wp2_with fail
            go_roundw
            case rel => exact ⟨z + 1, rfl, by omega, by omega, HA2, HB2, B2⟩
            case measure => simp [intOf]; omega
          · have e4 : m4 = false := F.out.2 rfl
            subst e4
            go_wp2_with fail
            refine (MA0.out _).mono ?_; rintro e v1 ⟨rfl, hv⟩
            have HA1 := Lib.hid (HA.out.below hv)
            have HB1 := Lib.hid (HB.out.below hv)
            have B1 := Lib.hid (bel_then B.out hv)
            clear hv
            have ca01 := HA1.out.cell 0
            have ca11 := HA1.out.cell 1
            have cb01 := HB1.out.cell 0
            have cb11 := HB1.out.cell 1
            simp at ca01 ca11 cb01 cb11
            go_wp2_with fail
            refine (MB0.out _).mono ?_; rintro e v2 ⟨rfl, hv⟩
            have HA2 := Lib.hid (HA1.out.below hv)
            have HB2 := Lib.hid (HB1.out.below hv)
            have B2 := Lib.hid (bel_then B1.out hv)
            clear hv
            have ca02 := HA2.out.cell 0
            have ca12 := HA2.out.cell 1
            have cb02 := HB2.out.cell 0
            have cb12 := HB2.out.cell 1
            simp at ca02 ca12 cb02 cb12
            go_wp2_with fail
            refine (MA6.out _).mono ?_; rintro e v3 ⟨rfl, hv⟩
            have HA3 := Lib.hid (HA2.out.below hv)
            have HB3 := Lib.hid (HB2.out.below hv)
            have B3 := Lib.hid (bel_then B2.out hv)
            clear hv
            have ca03 := HA3.out.cell 0
            have ca13 := HA3.out.cell 1
            have cb03 := HB3.out.cell 0
            have cb13 := HB3.out.cell 1
            simp at ca03 ca13 cb03 cb13
            go_wp2_with fail
            go_roundw
            case rel => exact ⟨z + 1, rfl, by omega, by omega, HA3, HB3, B3⟩
            case measure => simp [intOf]; omega
        · have e2 : m2 = false := F.out.1 rfl
          subst e2
          cases m3
          · go_wp2_with fail
            refine (MA0.out _).mono ?_; rintro e v1 ⟨rfl, hv⟩
            have HA1 := Lib.hid (HA.out.below hv)
            have HB1 := Lib.hid (HB.out.below hv)
            have B1 := Lib.hid (bel_then B.out hv)
            clear hv
            have ca01 := HA1.out.cell 0
            have ca11 := HA1.out.cell 1
            have cb01 := HB1.out.cell 0
            have cb11 := HB1.out.cell 1
            simp at ca01 ca11 cb01 cb11
            go_wp2_with fail
            refine (MB6.out _).mono ?_; rintro e v2 ⟨rfl, hv⟩
            have HA2 := Lib.hid (HA1.out.below hv)
            have HB2 := Lib.hid (HB1.out.below hv)
            have B2 := Lib.hid (bel_then B1.out hv)
            clear hv
            have ca02 := HA2.out.cell 0
            have ca12 := HA2.out.cell 1
            have cb02 := HB2.out.cell 0
            have cb12 := HB2.out.cell 1
            simp at ca02 ca12 cb02 cb12
            go_wp2_with fail
            refine (MB0.out _).mono ?_; rintro e v3 ⟨rfl, hv⟩
            have HA3 := Lib.hid (HA2.out.below hv)
            have HB3 := Lib.hid (HB2.out.below hv)
            have B3 := Lib.hid (bel_then B2.out hv)
            clear hv
            have ca03 := HA3.out.cell 0
            have ca13 := HA3.out.cell 1
            have cb03 := HB3.out.cell 0
            have cb13 := HB3.out.cell 1
            simp at ca03 ca13 cb03 cb13
            go_wp2_with fail
            go_roundw
            case rel => exact ⟨z + 1, rfl, by omega, by omega, HA3, HB3, B3⟩
            case measure => simp [intOf]; omega
          · have e4 : m4 = false := F.out.2 rfl
            subst e4
            go_wp2_with fail
            refine (MA0.out _).mono ?_; rintro e v1 ⟨rfl, hv⟩
            have HA1 := Lib.hid (HA.out.below hv)
            have HB1 := Lib.hid (HB.out.below hv)
            have B1 := Lib.hid (bel_then B.out hv)
            clear hv
            have ca01 := HA1.out.cell 0
            have ca11 := HA1.out.cell 1
            have cb01 := HB1.out.cell 0
            have cb11 := HB1.out.cell 1
            simp at ca01 ca11 cb01 cb11
            go_wp2_with fail
            refine (MB6.out _).mono ?_; rintro e v2 ⟨rfl, hv⟩
            have HA2 := Lib.hid (HA1.out.below hv)
            have HB2 := Lib.hid (HB1.out.below hv)
            have B2 := Lib.hid (bel_then B1.out hv)
            clear hv
            have ca02 := HA2.out.cell 0
            have ca12 := HA2.out.cell 1
            have cb02 := HB2.out.cell 0
            have cb12 := HB2.out.cell 1
            simp at ca02 ca12 cb02 cb12
            go_wp2_with fail
            refine (MB0.out _).mono ?_; rintro e v3 ⟨rfl, hv⟩
            have HA3 := Lib.hid (HA2.out.below hv)
            have HB3 := Lib.hid (HB2.out.below hv)
            have B3 := Lib.hid (bel_then B2.out hv)
            clear hv
            have ca03 := HA3.out.cell 0
            have ca13 := HA3.out.cell 1
            have cb03 := HB3.out.cell 0
            have cb13 := HB3.out.cell 1
            simp at ca03 ca13 cb03 cb13
            go_wp2_with fail
            refine (MA6.out _).mono ?_; rintro e v4 ⟨rfl, hv⟩
            have HA4 := Lib.hid (HA3.out.below hv)
            have HB4 := Lib.hid (HB3.out.below hv)
            have B4 := Lib.hid (bel_then B3.out hv)
            clear hv
            have ca04 := HA4.out.cell 0
            have ca14 := HA4.out.cell 1
            have cb04 := HB4.out.cell 0
            have cb14 := HB4.out.cell 1
            simp at ca04 ca14 cb04 cb14
            go_wp2_with fail
            go_roundw
            case rel => exact ⟨z + 1, rfl, by omega, by omega, HA4, HB4, B4⟩
            case measure => simp [intOf]; omega
    · clear MA MB Q
      have hI : is = false := by
        have := EW.out
        rw [this]
        simp only [Bool.or_eq_false_iff, decide_eq_false_iff_not]
        exact ⟨by omega, by omega⟩
      subst hI
      go_wp2_with fail
      go_ret
      exact ⟨by simp; omega, B.out⟩
theorem vapart_in (AW : Hid AwS) (PC : Hid ApartC) (a b : Rg) (ha : InR a) (hb : InR b) (w : World) :
    Calls Try.prog 5 #[.agg #[.int .i64 a.1, .int .i64 a.2], .agg #[.int .i64 b.1, .int .i64 b.2]] w fun e w' => e = .returned (.bool true) ∧ Below w.heap.size w w' := by
  by_cases hk : a.1 + a.2 + 64 ≤ b.1
  · exact vapart_1 AW PC a b ha hb hk w
  · by_cases hk2 : b.1 + b.2 + 64 ≤ a.1
    · exact vapart_2 AW PC a b ha hb hk hk2 w
    · exact vapart_3 AW PC a b ha hb hk hk2 w
set_option maxHeartbeats 4000000 in
theorem vapart_out (AW : Hid AwS) (a b : Rg) (h : ¬ (InR a ∧ InR b)) (w : World) :
    Calls Try.prog 5 #[.agg #[.int .i64 a.1, .int .i64 a.2], .agg #[.int .i64 b.1, .int .i64 b.2]] w fun e w' => e = .returned (.bool true) ∧ Below w.heap.size w w' := by
  obtain ⟨a1, a2⟩ := a
  obtain ⟨b1, b2⟩ := b
  unfold InR at h
  simp only at *
  go_enter Try.func5, Try.ntmps5
  go_wp2_with fail
  refine (AW.out _).mono ?_; rintro e w1 ⟨rfl, hb1⟩
  have HA := Lib.hid (((HasB.new w 42 [.int .i64 a1, .int .i64 a2]).below (bel_al (Below.refl _ _) (.cells #[.int .i64 b1, .int .i64 b2] 42))).below hb1)
  have HB := Lib.hid (((HasB.new (w.alloc (.cells #[.int .i64 a1, .int .i64 a2] 42)) 42 [.int .i64 b1, .int .i64 b2])).below hb1)
  have B1 := Lib.hid (bel_then (bel_al (bel_al (Below.refl _ w) (.cells #[.int .i64 a1, .int .i64 a2] 42)) (.cells #[.int .i64 b1, .int .i64 b2] 42)) hb1)
  have hs : (w.alloc (.cells #[.int .i64 a1, .int .i64 a2] 42)).heap.size = w.heap.size + 1 := by simp
  rw [hs] at HB
  clear hb1 hs
  generalize w.heap.size + 1 = g2 at *
  have ca0 := HA.out.cell 0
  have ca1 := HA.out.cell 1
  have cb0 := HB.out.cell 0
  have cb1 := HB.out.cell 1
  simp at ca0 ca1 cb0 cb1
  have hbad : (decide (a2 < 0) || decide (b2 < 0) || decide (500 < a2) || decide (500 < b2) || decide (a1 < -1000) || decide (b1 < -1000) || decide (2000 < a1) || decide (2000 < b1)) = true := by
    simp only [Bool.or_eq_true, decide_eq_true_eq]; omega
  clear h
  go_wp2_with fail
  all_goals (refine (AW.out _).mono ?_; rintro e w2 ⟨rfl, hb2⟩; have B2 := Lib.hid (bel_then B1.out hb2); clear hb2; go_wp2_with fail; go_ret; exact ⟨rfl, B2.out⟩)
theorem vapart (AW : Hid AwS) (PC : Hid ApartC) (a b : Rg) (w : World) :
    Calls Try.prog 5 #[.agg #[.int .i64 a.1, .int .i64 a.2], .agg #[.int .i64 b.1, .int .i64 b.2]] w fun e w' => e = .returned (.bool true) ∧ Below w.heap.size w w' := by
  by_cases h : InR a ∧ InR b
  · exact vapart_in AW PC a b h.1 h.2 w
  · exact vapart_out AW a b h w
end Go.Proofs.Ytalglocplebonaa.Mm
