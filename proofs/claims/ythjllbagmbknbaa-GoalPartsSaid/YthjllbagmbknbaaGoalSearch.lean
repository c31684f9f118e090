/- A place among places that rise: the library's binary search, and the program's 'among'. -/
import Derived.Test.YthjllbagmbknbaaRuA
import Derived.Test.YthjllbagmbknbaaGoalMath
namespace Go.Proofs.Ythjllbagmbknbaa.Mm
open Go.ChangeShapes Go.WideShapes Go.ChangeAt Go.RowKit
set_option linter.unusedVariables false

theorem isnan_any (x : Int) (w : World) : Calls Try.prog 51 #[.int .i64 x] w fun e w' => e = .returned (.bool false) ∧ w = w' := by
  go_enter Try.func51, Try.ntmps51
  go_wp2
  go_ret
  exact ⟨by simp, rfl⟩
theorem cisnan_any (x : Int) (w : World) : Calls Try.prog 60 #[.int .i64 x] w fun e w' => e = .returned (.bool false) ∧ w = w' := by
  go_enter Try.func60, Try.ntmps60
  go_wp2
  go_ret
  exact ⟨by simp, rfl⟩
theorem less_any (x y : Int) (w : World) : Calls Try.prog 50 #[.int .i64 x, .int .i64 y] w fun e w' => e = .returned (.bool (decide (x < y))) ∧ w = w' := by
  have C1 := Lib.hid (cisnan_any x)
  go_enter Try.func50, Try.ntmps50
  go_wp2_with fail
  refine (C1.out _).mono ?_; rintro e w1 ⟨rfl, rfl⟩
  go_wp2
  go_ret
  exact ⟨rfl, rfl⟩

/-- below lo all are less, from hi on none is -/
def SeaI (l : List Int) (x : Int) (lo hi : Nat) : Prop := (∀ j, j < lo → l.getD j 0 < x) ∧ (∀ j, hi ≤ j → j < l.length → x ≤ l.getD j 0)
theorem seaI_0 (l : List Int) (x : Int) (n : Nat) (hn : l.length = n) : SeaI l x 0 n := ⟨fun j h => by omega, fun j h1 h2 => by omega⟩
theorem rise_at {l : List Int} (h : l.Pairwise (· ≤ ·)) {i j : Nat} (hij : i ≤ j) (hj : j < l.length) : l.getD i 0 ≤ l.getD j 0 := by
  have hi : i < l.length := by omega
  simp only [List.getD, List.getElem?_eq_getElem hi, List.getElem?_eq_getElem hj, Option.getD_some]
  rcases Nat.lt_or_ge i j with hlt | hge
  · exact List.pairwise_iff_getElem.1 h i j hi hj hlt
  · have : i = j := by omega
    subst this; exact Int.le_refl _
theorem seaI_lo {l : List Int} (h : l.Pairwise (· ≤ ·)) {x : Int} {lo hi m : Nat} (I : SeaI l x lo hi) (hm : m < l.length) (hx : l.getD m 0 < x) : SeaI l x (m + 1) hi :=
  ⟨fun j hj => by have := rise_at h (show j ≤ m by omega) hm; omega, I.2⟩
theorem seaI_hi {l : List Int} (h : l.Pairwise (· ≤ ·)) {x : Int} {lo hi m : Nat} (I : SeaI l x lo hi) (hx : x ≤ l.getD m 0) : SeaI l x lo m :=
  ⟨I.1, fun j h1 h2 => by have := rise_at h h1 h2; omega⟩
theorem mem_getI {l : List Int} {x : Int} : x ∈ l ↔ ∃ j, j < l.length ∧ l.getD j 0 = x := by
  rw [List.mem_iff_getElem]
  constructor
  · rintro ⟨j, hj, rfl⟩; exact ⟨j, hj, by simp [List.getD, hj]⟩
  · rintro ⟨j, hj, rfl⟩; exact ⟨j, hj, by simp [List.getD, hj]⟩
theorem seaI_end {l : List Int} (h : l.Pairwise (· ≤ ·)) {x : Int} {i : Nat} (I : SeaI l x i i) : decide (x ∈ l) = decide (i < l.length ∧ l.getD i 0 = x) := by
  rw [decide_eq_decide, mem_getI]
  constructor
  · rintro ⟨j, hj, rfl⟩
    rcases Nat.lt_or_ge j i with hlt | hge
    · have := I.1 j hlt; omega
    · have h1 := I.2 i (Nat.le_refl _) (by omega)
      have h2 := rise_at h hge hj
      exact ⟨by omega, by omega⟩
  · rintro ⟨h1, h2⟩; exact ⟨i, h1, h2⟩

set_option maxHeartbeats 2000000 in
theorem search_any (A : Option Addr) (c n : Nat) (l : List Int) (hn : l.length = n) (hb : n ≤ 100000) (h : l.Pairwise (· ≤ ·)) (x : Int) (w : World) (r : IntRow w A c l) :
    Calls Try.prog 36 #[.slice A n c, .int .i64 x] w fun e w' => ∃ i : Int, e = .returned (.tuple #[.int .i64 i, .bool (decide (x ∈ l))]) ∧ ∃ q, w' = w.drewN q := by
  have HS := Lib.hid (fun lo hi m (I : SeaI l x lo hi) (hm : m < l.length) (hx : l.getD m 0 < x) => seaI_lo h I hm hx)
  have HT := Lib.hid (fun lo hi m (I : SeaI l x lo hi) (hx : x ≤ l.getD m 0) => seaI_hi h I hx)
  have HE := Lib.hid (fun i (I : SeaI l x i i) => seaI_end h I)
  have H0 := Lib.hid (seaI_0 l x n hn)
  have HN := Lib.hid hn
  have R := Lib.hid r
  have CL := Lib.hid (fun y => less_any y x)
  have CN := Lib.hid (fun y => isnan_any y)
  clear h r hn
  generalize decide (x ∈ l) = q at *
  go_enter Try.func36, Try.ntmps36
  go_wp2
  go_loopw [7, 8] (fun i j wr => ∃ (lo hi : Nat), i = .int .i64 lo ∧ j = .int .i64 hi ∧ lo ≤ hi ∧ hi ≤ n ∧ Hid (SeaI l x lo hi) ∧ Hid (∃ q, wr = w.drewN q)) (fun i j _ => (intOf j).toNat - (intOf i).toNat)
  case atStart => exact ⟨0, n, rfl, rfl, Nat.zero_le _, Nat.le_refl _, H0, Lib.hid ⟨0, rfl⟩⟩
  case round =>
    obtain ⟨lo, hi, rfl, rfl, hlh, hhn, HI, HB⟩ := hrel
    by_cases hlt : lo < hi
    · obtain ⟨m, hm⟩ : ∃ m : Nat, m = (lo + hi) / 2 := ⟨_, rfl⟩
      have BB : Below w.heap.size w wr := by obtain ⟨q, e⟩ := HB.out; rw [e]; exact below_drewN (Below.refl _ w) q
      obtain ⟨p, rfl, hpb, hc⟩ := (R.out.below BB).2.2 (by intro e; have := HN.out; rw [e] at this; simp at this; omega)
      clear BB
      have e1 := hc m (by rw [HN.out]; omega)
      have m1 : ((lo : Int) + (hi : Int)) / 2 = (m : Int) := by omega
      have hmn : m < n := by omega
      have HA := Lib.hid (HS.out lo hi m HI.out (by rw [HN.out]; exact hmn))
      have HC := Lib.hid (HT.out lo hi m HI.out)
      have h1 : lo ≤ m := by omega
      have h2 : m < hi := by omega
      clear hc hm
      generalize l.getD m 0 = y at *
      have CY := Lib.hid (CL.out y)
      cases hq : decide (y < x)
      · rw [hq] at CY
        go_wp2_with fail
        refine (CY.out _).mono ?_; rintro e w1 ⟨rfl, rfl⟩
        go_wp2
        go_roundw
        case rel => exact ⟨lo, m, rfl, rfl, by omega, by omega, Lib.hid (HC.out (by simpa using hq)), HB⟩
        case measure => simp [intOf]; omega
      · rw [hq] at CY
        go_wp2_with fail
        refine (CY.out _).mono ?_; rintro e w1 ⟨rfl, rfl⟩
        go_wp2
        go_roundw
        case rel => exact ⟨m + 1, hi, by go_num, rfl, by omega, by omega, Lib.hid (HA.out (by simpa using hq)), HB⟩
        case measure => simp [intOf]; omega
    · obtain rfl : lo = hi := by omega
      have hE := HE.out lo HI.out
      rw [HN.out] at hE
      by_cases hlt : lo < n
      · have BB : Below w.heap.size w wr := by obtain ⟨q, e⟩ := HB.out; rw [e]; exact below_drewN (Below.refl _ w) q
        obtain ⟨p, rfl, hpb, hc⟩ := (R.out.below BB).2.2 (by intro e; have := HN.out; rw [e] at this; simp at this; omega)
        clear BB
        have e1 := hc lo (by rw [HN.out]; exact hlt)
        clear hc HI HS HT
        generalize l.getD lo 0 = y at *
        have CY := Lib.hid (CN.out y)
        by_cases hy : y = x
        · obtain rfl : q = true := by rw [hE]; exact decide_eq_true ⟨hlt, hy⟩
          clear hE
          go_wp2_with fail
          go_ret2
          exact ⟨_, rfl, HB.out⟩
        · obtain rfl : q = false := by rw [hE]; exact decide_eq_false fun h => hy h.2
          clear hE
          have hy2 : (y == x) = false := by simpa using hy
          go_wp2_with fail
          refine (CY.out _).mono ?_; rintro e w1 ⟨rfl, rfl⟩
          go_wp2
          go_ret2
          exact ⟨_, rfl, HB.out⟩
      · obtain rfl : q = false := by rw [hE]; exact decide_eq_false fun h => hlt h.1
        clear hE HI HS HT
        go_wp2_with fail
        go_ret2
        exact ⟨_, rfl, HB.out⟩

theorem among_any (A : Option Addr) (c n : Nat) (l : List Int) (hn : l.length = n) (hb : n ≤ 100000) (h : l.Pairwise (· ≤ ·)) (x : Int) (w : World) (r : IntRow w A c l) :
    Calls Try.prog 26 #[.slice A n c, .int .i64 x] w fun e w' => e = .returned (.bool (decide (x ∈ l))) ∧ ∃ q, w' = w.drewN q := by
  have C := Lib.hid (search_any A c n l hn hb h x w r)
  clear h r hn
  generalize decide (x ∈ l) = q at *
  go_enter Try.func26, Try.ntmps26
  go_wp2_with fail
  refine C.out.mono ?_; rintro e w1 ⟨i, rfl, hb1⟩
  go_wp2
  go_ret
  exact ⟨rfl, hb1⟩
end Go.Proofs.Ythjllbagmbknbaa.Mm
