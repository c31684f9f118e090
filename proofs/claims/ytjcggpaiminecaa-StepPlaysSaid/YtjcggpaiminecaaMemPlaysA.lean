/- The statement MemPlays: the two memories side by side; the small cases. -/
import Derived.Test.YtjcggpaiminecaaMemActs
import Derived.Test.YtjcggpaiminecaaMemParts
namespace Go.Proofs.Ytjcggpaiminecaa.Mm
open Go.ChangeShapes Go.WideShapes Go.ChangeAt Go.RowKit
set_option linter.unusedVariables false

theorem BlAt.at_ {w : World} {b cap : Nat} {l : List Bool} (r : BlAt w (some ⟨b, 0, none⟩) cap l) : b < w.heap.size ∧ ∀ i, i < l.length → w.cell? ⟨b, i, none⟩ = some (.bool (l.getD i false)) := by
  obtain ⟨_, _, x, hx, hb, hc⟩ := r
  injection hx with hx; subst hx
  refine ⟨hb, fun i hi => ?_⟩
  have := hc i hi
  rwa [addr_add, Nat.zero_add] at this
theorem BlAt.chg {w w' : World} {b cap x y : Nat} {l : List Bool} (r : BlAt w (some ⟨b, 0, none⟩) cap l) (c : Chg x y w w') (h1 : b ≠ x) (h2 : b ≠ y) : BlAt w' (some ⟨b, 0, none⟩) cap l := by
  have hb := r.at_.1
  obtain ⟨q1, q2, x, hx, _, hc⟩ := r
  injection hx with hx; subst hx
  refine ⟨q1, q2, _, rfl, Nat.lt_of_lt_of_le hb c.size, fun i hi => ?_⟩
  rw [← hc i hi]
  exact World.cell?_of_block (c.block _ (by rw [block_add]; exact hb) (by rw [block_add]; exact h1) (by rw [block_add]; exact h2))
theorem RowAt.chg {w w' : World} {b cap x y : Nat} {l : List Int} (r : RowAt w (some ⟨b, 0, none⟩) cap l) (c : Chg x y w w') (h1 : b ≠ x) (h2 : b ≠ y) : RowAt w' (some ⟨b, 0, none⟩) cap l := by
  obtain ⟨q1, q2, q3, q4⟩ := r
  refine ⟨q1, q2, q3, fun hne => ?_⟩
  obtain ⟨z, hz, hb, hc⟩ := q4 hne
  injection hz with hz; subst hz
  refine ⟨_, rfl, Nat.lt_of_lt_of_le hb c.size, fun i hi => ?_⟩
  rw [← hc i hi]
  exact World.cell?_of_block (c.block _ (by rw [block_add]; exact hb) (by rw [block_add]; exact h1) (by rw [block_add]; exact h2))

/-- the document's memory, in the variable at X -/
structure RSt (w : World) (X g h N : Nat) (B : List Int) (U : List Bool) (xb cB yb cU : Nat) : Prop where
  own : HasB w X 33 [.slice (some ⟨xb, 0, none⟩) N cB, .slice (some ⟨yb, 0, none⟩) N cU]
  rB : RowAt w (some ⟨xb, 0, none⟩) cB B
  rU : BlAt w (some ⟨yb, 0, none⟩) cU U
  xl : xb < w.heap.size
  dis : (xb ≠ g ∧ xb ≠ h ∧ xb ≠ X) ∧ (yb ≠ g ∧ yb ≠ h ∧ yb ≠ X) ∧ X ≠ g ∧ X ≠ h
section
variable {w w' : World} {X g h N xb cB yb cU : Nat} {B : List Int} {U : List Bool}
theorem RSt.chg (r : RSt w X g h N B U xb cB yb cU) (c : Chg g h w w') : RSt w' X g h N B U xb cB yb cU :=
  ⟨r.own.chg c r.dis.2.2.1 r.dis.2.2.2, r.rB.chg c r.dis.1.1 r.dis.1.2.1, r.rU.chg c r.dis.2.1.1 r.dis.2.1.2.1, Nat.lt_of_lt_of_le r.xl c.size, r.dis⟩
theorem RSt.below (r : RSt w X g h N B U xb cB yb cU) (b : Below w.heap.size w w') : RSt w' X g h N B U xb cB yb cU := r.chg (Chg.of b)
end

/-- both, alike -/
structure PSt (w0 : World) (p g h X N : Nat) (B : List Int) (T : List Bool) (U : List Bool) (xb cB yb cU : Nat) (w : World) : Prop where
  m : MSt w0 p g h B T w
  r : RSt w X g h N B U xb cB yb cU
  lB : B.length = N
  lU : U.length = N
  lT : 64 * T.length = N
  same : ∀ j, j < N → U.getD j false = T.getD (j / 64) false
  x0 : w0.heap.size ≤ X
  pX : X ≠ p
def PAny (w0 : World) (p g h X N : Nat) (w : World) : Prop := ∃ B T U xb cB yb cU, PSt w0 p g h X N B T U xb cB yb cU w
section
variable {w0 w w' : World} {p g h X N xb cB yb cU : Nat} {B : List Int} {T U : List Bool}
theorem PSt.below (s : PSt w0 p g h X N B T U xb cB yb cU w) (b : Below w.heap.size w w') : PSt w0 p g h X N B T U xb cB yb cU w' :=
  ⟨s.m.below b, s.r.below b, s.lB, s.lU, s.lT, s.same, s.x0, s.pX⟩
/-- are all there: in both -/
theorem PSt.all (s : PSt w0 p g h X N B T U xb cB yb cU w) (a n : Nat) (h : a ≤ N) (hn : n ≤ N - a) : wholeB T a n = allB U a n := by
  rw [Bool.eq_iff_iff, allB_iff]
  unfold wholeB
  rw [Bool.and_eq_true, liesB_iff, thr_iff, s.lT]
  constructor
  · rintro ⟨_, h2⟩ i hi
    rw [s.same _ (by omega)]
    have := h2 i (by omega)
    rwa [Int.toNat_natCast] at this
  · intro h2
    refine ⟨by omega, fun i hi => ?_⟩
    rw [Int.toNat_natCast] at hi ⊢
    rw [← s.same _ (by omega)]
    exact h2 i hi
theorem PSt.out (s : PSt w0 p g h X N B T U xb cB yb cU w) (a n : Nat) (hn : ¬ (a ≤ N ∧ n ≤ N - a)) : wholeB T a n = false := by
  unfold wholeB
  rw [(liesB_not _ _ _).2 (by have := s.lT; omega)]
  rfl
theorem PSt.allout (s : PSt w0 p g h X N B T U xb cB yb cU w) (a n : Nat) (h : N < a + n) (hn : 0 < n) : allB U a n = false := by
  cases hq : allB U a n
  · rfl
  · have := (allB_iff _ _ _).1 hq (n - 1) (by omega)
    rw [List.getD, List.getElem?_eq_none (by have := s.lU; omega)] at this
    cases this
/-- for every place -/
theorem PSt.whole (s : PSt w0 p g h X N B T U xb cB yb cU w) (a n : Nat) (ha : a ≤ N ∨ 0 < n) : wholeB T a n = allB U a n := by
  by_cases h : a ≤ N ∧ n ≤ N - a
  · exact s.all a n h.1 h.2
  · rw [s.out a n h, s.allout a n (by omega) (by omega)]
theorem PSt.there (s : PSt w0 p g h X N B T U xb cB yb cU w) (j : Nat) (hj : j < N) : wholeB T j 1 = U.getD j false := by
  have := s.all j 1 (by omega) (by omega)
  rw [show ((1 : Nat) : Int) = 1 from rfl] at this
  rw [this, Bool.eq_iff_iff, allB_iff]
  exact ⟨fun h => by have := h 0 (by omega); rwa [Nat.add_zero] at this, fun h i hi => by rw [show j + i = j by omega]; exact h⟩

/-- bytes written in both -/
theorem PSt.wrote {B' : List Int} {w1 w2 : World} {xb' cB' : Nat} (s : PSt w0 p g h X N B T U xb cB yb cU w) (m : MSt w0 p g h B' T w1) (c : Chg g g w w1) (b : Below w1.heap.size w1 w2) (lB' : B'.length = N) (hx : w1.heap.size ≤ xb') (hxl : xb' < w2.heap.size) (rB : RowAt w2 (some ⟨xb', 0, none⟩) cB' B') :
    PSt w0 p g h X N B' T U xb' cB' yb cU ((w2.setCell ⟨X, 0, none⟩ (.slice (some ⟨xb', 0, none⟩) N cB')).setCell ⟨X, 1, none⟩ (.slice (some ⟨yb, 0, none⟩) N cU)) := by
  have r2 := (s.r.chg c.wide).below b
  have m2 := m.below b
  obtain ⟨d1, d2, d3⟩ := s.r.dis
  have q1 := m.at_.bytes.lt
  have q2 := m.at_.zones.lt
  have q3 := (s.r.chg c.wide).own.lt
  have cX : Chg X X w2 ((w2.setCell ⟨X, 0, none⟩ (.slice (some ⟨xb', 0, none⟩) N cB')).setCell ⟨X, 1, none⟩ (.slice (some ⟨yb, 0, none⟩) N cU)) := chg_set (chg_set (Chg.refl _ _ _) X (.inl rfl) _ _) X (.inl rfl) _ _
  refine ⟨m2.keep cX (cX.below m2.bel m2.bel.size s.x0 s.x0) ⟨⟨s.pX.symm, d3.1.symm, d3.2.symm⟩, ⟨s.pX.symm, d3.1.symm, d3.2.symm⟩⟩, ⟨?_, rB.chg cX (by omega) (by omega), r2.rU.chg cX d2.2.2 d2.2.2, by simp; omega, ⟨⟨by omega, by omega, by omega⟩, d2, d3⟩⟩, lB', s.lU, s.lT, s.same, s.x0, s.pX⟩
  exact has_set (has_set r2.own 0 _) 1 _
/-- zones set in both -/
theorem PSt.wset {B' : List Int} {T' U' : List Bool} {w1 w2 : World} {xb' yb' : Nat} (s : PSt w0 p g h X N B T U xb cB yb cU w) (m : MSt w0 p g h B' T' w1) (c : Chg g h w w1) (b : Below w1.heap.size w1 w2) (lB' : B'.length = N) (lU' : U'.length = N) (lT' : 64 * T'.length = N) (same' : ∀ j, j < N → U'.getD j false = T'.getD (j / 64) false)
    (hx : w1.heap.size ≤ xb') (hy : w1.heap.size ≤ yb') (hN : N ≤ maxLen) (rB : HasB w2 xb' 5 (B'.map (Value.int .u8))) (rU : HasB w2 yb' 4 (U'.map Value.bool)) :
    PSt w0 p g h X N B' T' U' xb' N yb' N ((w2.setCell ⟨X, 0, none⟩ (.slice (some ⟨xb', 0, none⟩) N N)).setCell ⟨X, 1, none⟩ (.slice (some ⟨yb', 0, none⟩) N N)) := by
  have r2 := (s.r.chg c).below b
  have m2 := m.below b
  obtain ⟨d1, d2, d3⟩ := s.r.dis
  have q1 := m.at_.bytes.lt
  have q2 := m.at_.zones.lt
  have q3 := (s.r.chg c).own.lt
  have cX : Chg X X w2 ((w2.setCell ⟨X, 0, none⟩ (.slice (some ⟨xb', 0, none⟩) N N)).setCell ⟨X, 1, none⟩ (.slice (some ⟨yb', 0, none⟩) N N)) := chg_set (chg_set (Chg.refl _ _ _) X (.inl rfl) _ _) X (.inl rfl) _ _
  have rB' : RowAt w2 (some ⟨xb', 0, none⟩) N B' := by have := row_blk m.at_.byte (by rw [lB']; exact hN) rB; rwa [lB'] at this
  have rU' : BlAt w2 (some ⟨yb', 0, none⟩) N U' := ⟨by omega, hN, _, rfl, rU.lt, fun i hi => by rw [addr_add, Nat.zero_add, rU.cell, List.getElem?_map, List.getElem?_eq_getElem hi, Option.map_some]; simp [List.getD, List.getElem?_eq_getElem hi]⟩
  have hxl := rB.lt
  refine ⟨m2.keep cX (cX.below m2.bel m2.bel.size s.x0 s.x0) ⟨⟨s.pX.symm, d3.1.symm, d3.2.symm⟩, ⟨s.pX.symm, d3.1.symm, d3.2.symm⟩⟩, ⟨?_, rB'.chg cX (by omega) (by omega), rU'.chg cX (by omega) (by omega), by simp; omega, ⟨⟨by omega, by omega, by omega⟩, ⟨by omega, by omega, by omega⟩, d3⟩⟩, lB', lU', lT', same', s.x0, s.pX⟩
  exact has_set (has_set r2.own 0 _) 1 _
end

set_option maxRecDepth 100000 in
set_option maxHeartbeats 4000000 in
theorem plays_long (N : Int) (A : Option Addr) (n cap : Nat) (w : World) (ha : Acts w A n cap)
    (c : ∀ w1, Below w.heap.size w w1 → Calls Try.prog 6 #[.slice A n cap] w1 fun e w' => e = .returned (.bool false) ∧ w1 = w') :
    Calls Try.prog 3 #[.int .i64 N, .slice A n cap] w fun e w' => e = .returned (.bool true) ∧ Below w.heap.size w w' := by
  have C := Lib.hid c; clear c
  go_enter Try.func3, Try.ntmps3
  go_wp2_with fail
  refine (awake_any _).mono ?_; rintro e w1 ⟨rfl, hb1⟩
  go_wp2_with fail
  refine (C.out _ hb1).mono ?_; rintro e w' ⟨rfl, rfl⟩
  go_wp2_with fail
  refine (awake_any _).mono ?_; rintro e w2 ⟨rfl, hb2⟩
  go_wp2_with fail
  go_ret
  exact ⟨rfl, bel_then hb1 hb2⟩

set_option maxRecDepth 100000 in
set_option maxHeartbeats 4000000 in
theorem plays_bad (N : Int) (A : Option Addr) (n cap : Nat) (w : World) (ha : Acts w A n cap) (hN : ¬ (64 ≤ N ∧ N ≤ 65536 ∧ N % 64 = 0))
    (c : ∀ w1, Below w.heap.size w w1 → Calls Try.prog 6 #[.slice A n cap] w1 fun e w' => e = .returned (.bool true) ∧ w1 = w') :
    Calls Try.prog 3 #[.int .i64 N, .slice A n cap] w fun e w' => e = .returned (.bool true) ∧ Below w.heap.size w w' := by
  have C := Lib.hid c; clear c
  have NO := Lib.hid (new_no N hN)
  by_cases h1 : N < 64
  · clear hN
    go_enter Try.func3, Try.ntmps3
    go_wp2_with fail
    refine (awake_any _).mono ?_; rintro e w1 ⟨rfl, hb1⟩
    go_wp2_with fail
    refine (C.out _ hb1).mono ?_; rintro e w' ⟨rfl, rfl⟩
    go_wp2_with fail
    refine (NO.out _).mono ?_; rintro e w' ⟨rfl, rfl⟩
    go_wp2_with fail
    go_ret
    exact ⟨rfl, hb1⟩
  by_cases h2 : 65536 < N
  · clear hN
    go_enter Try.func3, Try.ntmps3
    go_wp2_with fail
    refine (awake_any _).mono ?_; rintro e w1 ⟨rfl, hb1⟩
    go_wp2_with fail
    refine (C.out _ hb1).mono ?_; rintro e w' ⟨rfl, rfl⟩
    go_wp2_with fail
    refine (NO.out _).mono ?_; rintro e w' ⟨rfl, rfl⟩
    go_wp2_with fail
    go_ret
    exact ⟨rfl, hb1⟩
  have h3 : ¬ N % 64 = 0 := by omega
  have d1 : decide (N < 64) = false := by rw [decide_eq_false_iff_not]; omega
  have d2 : decide (65536 < N) = false := by rw [decide_eq_false_iff_not]; omega
  have d3 : (N % 64 != 0) = true := by simpa using h3
  clear hN
  go_enter Try.func3, Try.ntmps3
  go_wp2_with fail
  refine (awake_any _).mono ?_; rintro e w1 ⟨rfl, hb1⟩
  go_wp2_with fail
  refine (C.out _ hb1).mono ?_; rintro e w' ⟨rfl, rfl⟩
  go_wp2_with fail
  refine (NO.out _).mono ?_; rintro e w' ⟨rfl, rfl⟩
  go_wp2_with fail
  go_ret
  exact ⟨rfl, hb1⟩

set_option maxRecDepth 100000 in
set_option maxHeartbeats 4000000 in
theorem plays_big (N z : Nat) (hz : N = 64 * z) (A : Option Addr) (n cap : Nat) (w : World) (ha : Acts w A n cap) (h1 : 512 < N) (h2 : N ≤ 65536)
    (c : ∀ w1, Below w.heap.size w w1 → Calls Try.prog 6 #[.slice A n cap] w1 fun e w' => e = .returned (.bool true) ∧ w1 = w') :
    Calls Try.prog 3 #[.int .i64 N, .slice A n cap] w fun e w' => e = .returned (.bool true) ∧ Below w.heap.size w w' := by
  have C := Lib.hid c; clear c
  have q1 : (N : Int) % 64 = 0 := by omega
  have HZ := Lib.hid hz; clear hz
  go_enter Try.func3, Try.ntmps3
  go_wp2_with fail
  refine (awake_any _).mono ?_; rintro e w1 ⟨rfl, hb1⟩
  have HB1 := Lib.hid hb1; clear hb1
  go_wp2_with fail
  refine (C.out _ HB1.out).mono ?_; rintro e w' ⟨rfl, rfl⟩
  go_wp2_with fail
  refine (new_m w N z (by have := HZ.out; omega) (by have := HZ.out; omega) (by have := HZ.out; omega) HB1.out).mono ?_; rintro e w2 ⟨p, g, h, rfl, s, _⟩
  have S := Lib.hid s; clear s
  have CS := size_any S.out.at_
  rw [List.length_replicate, ← HZ.out] at CS
  have CS := Lib.hid CS
  go_wp2_with fail
  refine CS.out.mono ?_; rintro e w' ⟨rfl, rfl⟩
  go_wp2_with fail
  go_ret
  exact ⟨rfl, S.out.bel⟩
end Go.Proofs.Ytjcggpaiminecaa.Mm
