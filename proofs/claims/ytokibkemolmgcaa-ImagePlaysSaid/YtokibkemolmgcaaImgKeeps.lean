/- The statement ImageKeeps, walked. -/
import Derived.Test.YtokibkemolmgcaaImgLay3
namespace Go.Proofs.Ytokibkemolmgcaa.Mm
open Go.ChangeShapes Go.WideShapes Go.ChangeAt Go.RowKit
set_option linter.unusedVariables false

/-- what was laid, read -/
def ReadL (w : World) (c d : Nat) (C D : List Int) (e : Ending) (w' : World) : Prop :=
  ∃ A5 c5 A6 c6, e = .returned (.tuple #[.agg #[.slice A5 c c5, .slice A6 d c6], .int .i64 0]) ∧ Own w.heap.size w' A5 c5 C ∧ Own w.heap.size w' A6 c6 D ∧ Below w.heap.size w w'
theorem read_lay (A : Option Addr) (cap : Nat) (C D : List Int) (c d n : Nat) (hc : C.length = c) (hd : D.length = d) (hn : n = 12 + c + d) (h1 : c ≤ 9000) (h2 : d ≤ 9000) (hq : rightB c d = true) (w : World) (r : RowAt w A cap (layL C D)) :
    Calls Try.prog 11 #[.slice A n cap] w (ReadL w c d C D) := by
  subst hn
  refine (Read_yes A cap (layL C D) (12 + c + d) (by rw [layL_len, hc, hd]) (by omega) w r (lay_err C D (by rw [hc, hd]; exact hq))).mono ?_
  rintro e w' ⟨A5, c5, A6, c6, rfl, o5, o6, b⟩
  rw [lay_code] at o5 ⊢
  rw [lay_data] at o6 ⊢
  exact ⟨A5, c5, A6, c6, by rw [hc, hd], o5, o6, b⟩
theorem Own.open {B : Nat} {w : World} {A : Option Addr} {cap : Nat} {L : List Int} (h : Own B w A cap L) (hn : 0 < L.length) : ∃ g, A = some ⟨g, 0, none⟩ ∧ B ≤ g ∧ g < w.heap.size := by
  obtain ⟨g, c', e, _, h1, h2⟩ := own_open h.own hn
  injection e with e1 e2 e3
  exact ⟨g, e1, h1, h2⟩
/-- a byte of it set anew -/
theorem Own.set {B : Nat} {w : World} {g cap : Nat} {L : List Int} (h : Own B w (some ⟨g, 0, none⟩) cap L) (k : Nat) (y : Int) (y0 : 0 ≤ y) (y1 : y ≤ 255) : Own B (w.setCell ⟨g, k, none⟩ (.int .u8 y)) (some ⟨g, 0, none⟩) cap (L.set k y) := by
  refine ⟨?_, fun z hz => ?_⟩
  · have hs := (h.own.stored k (.int .u8 y)).1
    rw [List.length_set, List.map_set]
    exact hs
  · rcases List.mem_or_eq_of_mem_set hz with h' | h'
    · exact h.byte z h'
    · subst h'; exact ⟨y0, y1⟩
theorem Own.cell {B : Nat} {w : World} {g cap : Nat} {L : List Int} (h : Own B w (some ⟨g, 0, none⟩) cap L) (k : Nat) (hk : k < L.length) : w.cell? ⟨g, k, none⟩ = some (.int .u8 (L.getD k 0)) ∧ w.frozen? ⟨g, k, none⟩ = false := by
  refine ⟨?_, h.own.frozenAt k⟩
  rw [h.own.cellAt k (by omega)]
  simp [List.getD, List.getElem?_eq_getElem hk]
theorem HasB.kept {w : World} {h : Nat} {t : TypeId} {cs : List Value} (x : HasB w h t cs) {a : Addr} (hne : h ≠ a.block) (u : Value) : HasB (w.setCell a u) h t cs := x.same (Below.heap_setCell w a u h hne)

/-- behind k bytes turned -/
structure KSt (w w' : World) (n g c5 h B6 c c6 d c7 : Nat) (A6 A7 : Option Addr) (C D L : List Int) : Prop where
  len : L.length = n
  own : Own w.heap.size w' (some ⟨g, 0, none⟩) c5 L
  code : Own B6 w' A6 c6 C
  data : Own B6 w' A7 c7 D
  box : HasB w' h 26 [.slice A6 c c6, .slice A7 d c7]
  below : Below w.heap.size w w'
  g0 : w.heap.size ≤ g
  g1 : g < B6
  hg : h ≠ g
theorem KSt.step {w w' : World} {n g c5 h B6 c c6 d c7 : Nat} {A6 A7 : Option Addr} {C D L : List Int} (s : KSt w w' n g c5 h B6 c c6 d c7 A6 A7 C D L) (k : Nat) (y : Int) (y0 : 0 ≤ y) (y1 : y ≤ 255) :
    KSt w (w'.setCell ⟨g, k, none⟩ (.int .u8 y)) n g c5 h B6 c c6 d c7 A6 A7 C D (L.set k y) :=
  ⟨by rw [List.length_set]; exact s.len, s.own.set k y y0 y1, s.code.kept s.g1 _, s.data.kept s.g1 _, s.box.kept s.hg _, s.below.setCell s.g0 _, s.g0, s.g1, s.hg⟩
def KRel (w : World) (n g c5 h B6 c c6 d c7 : Nat) (A6 A7 : Option Addr) (C D : List Int) (i : Value) (w' : World) : Prop :=
  ∃ (k : Nat) (L : List Int), k ≤ n ∧ i = .int .i64 k ∧ KSt w w' n g c5 h B6 c c6 d c7 A6 A7 C D L

theorem keeps_long (A B : Option Addr) (ca cb a b : Nat) (w : World) (ha : a ≤ maxLen) (hb : b ≤ maxLen) (hlong : 9000 < a ∨ (a ≤ 9000 ∧ 9000 < b)) :
    Calls Try.prog 5 #[.slice A a ca, .slice B b cb] w fun e w' => e = .returned (.bool true) ∧ Below w.heap.size w w' := by
  unfold maxLen at ha hb
  rcases hlong with h | ⟨h, h'⟩
  all_goals
    go_enter Try.func5, Try.ntmps5
    go_wp2_with fail
    refine (awake_any _).mono ?_; rintro e w1 ⟨rfl, hb1⟩
    go_wp2_with fail
    refine (awake_any _).mono ?_; rintro e w2 ⟨rfl, hb2⟩
    go_wp2_with fail
    go_ret
    exact ⟨rfl, bel_then hb1 hb2⟩
theorem keeps_no (A B : Option Addr) (ca cb c d : Nat) (w : World) (h1 : c ≤ 9000) (h2 : d ≤ 9000) (hq : rightB c d = false) :
    Calls Try.prog 5 #[.slice A c ca, .slice B d cb] w fun e w' => e = .returned (.bool true) ∧ Below w.heap.size w w' := by
  have L1 := Lib.hid (fun w' => lay_no A B c d ca cb h1 h2 w' hq)
  clear hq
  go_enter Try.func5, Try.ntmps5
  go_wp2_with fail
  refine (awake_any _).mono ?_; rintro e w1 ⟨rfl, hb1⟩
  go_wp2_with fail
  refine (L1.out _).mono ?_; rintro e w2 ⟨rfl, hb2⟩
  go_wp2_with fail
  go_ret
  exact ⟨rfl, bel_then hb1 hb2⟩
theorem keeps_yes (A B : Option Addr) (ca cb c d n : Nat) (C D : List Int) (hc : C.length = c) (hd : D.length = d) (hn : n = 12 + c + d) (w : World) (rA : RowAt w A ca C) (rB : RowAt w B cb D) (h1 : c ≤ 9000) (h2 : d ≤ 9000) (hq : rightB c d = true) :
    Calls Try.prog 5 #[.slice A c ca, .slice B d cb] w fun e w' => e = .returned (.bool true) ∧ Below w.heap.size w w' := by
  have L1 := Lib.hid (fun w' (b' : Below w.heap.size w w') => lay_yes A B ca cb C D c d hc hd h1 h2 w' (rA.below b') (rB.below b') hq)
  rw [← hn] at L1
  have L2 := Lib.hid (fun A5 c5 => read_lay A5 c5 C D c d n hc hd hn h1 h2 hq)
  have RA := Lib.hid rA
  have RB := Lib.hid rB
  have HC := Lib.hid hc
  have HD := Lib.hid hd
  have HN := Lib.hid hn
  have HL := Lib.hid (show (layL C D).length = n by rw [layL_len, hc, hd, hn])
  have hn1 : n ≤ 18012 := by omega
  have hn0 : 0 < n := by omega
  clear rA rB hc hd hq hn
  go_enter Try.func5, Try.ntmps5
  go_wp2_with fail
  refine (awake_any _).mono ?_; rintro e w1 ⟨rfl, hb1⟩
  go_wp2_with fail
  refine (L1.out _ hb1).mono ?_; rintro e w2 ⟨A5, c5, rfl, o5, hb2⟩
  obtain ⟨g, rfl, hg1, hg2⟩ := o5.open (by rw [HL.out]; exact hn0)
  have O5 := Lib.hid (o5.mono hb1.size)
  have HB2 := Lib.hid (bel_then hb1 hb2)
  have R5 := Lib.hid o5.row
  have G1 := Lib.hid (Nat.le_trans hb1.size hg1)
  have G2 := Lib.hid hg2
  clear o5 hb1 hb2 hg1 hg2
  go_wp2_with fail
  refine (L2.out _ _ _ R5.out).mono ?_; rintro e w3 ⟨A6, c6, A7, c7, rfl, o6, o7, hb3⟩
  have st : KSt w (w3.alloc (.cells #[.slice A6 c c6, .slice A7 d c7] 26)) n g c5 w3.heap.size w2.heap.size c c6 d c7 A6 A7 C D (layL C D) :=
    ⟨HL.out, (O5.out.below hb3).al _, o6.al _, o7.al _, HasB.new _ _ _, bel_al (bel_then HB2.out hb3) _, G1.out, G2.out, Nat.ne_of_gt (Nat.lt_of_lt_of_le G2.out hb3.size)⟩
  have ST := Lib.hid st
  clear o6 o7 hb3 st
  go_wp2_with fail
  go_loopw [9] (fun i w' => KRel w n g c5 w3.heap.size w2.heap.size c c6 d c7 A6 A7 C D i w') (fun i _ => n - (intOf i).toNat)
  case atStart => exact ⟨0, _, Nat.zero_le _, rfl, ST.out⟩
  case round =>
    obtain ⟨k, L, hk, rfl, s⟩ := hrel
    have S := Lib.hid s
    clear s ST
    by_cases hlt : k < n
    · obtain ⟨x0, x1⟩ := S.out.own.cell k (by rw [S.out.len]; exact hlt)
      have hx := row_byte S.out.own.byte k
      generalize L.getD k 0 = x at *
      have X8 := xor8 x 255 hx.1 hx.2 (by decide) (by decide)
      have XX := Lib.hid (show 0 ≤ bits .xor .u8 x 255 ∧ bits .xor .u8 x 255 ≤ 255 from ⟨X8.1, X8.2.1⟩)
      clear X8
      go_wp2_with fail
      go_roundw
      case rel => exact ⟨k + 1, _, hlt, by go_num, S.out.step k _ XX.out.1 XX.out.2⟩
      case measure => simp [intOf]; omega
    · obtain rfl : k = n := by omega
      have k0 := S.out.box.cell 0
      have k1 := S.out.box.cell 1
      simp only [List.getElem?_cons_succ, List.getElem?_cons_zero] at k0 k1
      have y1 := conv_row S.out.code.row _ HC.out
      have y2 := conv_row S.out.data.row _ HD.out
      have y3 := conv_row (RA.out.below S.out.below) _ HC.out
      have y4 := conv_row (RB.out.below S.out.below) _ HD.out
      go_wp2_with fail
      go_ret
      exact ⟨rfl, S.out.below⟩

theorem imageKeeps_walk (A : Option Addr) (ca : Nat) (C : List Int) (B : Option Addr) (cb : Nat) (D : List Int) (w : World) (rA : RowAt w A ca C) (rB : RowAt w B cb D) :
    Calls Try.prog 5 #[.slice A C.length ca, .slice B D.length cb] w fun e w' => e = .returned (.bool true) ∧ Below w.heap.size w w' := by
  by_cases hl : 9000 < C.length ∨ (C.length ≤ 9000 ∧ 9000 < D.length)
  · exact keeps_long A B ca cb _ _ w (Nat.le_trans rA.1 rA.2.1) (Nat.le_trans rB.1 rB.2.1) hl
  · cases hq : rightB C.length D.length
    · exact keeps_no A B ca cb _ _ w (by omega) (by omega) hq
    · exact keeps_yes A B ca cb _ _ _ C D rfl rfl rfl w rA rB (by omega) (by omega) hq
end Go.Proofs.Ytokibkemolmgcaa.Mm
