/- The memories of the statements of layer 4, the program's and the document's; the document's example. -/
import Derived.Test.YtjcggpaiminecaaStepDoC
import Derived.Test.YtjcggpaiminecaaMemRefWrite
import Derived.Test.YtjcggpaiminecaaMemPlaysA
namespace Go.Proofs.Ytjcggpaiminecaa.Mm
open Go.ChangeShapes Go.WideShapes Go.ChangeAt Go.RowKit
set_option linter.unusedVariables false

def T4 : List Bool := [true, true, true, false]
def U4 : List Bool := List.replicate 192 true ++ List.replicate 64 false
def B4 (l : List Int) : List Int := splice (List.replicate 256 0) 0 (l.take 192)
theorem rep2_len (a b : Nat) : (List.replicate a true ++ List.replicate b false).length = a + b := by simp
theorem rep2_get (a b i : Nat) (h : i < a + b) : (List.replicate a true ++ List.replicate b false).getD i false = decide (i < a) := by
  simp only [List.getD]
  by_cases hi : i < a
  · rw [List.getElem?_append_left (by simpa using hi)]; simp [hi]
  · rw [List.getElem?_append_right (by rw [List.length_replicate]; omega), List.length_replicate, List.getElem?_replicate, decide_eq_false hi]
    split <;> rfl
theorem spl_len (N : Nat) (l : List Int) (h : l.length ≤ N) : (splice (List.replicate N 0) 0 l).length = N := by
  rw [splice_len _ _ _ (by rw [List.length_replicate]; omega), List.length_replicate]
theorem U4_len : U4.length = 256 := rep2_len 192 64
theorem U4_get (i : Nat) (h : i < 256) : U4.getD i false = decide (i < 192) := rep2_get 192 64 i h
theorem T4_get (z : Nat) : T4.getD z false = decide (z < 3) := by
  by_cases h : z < 4
  · obtain rfl | rfl | rfl | rfl : z = 0 ∨ z = 1 ∨ z = 2 ∨ z = 3 := by omega
    all_goals rfl
  · rw [decide_eq_false (by omega)]
    simp [List.getD, List.getElem?_eq_none (by simp [T4]; omega : T4.length ≤ z)]
theorem T4_yes (a n : Nat) (h : a + n ≤ 192) : wholeB T4 a n = true := by
  unfold wholeB
  rw [Bool.and_eq_true, liesB_iff, thr_iff]
  refine ⟨by show 0 ≤ (a : Int) ∧ 0 ≤ (n : Int) ∧ (n : Int) ≤ (256 : Int) - a; omega, fun i hi => ?_⟩
  rw [T4_get, decide_eq_true_iff]
  omega
theorem B4_len (l : List Int) : (B4 l).length = 256 := spl_len 256 _ (by rw [List.length_take]; omega)
theorem set_4 {w0 w : World} {p g h : Nat} (s : MSt w0 p g h (List.replicate (64 * 4) 0) (List.replicate 4 false) w) :
    Calls Try.prog 10 #[.pointer (some ⟨p, 0, none⟩), .int .i64 0, .int .i64 192, .bool true] w fun e w' => e = .returned (.int .i64 0) ∧ MSt w0 p g h (List.replicate (64 * 4) 0) T4 w' ∧ Chg g h w w' := by
  have hs : setB (List.replicate (64 * 4) (0 : Int)).length 0 192 = true := by rw [setB_iff, List.length_replicate]; omega
  refine (set_any s.at_ 0 192 true hs).mono ?_
  rintro e w' ⟨rfl, m, c⟩
  rw [show (192 : Int).toNat = 192 from rfl, show (0 : Int).toNat = 0 from rfl, rep_splice _ _ _ _ (by decide), show (192 / 64 : Int).toNat = 3 from rfl, show (0 / 64 : Int).toNat = 0 from rfl] at m
  exact ⟨rfl, s.chg m c, c⟩
theorem bl_blk {w : World} {g : Nat} {l : List Bool} (hm : l.length ≤ maxLen) (h : HasB w g 4 (l.map Value.bool)) : BlAt w (some ⟨g, 0, none⟩) l.length l := by
  refine ⟨Nat.le_refl _, hm, _, rfl, h.lt, fun i hi => ?_⟩
  rw [addr_add, Nat.zero_add, h.cell i]
  simp [List.getD, hi]

/-- both memories, alike -/
structure MadS (w : World) (p g h : Nat) (B : List Int) (xb cB yb cU : Nat) (w' : World) : Prop where
  m : MSt w p g h B T4 w'
  rB : RowAt w' (some ⟨xb, 0, none⟩) cB B
  rU : BlAt w' (some ⟨yb, 0, none⟩) cU U4
  x : w.heap.size ≤ xb
  y : w.heap.size ≤ yb
  xg : xb ≠ g ∧ xb ≠ h ∧ yb ≠ g ∧ yb ≠ h
def MadeP (w : World) (l : List Int) (e : Ending) (w' : World) : Prop :=
  ∃ p g h xb cB yb cU, e = .returned (.tuple #[.pointer (some ⟨p, 0, none⟩), .agg #[.slice (some ⟨xb, 0, none⟩) 256 cB, .slice (some ⟨yb, 0, none⟩) 256 cU]]) ∧ MadS w p g h (B4 l) xb cB yb cU w' ∧ w.heap.size ≤ p

theorem two_worlds (w5 : World) (a b : Value) :
    ∃ W6 W7, w5.alloc (.cells #[.slice none 0 0, .slice none 0 0] 33) = W6 ∧ (W6.setCell ⟨w5.heap.size, 0, none⟩ a).setCell ⟨w5.heap.size, 1, none⟩ b = W7 ∧ HasB W6 w5.heap.size 33 [.slice none 0 0, .slice none 0 0] ∧ HasB W7 w5.heap.size 33 [a, b] ∧ Below w5.heap.size w5 W7 := by
  refine ⟨_, _, rfl, rfl, HasB.newAt _ _ _ _ rfl, has_set (has_set (HasB.newAt w5 _ _ _ rfl) 0 _) 1 _, ?_⟩
  exact ((bel_al (Below.refl _ _) _).setCell (by simp) _).setCell (by simp) _

set_option maxRecDepth 100000 in
set_option maxHeartbeats 4000000 in
theorem made_some (A : Option Addr) (n cap : Nat) (l : List Int) (hl : l.length = n) (hn : n ≤ 192) (w : World) (hr : RowAt w A cap l) :
    Calls Try.prog 22 #[.slice A n cap] w (MadeP w l) := by
  have HL := Lib.hid hl
  have HR := Lib.hid hr
  have hnI : decide (192 < (n : Int)) = false := decide_eq_false (by omega)
  obtain ⟨Wr, er, kr⟩ : ∃ Wr, w.alloc (.cells #[.slice none 0 0, .slice none 0 0] 33) = Wr ∧ HasB Wr w.heap.size 33 [.slice none 0 0, .slice none 0 0] := ⟨_, rfl, HasB.newAt _ _ _ _ rfl⟩
  have br : Below w.heap.size w Wr := by rw [← er]; exact bel_al (Below.refl _ _) _
  have hzr := kr.lt
  have KR := Lib.hid kr
  have BR := Lib.hid br
  clear hl hr kr br
  go_enter Try.func22, Try.ntmps22
  go_wp2_with fail
  refine (new_m Wr 256 4 (by decide) (by decide) (by decide) (Below.refl _ _)).mono ?_; rintro e w1 ⟨p, g, h, rfl, s, lp, lg, lh, _⟩
  have S := Lib.hid s; clear s
  go_wp2_with fail
  refine (set_4 S.out).mono ?_; rintro e w2 ⟨rfl, s, c2⟩
  have K2 := KR.out.below s.bel
  have S2 := Lib.hid s
  have HK2 := Lib.hid K2
  clear s S c2 K2
  go_wp2_with fail
  refine (rNew_any 256 (by decide) _).mono ?_; rintro e w3 ⟨xb, yb, rfl, hx, hy, lx, ly, hb⟩
  have RX := Lib.hid hx
  have RY := Lib.hid hy
  have HB3 := Lib.hid hb
  clear hx hy hb
  go_wp2_with fail
  have rB := row_blk (rep_byte 256) (by rw [List.length_replicate]; decide) RX.out
  have rU := bl_blk (by rw [List.length_replicate]; decide) RY.out
  rw [List.length_replicate] at rB rU
  refine (rSet_any xb yb 256 0 192 256 256 true (List.replicate 256 0) (List.replicate 256 false) (List.length_replicate ..) (List.length_replicate ..) (by decide) (by decide) w3 rB rU (List.replicate 256 0) U4 (List.length_replicate ..) U4_len
    (fun i hi ha => ⟨rep_getD _ _ _ _ hi, by rw [U4_get i hi, decide_eq_true_iff]; omega⟩) (fun i hi ha => ⟨rfl, by rw [U4_get i hi, rep_getD _ _ _ _ hi, decide_eq_false_iff_not]; omega⟩) (by decide)).mono ?_
  clear rB rU
  rintro e w5 ⟨xb, yb, rfl, hx, hy, lx5, ly5, hb⟩
  have B5 := Lib.hid (bel_then HB3.out hb)
  have rx := Lib.hid hx
  have ry := Lib.hid hy
  have s23 := HB3.out.size
  have z1 := S2.out.at_.bytes.lt
  have z2 := S2.out.at_.zones.lt
  have z3 := HK2.out.lt
  have z4 := B5.out.size
  have z5 := S2.out.at_.own.lt
  clear hx hy hb RX RY HB3
  obtain ⟨W6, W7, e6, e7, k6, k7, b7⟩ := two_worlds w5 (.slice (some ⟨xb, 0, none⟩) 256 256) (.slice (some ⟨yb, 0, none⟩) 256 256)
  obtain ⟨⟨c0, c1⟩, ⟨f0, f1⟩⟩ := has2 k6
  obtain ⟨⟨d0, d1⟩, _⟩ := has2 k7
  have K7 := Lib.hid k7
  have BE7 := Lib.hid (bel_then B5.out b7)
  have b7 := Lib.hid b7
  clear k6 k7
  have zx := rx.out.lt
  have zy := ry.out.lt
  go_wp2_with fail
  have M7 := S2.out.below BE7.out
  have HW := write_m M7 0 A cap l (HR.out.below (bel_then BR.out M7.bel)) (T4_yes 0 l.length (by rw [HL.out]; omega))
  rw [HL.out] at HW
  refine HW.mono ?_; rintro e w8 ⟨rfl, s8, c8⟩
  clear HW
  have S8 := Lib.hid s8
  have C8 := Lib.hid c8
  have k8 := K7.out.chg c8 (by omega) (by omega)
  have rx8 := (rx.out.below b7.out).chg c8 (by omega) (by omega)
  have ry8 := (ry.out.below b7.out).chg c8 (by omega) (by omega)
  have kr8 := (HK2.out.below BE7.out).chg c8 (by omega) (by omega)
  have K8 := Lib.hid k8
  have RX8 := Lib.hid rx8
  have RY8 := Lib.hid ry8
  have KR8 := Lib.hid kr8
  obtain ⟨⟨h0, h1⟩, _⟩ := has2 k8
  clear s8 c8 k8 rx8 ry8 kr8
  go_wp2_with fail
  have rB8 := row_blk (rep_byte 256) (by rw [List.length_replicate]; decide) RX8.out
  rw [List.length_replicate] at rB8
  have rl8 : RowAt w8 A cap l := (HR.out.below (bel_then BR.out S8.out.bel))
  refine (rWrite_any xb yb 256 0 n 256 256 cap A (List.replicate 256 0) l (List.length_replicate ..) HL.out (by decide) (by decide) (by omega) w8 rB8 RY8.out.lt rl8).mono ?_
  clear rB8 rl8
  rintro e w9 ⟨xb', cB', rfl, r9, l9, m9, b9⟩
  have R9 := Lib.hid r9
  have B9 := Lib.hid b9
  have kr9 := KR8.out.below b9
  obtain ⟨⟨g0, g1⟩, ⟨fz0, fz1⟩⟩ := has2 kr9
  have KR9 := Lib.hid kr9
  have s8z := C8.out.size
  have s7z := BE7.out.size
  have hz9 := R9.out
  clear hz9
  clear r9 b9 kr9
  go_wp2_with fail
  refine bodyPost_ret (v := .tuple #[.pointer (some ⟨p, 0, none⟩), .agg #[.slice (some ⟨xb', 0, none⟩) 256 cB', .slice (some ⟨yb, 0, none⟩) 256 256]]) (by simp [results, Try.results22, go_sem, g0, g1]) rfl ?_
  have bw1 := BR.out.size
  have wW9 := B9.out.size
  have cc : Chg w.heap.size w.heap.size w9 ((w9.setCell ⟨w.heap.size, 0, none⟩ (.slice (some ⟨xb', 0, none⟩) 256 cB')).setCell ⟨w.heap.size, 1, none⟩ (.slice (some ⟨yb, 0, none⟩) 256 256)) := chg_set (chg_set (Chg.refl _ _ _) _ (.inl rfl) _ _) _ (.inl rfl) _ _
  have S9 := S8.out.below B9.out
  have hz := KR.out.lt
  have q1 := S9.p_
  have q2 := S9.g_
  have q3 := S9.h_
  have e2 : (0 : Int).toNat = 0 := rfl
  rw [e2] at S9
  have ry9 := bl_blk (by rw [U4_len]; decide) (RY8.out.below B9.out)
  rw [U4_len] at ry9
  refine ⟨p, g, h, xb', cB', yb, 256, rfl, ⟨?_, ?_, ?_, by omega, by omega, by omega, by omega, by omega, by omega⟩, by omega⟩
  · have hb := cc.below (bel_then BR.out S9.bel) (by omega) (Nat.le_refl _) (Nat.le_refl _)
    have S0 := S9.old BR.out
    rw [show splice (List.replicate 256 0) 0 l = B4 l by unfold B4; rw [List.take_of_length_le (by rw [HL.out]; exact hn)]] at S0
    exact S0.keep cc hb ⟨⟨by omega, by omega, by omega⟩, ⟨by omega, by omega, by omega⟩⟩
  · have := R9.out.chg cc (by omega) (by omega)
    rw [show splice (List.replicate 256 0) 0 l = B4 l by unfold B4; rw [List.take_of_length_le (by rw [HL.out]; exact hn)]] at this
    exact this
  · exact ry9.chg cc (by omega) (by omega)
set_option maxRecDepth 100000 in
set_option maxHeartbeats 4000000 in
theorem made_more (A : Option Addr) (n cap : Nat) (l : List Int) (hl : l.length = n) (hn : 192 < n) (hn' : n ≤ 1000) (w : World) (hr : RowAt w A cap l) :
    Calls Try.prog 22 #[.slice A n cap] w (MadeP w l) := by
  have HL := Lib.hid hl
  have HR := Lib.hid hr
  have hnI : decide (192 < (n : Int)) = true := decide_eq_true (by omega)
  obtain ⟨A1, c1, eS, kS⟩ := cut_head hr n 192 hl (by omega)
  have eS' : ∀ w, (Instr.slice 30 (.slice A n cap) none (some (.int .i64 192)) none).run Try.prog w = .ok (.slice A1 192 c1) w := eS
  have HS := Lib.hid kS
  have HT : (l.take 192).length = 192 := by rw [List.length_take, hl]; omega
  have HT := Lib.hid HT
  clear eS kS
  obtain ⟨Wr, er, kr⟩ : ∃ Wr, w.alloc (.cells #[.slice none 0 0, .slice none 0 0] 33) = Wr ∧ HasB Wr w.heap.size 33 [.slice none 0 0, .slice none 0 0] := ⟨_, rfl, HasB.newAt _ _ _ _ rfl⟩
  have br : Below w.heap.size w Wr := by rw [← er]; exact bel_al (Below.refl _ _) _
  have hzr := kr.lt
  have KR := Lib.hid kr
  have BR := Lib.hid br
  clear hl hr kr br
  go_enter Try.func22, Try.ntmps22
  go_wp2_with fail
  refine (new_m Wr 256 4 (by decide) (by decide) (by decide) (Below.refl _ _)).mono ?_; rintro e w1 ⟨p, g, h, rfl, s, lp, lg, lh, _⟩
  have S := Lib.hid s; clear s
  go_wp2_with fail
  refine (set_4 S.out).mono ?_; rintro e w2 ⟨rfl, s, c2⟩
  have K2 := KR.out.below s.bel
  have S2 := Lib.hid s
  have HK2 := Lib.hid K2
  clear s S c2 K2
  go_wp2_with fail
  refine (rNew_any 256 (by decide) _).mono ?_; rintro e w3 ⟨xb, yb, rfl, hx, hy, lx, ly, hb⟩
  have RX := Lib.hid hx
  have RY := Lib.hid hy
  have HB3 := Lib.hid hb
  clear hx hy hb
  go_wp2_with fail
  have rB := row_blk (rep_byte 256) (by rw [List.length_replicate]; decide) RX.out
  have rU := bl_blk (by rw [List.length_replicate]; decide) RY.out
  rw [List.length_replicate] at rB rU
  refine (rSet_any xb yb 256 0 192 256 256 true (List.replicate 256 0) (List.replicate 256 false) (List.length_replicate ..) (List.length_replicate ..) (by decide) (by decide) w3 rB rU (List.replicate 256 0) U4 (List.length_replicate ..) U4_len
    (fun i hi ha => ⟨rep_getD _ _ _ _ hi, by rw [U4_get i hi, decide_eq_true_iff]; omega⟩) (fun i hi ha => ⟨rfl, by rw [U4_get i hi, rep_getD _ _ _ _ hi, decide_eq_false_iff_not]; omega⟩) (by decide)).mono ?_
  clear rB rU
  rintro e w5 ⟨xb, yb, rfl, hx, hy, lx5, ly5, hb⟩
  have B5 := Lib.hid (bel_then HB3.out hb)
  have rx := Lib.hid hx
  have ry := Lib.hid hy
  have s23 := HB3.out.size
  have z1 := S2.out.at_.bytes.lt
  have z2 := S2.out.at_.zones.lt
  have z3 := HK2.out.lt
  have z4 := B5.out.size
  have z5 := S2.out.at_.own.lt
  clear hx hy hb RX RY HB3
  obtain ⟨W6, W7, e6, e7, k6, k7, b7⟩ := two_worlds w5 (.slice (some ⟨xb, 0, none⟩) 256 256) (.slice (some ⟨yb, 0, none⟩) 256 256)
  obtain ⟨⟨c0, cc1⟩, ⟨f0, f1⟩⟩ := has2 k6
  obtain ⟨⟨d0, d1⟩, _⟩ := has2 k7
  have K7 := Lib.hid k7
  have BE7 := Lib.hid (bel_then B5.out b7)
  have b7 := Lib.hid b7
  clear k6 k7
  have zx := rx.out.lt
  have zy := ry.out.lt
  go_wp2_with fail
  have M7 := S2.out.below BE7.out
  have HW := write_m M7 0 A1 c1 (l.take 192) (HS.out _ (HR.out.below (bel_then BR.out M7.bel))) (T4_yes 0 (l.take 192).length (by rw [HT.out]; omega))
  rw [HT.out] at HW
  refine HW.mono ?_; rintro e w8 ⟨rfl, s8, c8⟩
  clear HW
  have S8 := Lib.hid s8
  have C8 := Lib.hid c8
  have k8 := K7.out.chg c8 (by omega) (by omega)
  have rx8 := (rx.out.below b7.out).chg c8 (by omega) (by omega)
  have ry8 := (ry.out.below b7.out).chg c8 (by omega) (by omega)
  have kr8 := (HK2.out.below BE7.out).chg c8 (by omega) (by omega)
  have K8 := Lib.hid k8
  have RX8 := Lib.hid rx8
  have RY8 := Lib.hid ry8
  have KR8 := Lib.hid kr8
  obtain ⟨⟨h0, h1⟩, _⟩ := has2 k8
  clear s8 c8 k8 rx8 ry8 kr8
  go_wp2_with fail
  have rB8 := row_blk (rep_byte 256) (by rw [List.length_replicate]; decide) RX8.out
  rw [List.length_replicate] at rB8
  have rl8 : RowAt w8 A1 c1 (l.take 192) := (HS.out _ (HR.out.below (bel_then BR.out S8.out.bel)))
  refine (rWrite_any xb yb 256 0 192 256 256 c1 A1 (List.replicate 256 0) (l.take 192) (List.length_replicate ..) HT.out (by decide) (by decide) (by omega) w8 rB8 RY8.out.lt rl8).mono ?_
  clear rB8 rl8
  rintro e w9 ⟨xb', cB', rfl, r9, l9, m9, b9⟩
  have R9 := Lib.hid r9
  have B9 := Lib.hid b9
  have kr9 := KR8.out.below b9
  obtain ⟨⟨g0, g1⟩, ⟨fz0, fz1⟩⟩ := has2 kr9
  have KR9 := Lib.hid kr9
  have s8z := C8.out.size
  have s7z := BE7.out.size
  have hz9 := R9.out
  clear hz9
  clear r9 b9 kr9
  go_wp2_with fail
  refine bodyPost_ret (v := .tuple #[.pointer (some ⟨p, 0, none⟩), .agg #[.slice (some ⟨xb', 0, none⟩) 256 cB', .slice (some ⟨yb, 0, none⟩) 256 256]]) (by simp [results, Try.results22, go_sem, g0, g1]) rfl ?_
  have bw1 := BR.out.size
  have wW9 := B9.out.size
  have cc : Chg w.heap.size w.heap.size w9 ((w9.setCell ⟨w.heap.size, 0, none⟩ (.slice (some ⟨xb', 0, none⟩) 256 cB')).setCell ⟨w.heap.size, 1, none⟩ (.slice (some ⟨yb, 0, none⟩) 256 256)) := chg_set (chg_set (Chg.refl _ _ _) _ (.inl rfl) _ _) _ (.inl rfl) _ _
  have S9 := S8.out.below B9.out
  have hz := KR.out.lt
  have q1 := S9.p_
  have q2 := S9.g_
  have q3 := S9.h_
  have e2 : (0 : Int).toNat = 0 := rfl
  rw [e2] at S9
  have ry9 := bl_blk (by rw [U4_len]; decide) (RY8.out.below B9.out)
  rw [U4_len] at ry9
  refine ⟨p, g, h, xb', cB', yb, 256, rfl, ⟨?_, ?_, ?_, by omega, by omega, by omega, by omega, by omega, by omega⟩, by omega⟩
  · have hb := cc.below (bel_then BR.out S9.bel) (by omega) (Nat.le_refl _) (Nat.le_refl _)
    have S0 := S9.old BR.out
    rw [show splice (List.replicate 256 0) 0 (l.take 192) = B4 l from rfl] at S0
    exact S0.keep cc hb ⟨⟨by omega, by omega, by omega⟩, ⟨by omega, by omega, by omega⟩⟩
  · have := R9.out.chg cc (by omega) (by omega)
    rw [show splice (List.replicate 256 0) 0 (l.take 192) = B4 l from rfl] at this
    exact this
  · exact ry9.chg cc (by omega) (by omega)
end Go.Proofs.Ytjcggpaiminecaa.Mm
