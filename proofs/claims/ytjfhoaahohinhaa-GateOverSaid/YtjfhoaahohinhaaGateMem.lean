/- The memories of the statements of layer 12, the program's and the document's. -/
import Derived.Test.YtjfhoaahohinhaaGateBase
import Derived.Test.YtjfhoaahohinhaaMeR
namespace Go.Proofs.Ytjfhoaahohinhaa.Mm
open Go.ChangeShapes Go.WideShapes Go.ChangeAt Go.RowKit
set_option linter.unusedVariables false

theorem rep_splice (N o n : Nat) (x : Int) (h : o + n ≤ N) : splice (List.replicate N x) o (List.replicate n x) = List.replicate N x := by
  apply ext_getD x
  · rw [splice_len _ _ _ (by simpa using h)]
  · intro i hi
    rw [splice_len _ _ _ (by simpa using h), List.length_replicate] at hi
    rw [splice_getD _ _ _ _ (by simpa using h)]
    split
    · rw [rep_getD _ _ _ _ (by rename_i hq; rw [List.length_replicate] at hq; omega), rep_getD _ _ _ _ hi]
    · rfl
theorem MSt.keep {w0 w w' : World} {p g h x y : Nat} {B : List Int} {T : List Bool} (s : MSt w0 p g h B T w) (c : Chg x y w w') (b : Below w0.heap.size w0 w') (d : (p ≠ x ∧ g ≠ x ∧ h ≠ x) ∧ (p ≠ y ∧ g ≠ y ∧ h ≠ y)) : MSt w0 p g h B T w' :=
  ⟨s.at_.chg c d.1.1 d.2.1 d.1.2.1 d.2.2.1 d.1.2.2 d.2.2.2, s.p_, s.g_, s.h_, b⟩

theorem row_take {w : World} {A : Option Addr} {cap : Nat} {l : List Int} (r : RowAt w A cap l) (m : Nat) : RowAt w A cap (l.take m) := by
  obtain ⟨h1, h2, h3, h4⟩ := r
  have hl : (l.take m).length ≤ l.length := by rw [List.length_take]; omega
  refine ⟨by omega, h2, take_byte h3 _, fun hne => ?_⟩
  obtain ⟨x, hx, hb, hc⟩ := h4 (by intro e; subst e; simp at hne)
  exact ⟨x, hx, hb, fun i hi => by rw [hc i (by omega), getD_take' _ _ _ _ (by rw [List.length_take] at hi; omega)]⟩
theorem u8_el : Try.prog.underlying 26 = some (.slice (Try.prog.elem 26)) := by kernel_rfl
theorem u8_sz (w : World) : (sizeOf (Try.prog.elem 26)).run Try.prog w = .ok 1 w := by kernel_rfl
theorem cut_head {w0 : World} {A : Option Addr} {cap : Nat} {l : List Int} (r : RowAt w0 A cap l) (n k : Nat) (hn : l.length = n) (hk : k ≤ n) :
    ∃ A1 c1, (∀ w, (Instr.slice 26 (.slice A n cap) none (some (.int .i64 k)) none).run Try.prog w = .ok (.slice A1 k c1) w) ∧ ∀ w', RowAt w' A cap l → RowAt w' A1 c1 (l.take k) := by
  have hc := r.1
  refine ⟨if cap = 0 then A else A.map (·.add (0 * 1)), cap, fun w => ?_, fun w' r' => ?_⟩
  · rw [run_slice_h w 26 A n cap u8_el .i64 k (by omega) (by omega), u8_sz]
    simp [Result.andThen, sliced]
  · have e : (if cap = 0 then A else A.map (·.add (0 * 1))) = A := by
      split
      · rfl
      · cases A
        · rfl
        · rfl
    rw [e]
    exact row_take r' k
theorem BlAt.at_ {w : World} {b cap : Nat} {l : List Bool} (r : BlAt w (some ⟨b, 0, none⟩) cap l) : b < w.heap.size ∧ ∀ i, i < l.length → w.cell? ⟨b, i, none⟩ = some (.bool (l.getD i false)) := by
  obtain ⟨_, _, x, hx, hb, hc⟩ := r
  injection hx with hx; subst hx
  refine ⟨hb, fun i hi => ?_⟩
  have := hc i hi
  rwa [addr_add, Nat.zero_add] at this
theorem BlAt.chg {w w' : World} {b cap x y : Nat} {l : List Bool} (r : BlAt w (some ⟨b, 0, none⟩) cap l) (c : Chg x y w w') (h1 : b ≠ x) (h2 : b ≠ y) : BlAt w' (some ⟨b, 0, none⟩) cap l := by
  have hb := r.at_.1
  obtain ⟨q1, q2, x, hx, _, hc⟩ := r
  injection hx with hx; subst hx
  refine ⟨q1, q2, _, rfl, Nat.lt_of_lt_of_le hb c.size, fun i hi => ?_⟩
  rw [← hc i hi]
  exact World.cell?_of_block (c.block _ (by rw [block_add]; exact hb) (by rw [block_add]; exact h1) (by rw [block_add]; exact h2))
theorem RowAt.chg {w w' : World} {b cap x y : Nat} {l : List Int} (r : RowAt w (some ⟨b, 0, none⟩) cap l) (c : Chg x y w w') (h1 : b ≠ x) (h2 : b ≠ y) : RowAt w' (some ⟨b, 0, none⟩) cap l := by
  obtain ⟨q1, q2, q3, q4⟩ := r
  refine ⟨q1, q2, q3, fun hne => ?_⟩
  obtain ⟨z, hz, hb, hc⟩ := q4 hne
  injection hz with hz; subst hz
  refine ⟨_, rfl, Nat.lt_of_lt_of_le hb c.size, fun i hi => ?_⟩
  rw [← hc i hi]
  exact World.cell?_of_block (c.block _ (by rw [block_add]; exact hb) (by rw [block_add]; exact h1) (by rw [block_add]; exact h2))

theorem has2 {w : World} {g : Nat} {t : TypeId} {v0 v1 : Value} (k : HasB w g t [v0, v1]) : (w.cell? ⟨g, 0, none⟩ = some v0 ∧ w.cell? ⟨g, 1, none⟩ = some v1) ∧ (w.frozen? ⟨g, 0, none⟩ = false ∧ w.frozen? ⟨g, 1, none⟩ = false) :=
  ⟨⟨k.cell 0, k.cell 1⟩, ⟨k.frozen 0, k.frozen 1⟩⟩
def T8 : List Bool := [false, false, true, true, true, true, false, false]
def U8 : List Bool := List.replicate 128 false ++ (List.replicate 256 true ++ List.replicate 128 false)
def B8 (l : List Int) : List Int := splice (List.replicate 512 0) 128 (l.take 256)
theorem U8_len : U8.length = 512 := by unfold U8; simp only [List.length_append, List.length_replicate]
theorem U8_get (i : Nat) (h : i < 512) : U8.getD i false = decide (128 ≤ i ∧ i < 384) := by
  unfold U8
  simp only [List.getD]
  by_cases h1 : i < 128
  · rw [List.getElem?_append_left (by simpa using h1), List.getElem?_replicate, if_pos h1, decide_eq_false (by omega)]; rfl
  · rw [List.getElem?_append_right (by rw [List.length_replicate]; omega), List.length_replicate]
    by_cases h2 : i < 384
    · rw [List.getElem?_append_left (by rw [List.length_replicate]; omega), List.getElem?_replicate, if_pos (by omega), decide_eq_true (by omega)]; rfl
    · rw [List.getElem?_append_right (by rw [List.length_replicate]; omega), List.length_replicate, List.getElem?_replicate, if_pos (by omega), decide_eq_false (by omega)]; rfl
theorem T8_get (z : Nat) : T8.getD z false = decide (2 ≤ z ∧ z < 6) := by
  by_cases h : z < 8
  · obtain rfl | rfl | rfl | rfl | rfl | rfl | rfl | rfl : z = 0 ∨ z = 1 ∨ z = 2 ∨ z = 3 ∨ z = 4 ∨ z = 5 ∨ z = 6 ∨ z = 7 := by omega
    all_goals rfl
  · rw [decide_eq_false (by omega)]
    simp [List.getD, List.getElem?_eq_none (by simp [T8]; omega : T8.length ≤ z)]
theorem T8_yes (a n : Nat) (h : 128 ≤ a) (h' : a + n ≤ 384) : wholeB T8 a n = true := by
  unfold wholeB
  rw [Bool.and_eq_true, liesB_iff, thr_iff]
  refine ⟨by show 0 ≤ (a : Int) ∧ 0 ≤ (n : Int) ∧ (n : Int) ≤ (512 : Int) - a; omega, fun i hi => ?_⟩
  rw [T8_get, decide_eq_true_iff]
  omega
theorem B8_len (l : List Int) : (B8 l).length = 512 := by
  unfold B8
  rw [splice_len _ _ _ (by rw [List.length_replicate, List.length_take]; omega), List.length_replicate]
theorem set_8 {w0 w : World} {p g h : Nat} (s : MSt w0 p g h (List.replicate (64 * 8) 0) (List.replicate 8 false) w) :
    Calls Try.prog 16 #[.pointer (some ⟨p, 0, none⟩), .int .i64 128, .int .i64 256, .bool true] w fun e w' => e = .returned (.int .i64 0) ∧ MSt w0 p g h (List.replicate (64 * 8) 0) T8 w' ∧ Chg g h w w' := by
  have hs : setB (List.replicate (64 * 8) (0 : Int)).length 128 256 = true := by rw [setB_iff, List.length_replicate]; omega
  refine (set_any s.at_ 128 256 true hs).mono ?_
  rintro e w' ⟨rfl, m, c⟩
  rw [show (256 : Int).toNat = 256 from rfl, show (128 : Int).toNat = 128 from rfl, rep_splice _ _ _ _ (by decide), show (256 / 64 : Int).toNat = 4 from rfl, show (128 / 64 : Int).toNat = 2 from rfl] at m
  exact ⟨rfl, s.chg m c, c⟩
theorem bl_blk {w : World} {g : Nat} {l : List Bool} (hm : l.length ≤ maxLen) (h : HasB w g 4 (l.map Value.bool)) : BlAt w (some ⟨g, 0, none⟩) l.length l := by
  refine ⟨Nat.le_refl _, hm, _, rfl, h.lt, fun i hi => ?_⟩
  rw [addr_add, Nat.zero_add, h.cell i]
  simp [List.getD, hi]

/-- both memories, alike -/
structure MadS8 (w : World) (p g h : Nat) (B : List Int) (xb cB yb cU : Nat) (w' : World) : Prop where
  m : MSt w p g h B T8 w'
  rB : RowAt w' (some ⟨xb, 0, none⟩) cB B
  rU : BlAt w' (some ⟨yb, 0, none⟩) cU U8
  x : w.heap.size ≤ xb
  y : w.heap.size ≤ yb
  xg : xb ≠ g ∧ xb ≠ h ∧ yb ≠ g ∧ yb ≠ h
/-- the program's memory -/
def Mem8P (w : World) (l : List Int) (e : Ending) (w' : World) : Prop :=
  ∃ p g h xb cB yb cU, e = .returned (.tuple #[.pointer (some ⟨p, 0, none⟩), .agg #[.slice (some ⟨xb, 0, none⟩) 512 cB, .slice (some ⟨yb, 0, none⟩) 512 cU]]) ∧ MadS8 w p g h (B8 l) xb cB yb cU w' ∧ w.heap.size ≤ p
theorem two_worldsV (w5 : World) (a b : Value) :
    ∃ W6 W7, w5.alloc (.cells #[.slice none 0 0, .slice none 0 0] 31) = W6 ∧ (W6.setCell ⟨w5.heap.size, 0, none⟩ a).setCell ⟨w5.heap.size, 1, none⟩ b = W7 ∧ HasB W6 w5.heap.size 31 [.slice none 0 0, .slice none 0 0] ∧ HasB W7 w5.heap.size 31 [a, b] ∧ Below w5.heap.size w5 W7 := by
  refine ⟨_, _, rfl, rfl, HasB.newAt _ _ _ _ rfl, has_set (has_set (HasB.newAt w5 _ _ _ rfl) 0 _) 1 _, ?_⟩
  exact ((bel_al (Below.refl _ _) _).setCell (by simp) _).setCell (by simp) _

set_option maxRecDepth 100000 in
set_option maxHeartbeats 4000000 in
theorem mem8_some (A : Option Addr) (n cap : Nat) (l : List Int) (hl : l.length = n) (hn : n ≤ 256) (w : World) (hr : RowAt w A cap l) :
    Calls Try.prog 8 #[.slice A n cap] w (Mem8P w l) := by
  have HL := Lib.hid hl
  have HR := Lib.hid hr
  have hnI : decide (256 < (n : Int)) = false := decide_eq_false (by omega)
  obtain ⟨Wr, er, kr⟩ : ∃ Wr, w.alloc (.cells #[.slice none 0 0, .slice none 0 0] 31) = Wr ∧ HasB Wr w.heap.size 31 [.slice none 0 0, .slice none 0 0] := ⟨_, rfl, HasB.newAt _ _ _ _ rfl⟩
  have br : Below w.heap.size w Wr := by rw [← er]; exact bel_al (Below.refl _ _) _
  have hzr := kr.lt
  have KR := Lib.hid kr
  have BR := Lib.hid br
  clear hl hr kr br
  go_enter Try.func8, Try.ntmps8
  go_wp2_with fail
  refine (new_m Wr 512 8 (by decide) (by decide) (by decide) (Below.refl _ _)).mono ?_; rintro e w1 ⟨p, g, h, rfl, s, lp, lg, lh, _⟩
  have S := Lib.hid s; clear s
  go_wp2_with fail
  refine (set_8 S.out).mono ?_; rintro e w2 ⟨rfl, s, c2⟩
  have K2 := KR.out.below s.bel
  have S2 := Lib.hid s
  have HK2 := Lib.hid K2
  clear s S c2 K2
  go_wp2_with fail
  refine (rNew_any 512 (by decide) _).mono ?_; rintro e w3 ⟨xb, yb, rfl, hx, hy, lx, ly, hb⟩
  have RX := Lib.hid hx
  have RY := Lib.hid hy
  have HB3 := Lib.hid hb
  clear hx hy hb
  go_wp2_with fail
  have rB := row_blk (rep_byte 512) (by rw [List.length_replicate]; decide) RX.out
  have rU := bl_blk (by rw [List.length_replicate]; decide) RY.out
  rw [List.length_replicate] at rB rU
  refine (rSet_any xb yb 512 128 256 512 512 true (List.replicate 512 0) (List.replicate 512 false) (List.length_replicate ..) (List.length_replicate ..) (by decide) (by decide) w3 rB rU (List.replicate 512 0) U8 (List.length_replicate ..) U8_len
    (fun i hi ha => ⟨rep_getD _ _ _ _ hi, by rw [U8_get i hi, decide_eq_true_iff]; omega⟩) (fun i hi ha => ⟨rfl, by rw [U8_get i hi, rep_getD _ _ _ _ hi, decide_eq_false_iff_not]; omega⟩) (by decide)).mono ?_
  clear rB rU
  rintro e w5 ⟨xb, yb, rfl, hx, hy, lx5, ly5, hb⟩
  have B5 := Lib.hid (bel_then HB3.out hb)
  have rx := Lib.hid hx
  have ry := Lib.hid hy
  have s23 := HB3.out.size
  have z1 := S2.out.at_.bytes.lt
  have z2 := S2.out.at_.zones.lt
  have z3 := HK2.out.lt
  have z4 := B5.out.size
  have z5 := S2.out.at_.own.lt
  clear hx hy hb RX RY HB3
  obtain ⟨W6, W7, e6, e7, k6, k7, b7⟩ := two_worldsV w5 (.slice (some ⟨xb, 0, none⟩) 512 512) (.slice (some ⟨yb, 0, none⟩) 512 512)
  obtain ⟨⟨c0, c1⟩, ⟨f0, f1⟩⟩ := has2 k6
  obtain ⟨⟨d0, d1⟩, _⟩ := has2 k7
  have K7 := Lib.hid k7
  have BE7 := Lib.hid (bel_then B5.out b7)
  have b7 := Lib.hid b7
  clear k6 k7
  have zx := rx.out.lt
  have zy := ry.out.lt
  go_wp2_with fail
  have M7 := S2.out.below BE7.out
  have HW := write_m M7 128 A cap l (HR.out.below (bel_then BR.out M7.bel)) (T8_yes 128 l.length (by omega) (by rw [HL.out]; omega))
  rw [HL.out] at HW
  refine HW.mono ?_; rintro e w8 ⟨rfl, s8, c8⟩
  clear HW
  have S8 := Lib.hid s8
  have C8 := Lib.hid c8
  have k8 := K7.out.chg c8 (by omega) (by omega)
  have rx8 := (rx.out.below b7.out).chg c8 (by omega) (by omega)
  have ry8 := (ry.out.below b7.out).chg c8 (by omega) (by omega)
  have kr8 := (HK2.out.below BE7.out).chg c8 (by omega) (by omega)
  have K8 := Lib.hid k8
  have RX8 := Lib.hid rx8
  have RY8 := Lib.hid ry8
  have KR8 := Lib.hid kr8
  obtain ⟨⟨h0, h1⟩, _⟩ := has2 k8
  clear s8 c8 k8 rx8 ry8 kr8
  go_wp2_with fail
  have rB8 := row_blk (rep_byte 512) (by rw [List.length_replicate]; decide) RX8.out
  rw [List.length_replicate] at rB8
  have rl8 : RowAt w8 A cap l := (HR.out.below (bel_then BR.out S8.out.bel))
  refine (rWrite_any xb yb 512 128 n 512 512 cap A (List.replicate 512 0) l (List.length_replicate ..) HL.out (by decide) (by decide) (by omega) w8 rB8 RY8.out.lt rl8).mono ?_
  clear rB8 rl8
  rintro e w9 ⟨xb', cB', rfl, r9, l9, m9, b9⟩
  have R9 := Lib.hid r9
  have B9 := Lib.hid b9
  have kr9 := KR8.out.below b9
  obtain ⟨⟨g0, g1⟩, ⟨fz0, fz1⟩⟩ := has2 kr9
  have KR9 := Lib.hid kr9
  have s8z := C8.out.size
  have s7z := BE7.out.size
  have hz9 := R9.out
  clear hz9
  clear r9 b9 kr9
  go_wp2_with fail
  refine bodyPost_ret (v := .tuple #[.pointer (some ⟨p, 0, none⟩), .agg #[.slice (some ⟨xb', 0, none⟩) 512 cB', .slice (some ⟨yb, 0, none⟩) 512 512]]) (by simp [results, Try.results8, go_sem, g0, g1]) rfl ?_
  have bw1 := BR.out.size
  have wW9 := B9.out.size
  have cc : Chg w.heap.size w.heap.size w9 ((w9.setCell ⟨w.heap.size, 0, none⟩ (.slice (some ⟨xb', 0, none⟩) 512 cB')).setCell ⟨w.heap.size, 1, none⟩ (.slice (some ⟨yb, 0, none⟩) 512 512)) := chg_set (chg_set (Chg.refl _ _ _) _ (.inl rfl) _ _) _ (.inl rfl) _ _
  have S9 := S8.out.below B9.out
  have hz := KR.out.lt
  have q1 := S9.p_
  have q2 := S9.g_
  have q3 := S9.h_
  have e2 : (128 : Int).toNat = 128 := rfl
  rw [e2] at S9
  have ry9 := bl_blk (by rw [U8_len]; decide) (RY8.out.below B9.out)
  rw [U8_len] at ry9
  refine ⟨p, g, h, xb', cB', yb, 512, rfl, ⟨?_, ?_, ?_, by omega, by omega, by omega, by omega, by omega, by omega⟩, by omega⟩
  · have hb := cc.below (bel_then BR.out S9.bel) (by omega) (Nat.le_refl _) (Nat.le_refl _)
    have S0 := S9.old BR.out
    rw [show splice (List.replicate 512 0) 128 l = B8 l by unfold B8; rw [List.take_of_length_le (by rw [HL.out]; exact hn)]] at S0
    exact S0.keep cc hb ⟨⟨by omega, by omega, by omega⟩, ⟨by omega, by omega, by omega⟩⟩
  · have := R9.out.chg cc (by omega) (by omega)
    rw [show splice (List.replicate 512 0) 128 l = B8 l by unfold B8; rw [List.take_of_length_le (by rw [HL.out]; exact hn)]] at this
    exact this
  · exact ry9.chg cc (by omega) (by omega)
set_option maxRecDepth 100000 in
set_option maxHeartbeats 4000000 in
theorem mem8_more (A : Option Addr) (n cap : Nat) (l : List Int) (hl : l.length = n) (hn : 256 < n) (hn' : n ≤ 1000) (w : World) (hr : RowAt w A cap l) :
    Calls Try.prog 8 #[.slice A n cap] w (Mem8P w l) := by
  have HL := Lib.hid hl
  have HR := Lib.hid hr
  have hnI : decide (256 < (n : Int)) = true := decide_eq_true (by omega)
  obtain ⟨A1, c1, eS, kS⟩ := cut_head hr n 256 hl (by omega)
  have eS' : ∀ w, (Instr.slice 26 (.slice A n cap) none (some (.int .i64 256)) none).run Try.prog w = .ok (.slice A1 256 c1) w := eS
  have HS := Lib.hid kS
  have HT : (l.take 256).length = 256 := by rw [List.length_take, hl]; omega
  have HT := Lib.hid HT
  clear eS kS
  obtain ⟨Wr, er, kr⟩ : ∃ Wr, w.alloc (.cells #[.slice none 0 0, .slice none 0 0] 31) = Wr ∧ HasB Wr w.heap.size 31 [.slice none 0 0, .slice none 0 0] := ⟨_, rfl, HasB.newAt _ _ _ _ rfl⟩
  have br : Below w.heap.size w Wr := by rw [← er]; exact bel_al (Below.refl _ _) _
  have hzr := kr.lt
  have KR := Lib.hid kr
  have BR := Lib.hid br
  clear hl hr kr br
  go_enter Try.func8, Try.ntmps8
  go_wp2_with fail
  refine (new_m Wr 512 8 (by decide) (by decide) (by decide) (Below.refl _ _)).mono ?_; rintro e w1 ⟨p, g, h, rfl, s, lp, lg, lh, _⟩
  have S := Lib.hid s; clear s
  go_wp2_with fail
  refine (set_8 S.out).mono ?_; rintro e w2 ⟨rfl, s, c2⟩
  have K2 := KR.out.below s.bel
  have S2 := Lib.hid s
  have HK2 := Lib.hid K2
  clear s S c2 K2
  go_wp2_with fail
  refine (rNew_any 512 (by decide) _).mono ?_; rintro e w3 ⟨xb, yb, rfl, hx, hy, lx, ly, hb⟩
  have RX := Lib.hid hx
  have RY := Lib.hid hy
  have HB3 := Lib.hid hb
  clear hx hy hb
  go_wp2_with fail
  have rB := row_blk (rep_byte 512) (by rw [List.length_replicate]; decide) RX.out
  have rU := bl_blk (by rw [List.length_replicate]; decide) RY.out
  rw [List.length_replicate] at rB rU
  refine (rSet_any xb yb 512 128 256 512 512 true (List.replicate 512 0) (List.replicate 512 false) (List.length_replicate ..) (List.length_replicate ..) (by decide) (by decide) w3 rB rU (List.replicate 512 0) U8 (List.length_replicate ..) U8_len
    (fun i hi ha => ⟨rep_getD _ _ _ _ hi, by rw [U8_get i hi, decide_eq_true_iff]; omega⟩) (fun i hi ha => ⟨rfl, by rw [U8_get i hi, rep_getD _ _ _ _ hi, decide_eq_false_iff_not]; omega⟩) (by decide)).mono ?_
  clear rB rU
  rintro e w5 ⟨xb, yb, rfl, hx, hy, lx5, ly5, hb⟩
  have B5 := Lib.hid (bel_then HB3.out hb)
  have rx := Lib.hid hx
  have ry := Lib.hid hy
  have s23 := HB3.out.size
  have z1 := S2.out.at_.bytes.lt
  have z2 := S2.out.at_.zones.lt
  have z3 := HK2.out.lt
  have z4 := B5.out.size
  have z5 := S2.out.at_.own.lt
  clear hx hy hb RX RY HB3
  obtain ⟨W6, W7, e6, e7, k6, k7, b7⟩ := two_worldsV w5 (.slice (some ⟨xb, 0, none⟩) 512 512) (.slice (some ⟨yb, 0, none⟩) 512 512)
  obtain ⟨⟨c0, cc1⟩, ⟨f0, f1⟩⟩ := has2 k6
  obtain ⟨⟨d0, d1⟩, _⟩ := has2 k7
  have K7 := Lib.hid k7
  have BE7 := Lib.hid (bel_then B5.out b7)
  have b7 := Lib.hid b7
  clear k6 k7
  have zx := rx.out.lt
  have zy := ry.out.lt
  go_wp2_with fail
  have M7 := S2.out.below BE7.out
  have HW := write_m M7 128 A1 c1 (l.take 256) (HS.out _ (HR.out.below (bel_then BR.out M7.bel))) (T8_yes 128 (l.take 256).length (by omega) (by rw [HT.out]; omega))
  rw [HT.out] at HW
  refine HW.mono ?_; rintro e w8 ⟨rfl, s8, c8⟩
  clear HW
  have S8 := Lib.hid s8
  have C8 := Lib.hid c8
  have k8 := K7.out.chg c8 (by omega) (by omega)
  have rx8 := (rx.out.below b7.out).chg c8 (by omega) (by omega)
  have ry8 := (ry.out.below b7.out).chg c8 (by omega) (by omega)
  have kr8 := (HK2.out.below BE7.out).chg c8 (by omega) (by omega)
  have K8 := Lib.hid k8
  have RX8 := Lib.hid rx8
  have RY8 := Lib.hid ry8
  have KR8 := Lib.hid kr8
  obtain ⟨⟨h0, h1⟩, _⟩ := has2 k8
  clear s8 c8 k8 rx8 ry8 kr8
  go_wp2_with fail
  have rB8 := row_blk (rep_byte 512) (by rw [List.length_replicate]; decide) RX8.out
  rw [List.length_replicate] at rB8
  have rl8 : RowAt w8 A1 c1 (l.take 256) := (HS.out _ (HR.out.below (bel_then BR.out S8.out.bel)))
  refine (rWrite_any xb yb 512 128 256 512 512 c1 A1 (List.replicate 512 0) (l.take 256) (List.length_replicate ..) HT.out (by decide) (by decide) (by omega) w8 rB8 RY8.out.lt rl8).mono ?_
  clear rB8 rl8
  rintro e w9 ⟨xb', cB', rfl, r9, l9, m9, b9⟩
  have R9 := Lib.hid r9
  have B9 := Lib.hid b9
  have kr9 := KR8.out.below b9
  obtain ⟨⟨g0, g1⟩, ⟨fz0, fz1⟩⟩ := has2 kr9
  have KR9 := Lib.hid kr9
  have s8z := C8.out.size
  have s7z := BE7.out.size
  have hz9 := R9.out
  clear hz9
  clear r9 b9 kr9
  go_wp2_with fail
  refine bodyPost_ret (v := .tuple #[.pointer (some ⟨p, 0, none⟩), .agg #[.slice (some ⟨xb', 0, none⟩) 512 cB', .slice (some ⟨yb, 0, none⟩) 512 512]]) (by simp [results, Try.results8, go_sem, g0, g1]) rfl ?_
  have bw1 := BR.out.size
  have wW9 := B9.out.size
  have cc : Chg w.heap.size w.heap.size w9 ((w9.setCell ⟨w.heap.size, 0, none⟩ (.slice (some ⟨xb', 0, none⟩) 512 cB')).setCell ⟨w.heap.size, 1, none⟩ (.slice (some ⟨yb, 0, none⟩) 512 512)) := chg_set (chg_set (Chg.refl _ _ _) _ (.inl rfl) _ _) _ (.inl rfl) _ _
  have S9 := S8.out.below B9.out
  have hz := KR.out.lt
  have q1 := S9.p_
  have q2 := S9.g_
  have q3 := S9.h_
  have e2 : (128 : Int).toNat = 128 := rfl
  rw [e2] at S9
  have ry9 := bl_blk (by rw [U8_len]; decide) (RY8.out.below B9.out)
  rw [U8_len] at ry9
  refine ⟨p, g, h, xb', cB', yb, 512, rfl, ⟨?_, ?_, ?_, by omega, by omega, by omega, by omega, by omega, by omega⟩, by omega⟩
  · have hb := cc.below (bel_then BR.out S9.bel) (by omega) (Nat.le_refl _) (Nat.le_refl _)
    have S0 := S9.old BR.out
    rw [show splice (List.replicate 512 0) 128 (l.take 256) = B8 l from rfl] at S0
    exact S0.keep cc hb ⟨⟨by omega, by omega, by omega⟩, ⟨by omega, by omega, by omega⟩⟩
  · have := R9.out.chg cc (by omega) (by omega)
    rw [show splice (List.replicate 512 0) 128 (l.take 256) = B8 l from rfl] at this
    exact this
  · exact ry9.chg cc (by omega) (by omega)
end Go.Proofs.Ytjfhoaahohinhaa.Mm
