/- The statement MemParts, walked. -/
import Derived.Test.YtehbflbapkgbiaaMemBack
namespace Go.Proofs.Ytehbflbapkgbiaa.Mm
open Go.ChangeShapes Go.WideShapes Go.ChangeAt Go.RowKit
set_option linter.unusedVariables false

theorem parts_long (c a : Int) (A : Option Addr) (cap : Nat) (l : List Int) (hl : l.length ≤ maxLen) (h : 200 < l.length) (w : World) :
    Calls Try.prog 6 #[.slice A l.length cap, .int .u8 c, .int .u8 a] w fun e w' => e = .returned (.bool true) ∧ Below w.heap.size w w' := by
  unfold maxLen at hl
  go_enter Try.func6, Try.ntmps6
  go_wp2_with fail
  refine (awake_any _).mono ?_; rintro e w1 ⟨rfl, hb1⟩
  go_wp2_with fail
  refine (awake_any _).mono ?_; rintro e w2 ⟨rfl, hb2⟩
  go_wp2_with fail
  go_ret
  exact ⟨rfl, bel_then hb1 hb2⟩

def T7 : List Bool := [true, true, true, true, true, true, true, false]
theorem T7_get (z : Nat) : T7.getD z false = decide (z < 7) := by
  by_cases h : z < 8
  · obtain rfl | rfl | rfl | rfl | rfl | rfl | rfl | rfl : z = 0 ∨ z = 1 ∨ z = 2 ∨ z = 3 ∨ z = 4 ∨ z = 5 ∨ z = 6 ∨ z = 7 := by omega
    all_goals rfl
  · rw [decide_eq_false (by omega)]
    simp [List.getD, List.getElem?_eq_none (by simp [T7]; omega : T7.length ≤ z)]
theorem T7_yes (a n : Nat) (h : a + n ≤ 448 ∨ (n = 0 ∧ a ≤ 512)) : wholeB T7 a n = true := by
  unfold wholeB
  rw [Bool.and_eq_true, liesB_iff, thr_iff]
  refine ⟨by show 0 ≤ (a : Int) ∧ 0 ≤ (n : Int) ∧ (n : Int) ≤ (512 : Int) - a; omega, fun i hi => ?_⟩
  rw [T7_get, decide_eq_true_iff]
  omega
theorem T7_no (a n : Nat) (h0 : 0 < n) (h : 448 < a + n) : wholeB T7 a n = false := by
  cases hq : wholeB T7 a n
  · rfl
  · unfold wholeB at hq
    rw [Bool.and_eq_true, liesB_iff, thr_iff] at hq
    obtain ⟨q1, q2⟩ := hq
    have := q2 (n - 1) (by omega)
    rw [T7_get, decide_eq_true_iff] at this
    omega

theorem rep_splice (N o n : Nat) (x : Int) (h : o + n ≤ N) : splice (List.replicate N x) o (List.replicate n x) = List.replicate N x := by
  apply ext_getD x
  · rw [splice_len _ _ _ (by simpa using h)]
  · intro i hi
    rw [splice_len _ _ _ (by simpa using h), List.length_replicate] at hi
    rw [splice_getD _ _ _ _ (by simpa using h)]
    split
    · rw [rep_getD _ _ _ _ (by rename_i hq; rw [List.length_replicate] at hq; omega), rep_getD _ _ _ _ hi]
    · rfl
theorem set_7 {w0 w : World} {p g h : Nat} (s : MSt w0 p g h (List.replicate (64 * 8) 0) (List.replicate 8 false) w) :
    Calls Try.prog 13 #[.pointer (some ⟨p, 0, none⟩), .int .i64 0, .int .i64 448, .bool true] w fun e w' => e = .returned (.int .i64 0) ∧ MSt w0 p g h (List.replicate (64 * 8) 0) T7 w' ∧ Chg g h w w' := by
  have hs : setB (List.replicate (64 * 8) (0 : Int)).length 0 448 = true := by rw [setB_iff, List.length_replicate]; omega
  refine (set_any s.at_ 0 448 true hs).mono ?_
  rintro e w' ⟨rfl, m, c⟩
  rw [show (448 : Int).toNat = 448 from rfl, show (0 : Int).toNat = 0 from rfl, rep_splice _ _ _ _ (by decide), show (448 / 64 : Int).toNat = 7 from rfl, show (0 / 64 : Int).toNat = 0 from rfl] at m
  exact ⟨rfl, s.chg m c, c⟩

theorem MSt.keep {w0 w w' : World} {p g h x y : Nat} {B : List Int} {T : List Bool} (s : MSt w0 p g h B T w) (c : Chg x y w w') (b : Below w0.heap.size w0 w') (d : (p ≠ x ∧ g ≠ x ∧ h ≠ x) ∧ (p ≠ y ∧ g ≠ y ∧ h ≠ y)) : MSt w0 p g h B T w' :=
  ⟨s.at_.chg c d.1.1 d.2.1 d.1.2.1 d.2.2.1 d.1.2.2 d.2.2.2, s.p_, s.g_, s.h_, b⟩

/-- two memories side by side -/
def Dis (p g h p' g' h' : Nat) : Prop := ((p ≠ g' ∧ g ≠ g' ∧ h ≠ g') ∧ (p ≠ h' ∧ g ≠ h' ∧ h ≠ h')) ∧ ((p' ≠ g ∧ g' ≠ g ∧ h' ≠ g) ∧ (p' ≠ h ∧ g' ≠ h ∧ h' ≠ h))

theorem row_take {w : World} {A : Option Addr} {cap : Nat} {l : List Int} (r : RowAt w A cap l) (m : Nat) : RowAt w A cap (l.take m) := by
  obtain ⟨h1, h2, h3, h4⟩ := r
  have hl : (l.take m).length ≤ l.length := by rw [List.length_take]; omega
  refine ⟨by omega, h2, take_byte h3 _, fun hne => ?_⟩
  obtain ⟨x, hx, hb, hc⟩ := h4 (by intro e; subst e; simp at hne)
  exact ⟨x, hx, hb, fun i hi => by rw [hc i (by omega), getD_take' _ _ _ _ (by rw [List.length_take] at hi; omega)]⟩
theorem row_drop {w : World} {x : Addr} {cap : Nat} {l : List Int} (r : RowAt w (some x) cap l) (m : Nat) : RowAt w (some (x.add m)) (cap - m) (l.drop m) := by
  obtain ⟨h1, h2, h3, h4⟩ := r
  refine ⟨by rw [List.length_drop]; omega, by omega, drop_byte h3 _, fun hne => ?_⟩
  obtain ⟨y, hy, hb, hc⟩ := h4 (by intro e; subst e; simp at hne)
  injection hy with hy; subst hy
  exact ⟨_, rfl, by rw [block_add]; exact hb, fun i hi => by rw [List.length_drop] at hi; rw [add_add, hc _ (by omega), getD_drop']⟩
theorem row_nil (w : World) (A : Option Addr) (cap : Nat) (h : cap ≤ maxLen) : RowAt w A cap [] := ⟨Nat.zero_le _, h, fun x hx => by simp at hx, fun h => absurd rfl h⟩

theorem splice_two (L l : List Int) (o k : Nat) (hk : k ≤ l.length) (h : o + l.length ≤ L.length) : splice (splice L o (l.take k)) (o + k) (l.drop k) = splice L o l := by
  have h1 : (l.take k).length = k := by rw [List.length_take]; omega
  have h2 : (l.drop k).length = l.length - k := List.length_drop ..
  apply ext_getD 0
  · rw [splice_len _ _ _ (by rw [splice_len _ _ _ (by omega)]; omega), splice_len _ _ _ (by omega), splice_len _ _ _ h]
  · intro i hi
    rw [splice_getD _ _ _ _ (by rw [splice_len _ _ _ (by omega)]; omega), splice_getD _ _ _ _ (by omega), splice_getD _ _ _ _ h, h1, h2]
    by_cases q1 : o + k ≤ i ∧ i < o + k + (l.length - k)
    · rw [if_pos q1, if_pos (by omega), getD_drop', show k + (i - (o + k)) = i - o by omega]
    · rw [if_neg q1]
      by_cases q2 : o ≤ i ∧ i < o + k
      · rw [if_pos q2, if_pos (by omega), getD_take' _ _ _ _ (by omega)]
      · rw [if_neg q2, if_neg (by omega)]

theorem u8_sz (w : World) : (sizeOf (Try.prog.elem 30)).run Try.prog w = .ok 1 w := by kernel_rfl
theorem u8_el : Try.prog.underlying 30 = some (.slice (Try.prog.elem 30)) := by kernel_rfl
/-- the first k of a slice -/
theorem cut_head {w0 : World} {A : Option Addr} {cap : Nat} {l : List Int} (r : RowAt w0 A cap l) (n k : Nat) (hn : l.length = n) (hk : k ≤ n) :
    ∃ A1 c1, (∀ w, (Instr.slice 30 (.slice A n cap) none (some (.int .i64 k)) none).run Try.prog w = .ok (.slice A1 k c1) w) ∧ ∀ w', RowAt w' A cap l → RowAt w' A1 c1 (l.take k) := by
  have hc := r.1
  refine ⟨if cap = 0 then A else A.map (·.add (0 * 1)), cap, fun w => ?_, fun w' r' => ?_⟩
  · rw [run_slice_h w 30 A n cap u8_el .i64 k (by omega) (by omega), u8_sz]
    simp [Result.andThen, sliced]
  · have e : (if cap = 0 then A else A.map (·.add (0 * 1))) = A := by
      split
      · rfl
      · cases A
        · rfl
        · rfl
    rw [e]
    exact row_take r' k
/-- the rest -/
theorem cut_tail {w0 : World} {A : Option Addr} {cap : Nat} {l : List Int} (r : RowAt w0 A cap l) (n k : Nat) (hn : l.length = n) (hk : k ≤ n) :
    ∃ A1 c1, (∀ w, (Instr.slice 30 (.slice A n cap) (some (.int .i64 k)) none none).run Try.prog w = .ok (.slice A1 (n - k) c1) w) ∧ ∀ w', RowAt w' A cap l → RowAt w' A1 c1 (l.drop k) := by
  have hc := r.1
  refine ⟨if cap = k then A else A.map (·.add (k * 1)), cap - k, fun w => ?_, fun w' r' => ?_⟩
  · rw [run_slice_l w 30 A n cap u8_el .i64 k (by omega) (by omega), u8_sz]
    simp [Result.andThen, sliced]
  · have hm := r.2.1
    by_cases h : k = n
    · rw [List.drop_of_length_le (by omega)]
      exact row_nil _ _ _ (by omega)
    · rw [if_neg (by omega)]
      cases A with
      | none =>
        obtain ⟨x, hx, _⟩ := r'.2.2.2 (by intro e; subst e; simp at hn; omega)
        cases hx
      | some x =>
        rw [Nat.mul_one]
        exact row_drop r' k

set_option maxRecDepth 100000 in
theorem parts_yes (c a f n k : Nat) (c1 : c ≤ 255) (a1 : a ≤ 255) (hf : f = a + 200) (hk : (c : Int) % ((n : Int) + 1) = k) (hkn : k ≤ n) (A : Option Addr) (cap : Nat) (l : List Int) (hn : l.length = n) (h : n ≤ 200) (w : World) (hr : RowAt w A cap l) (hw : f + n ≤ 448 ∨ n = 0) :
    Calls Try.prog 6 #[.slice A n cap, .int .u8 c, .int .u8 a] w fun e w' => e = .returned (.bool true) ∧ Below w.heap.size w w' := by
  obtain ⟨A1, c1, k1, K1⟩ := cut_head hr n k hn hkn
  obtain ⟨A2, c2, k2, K2⟩ := cut_tail hr n k hn hkn
  have HR := Lib.hid hr
  have HN := Lib.hid hn
  have HF := Lib.hid hf
  have HK1 := Lib.hid K1
  have HK2 := Lib.hid K2
  have hd : decide (200 < (n : Int)) = false := by rw [decide_eq_false_iff_not]; omega
  have hfa : (a : Int) + 200 = (f : Int) := by omega
  have hw2 : (decide ((f : Int) + (n : Int) ≤ 448) = true) ∨ (decide ((f : Int) + (n : Int) ≤ 448) = false ∧ ((n : Int) == 0) = true) := by
    by_cases q : (f : Int) + (n : Int) ≤ 448
    · exact .inl (decide_eq_true q)
    · exact .inr ⟨decide_eq_false q, by rcases hw with hw | hw <;> simp <;> omega⟩
  have HW := Lib.hid hw
  clear hr hn hf K1 K2 hw
  rcases hw2 with d1 | ⟨d1, d2⟩
  all_goals
    go_enter Try.func6, Try.ntmps6
    go_wp2_with fail
    refine (awake_any _).mono ?_; rintro e w1 ⟨rfl, hb1⟩
    have HB := Lib.hid hb1; clear hb1
    go_wp2_with fail
    refine (new_m w 512 8 (by decide) (by decide) (by decide) HB.out).mono ?_; rintro e w2 ⟨p, g, h, rfl, s, _⟩
    have S := Lib.hid s; clear s HB
    go_wp2_with fail
    refine (new_m w 512 8 (by decide) (by decide) (by decide) S.out.bel).mono ?_; rintro e w3 ⟨p', g', h', rfl, s', l1, l2, l3, b3⟩
    have D : Dis p g h p' g' h' := by
      have q1 := S.out.at_.own.lt
      have q2 := S.out.at_.bytes.lt
      have q3 := S.out.at_.zones.lt
      unfold Dis
      omega
    have D := Lib.hid D
    have S := Lib.hid (S.out.below b3)
    have S' := Lib.hid s'
    clear s' l1 l2 l3 b3
    go_wp2_with fail
    refine (set_7 S.out).mono ?_; rintro e w4 ⟨rfl, s, c4⟩
    have S := Lib.hid s
    have S' := Lib.hid (S'.out.keep c4 s.bel D.out.2)
    clear s c4
    go_wp2_with fail
    refine (set_7 S'.out).mono ?_; rintro e w5 ⟨rfl, s, c5⟩
    have S := Lib.hid (S.out.keep c5 s.bel D.out.1)
    have S' := Lib.hid s
    clear s c5
    go_wp2_with fail
    have hw := write_m S.out f A cap l (HR.out.below S.out.bel) (by rw [HN.out]; exact T7_yes _ _ (by have := HW.out; have := HF.out; omega))
    rw [HN.out, Int.toNat_natCast] at hw
    refine hw.mono ?_; rintro e w6 ⟨rfl, s, c6⟩
    have S := Lib.hid s
    have S' := Lib.hid (S'.out.keep c6.wide s.bel D.out.2)
    clear s c6 hw
    go_wp2_with fail
    have hl1 : (l.take k).length = k := by rw [List.length_take, HN.out]; omega
    have hw := write_m S'.out f A1 c1 (l.take k) (HK1.out _ (HR.out.below S'.out.bel)) (by rw [hl1]; exact T7_yes _ _ (by have := HW.out; have := HF.out; omega))
    rw [hl1, Int.toNat_natCast] at hw
    refine hw.mono ?_; rintro e w7 ⟨rfl, s, c7⟩
    have S := Lib.hid (S.out.keep c7.wide s.bel D.out.1)
    have S' := Lib.hid s
    clear s c7 hw hl1
    go_wp2_with fail
    have hl2 : (l.drop k).length = n - k := by rw [List.length_drop, HN.out]
    have hw := write_m S'.out ((f + k : Nat) : Int) A2 c2 (l.drop k) (HK2.out _ (HR.out.below S'.out.bel)) (by rw [hl2]; exact T7_yes _ _ (by have := HW.out; have := HF.out; omega))
    rw [hl2, Int.toNat_natCast, splice_two _ _ _ _ (by rw [HN.out]; exact hkn) (by rw [HN.out, List.length_replicate]; have := HW.out; have := HF.out; omega), Int.natCast_add] at hw
    refine hw.mono ?_; rintro e w8 ⟨rfl, s, c8⟩
    have S := Lib.hid (S.out.keep c8.wide s.bel D.out.1)
    have S' := Lib.hid s
    clear s c8 hw hl2
    go_wp2_with fail
    refine (read_i S.out.at_ 0 448 (T7_yes 0 448 (by decide))).mono ?_; rintro e w9 ⟨rfl, hx, hb⟩
    have S' := Lib.hid (S'.out.below hb)
    have X := Lib.hid hx
    clear hx hb S
    generalize w8.heap.size = r1 at *
    go_wp2_with fail
    refine (read_i S'.out.at_ 0 448 (T7_yes 0 448 (by decide))).mono ?_; rintro e w10 ⟨rfl, hx, hb⟩
    have X := Lib.hid (X.out.below hb)
    have X' := Lib.hid hx
    have HB := Lib.hid (S'.out.below hb).bel
    have BY := Lib.hid (take_byte (drop_byte S'.out.at_.byte (0 : Int).toNat) (448 : Int).toNat)
    clear hx hb S'
    generalize w9.heap.size = r2 at *
    have hl3 : (((splice (List.replicate (64 * 8) (0 : Int)) f l).drop (0 : Int).toNat).take (448 : Int).toNat).length = 448 := by
      rw [List.length_take, List.length_drop, splice_len _ _ _ (by rw [HN.out, List.length_replicate]; have := HW.out; have := HF.out; omega), List.length_replicate]
      decide
    generalize (((splice (List.replicate (64 * 8) (0 : Int)) f l).drop (0 : Int).toNat).take (448 : Int).toNat) = Y at X X' BY hl3
    have v1 := conv_row (row_blk BY.out (by rw [hl3]; decide) X.out) 448 hl3
    have v2 := conv_row (row_blk BY.out (by rw [hl3]; decide) X'.out) 448 hl3
    rw [hl3] at v1 v2
    generalize strOfNums Y = st at v1 v2
    clear hl3
    go_wp2_with fail
    go_ret
    exact ⟨rfl, HB.out⟩

set_option maxRecDepth 100000 in
theorem parts_no (c a f n k : Nat) (c1 : c ≤ 255) (a1 : a ≤ 255) (hf : f = a + 200) (hk : (c : Int) % ((n : Int) + 1) = k) (hkn : k ≤ n) (A : Option Addr) (cap : Nat) (l : List Int) (hn : l.length = n) (h : n ≤ 200) (w : World) (hr : RowAt w A cap l) (h0 : 0 < n) (hw : 448 < f + n) :
    Calls Try.prog 6 #[.slice A n cap, .int .u8 c, .int .u8 a] w fun e w' => e = .returned (.bool true) ∧ Below w.heap.size w w' := by
  obtain ⟨A1, c1, k1, K1⟩ := cut_head hr n k hn hkn
  obtain ⟨A2, c2, k2, K2⟩ := cut_tail hr n k hn hkn
  have HR := Lib.hid hr
  have HN := Lib.hid hn
  have HF := Lib.hid hf
  have HK1 := Lib.hid K1
  have HK2 := Lib.hid K2
  have hd : decide (200 < (n : Int)) = false := by rw [decide_eq_false_iff_not]; omega
  have hfa : (a : Int) + 200 = (f : Int) := by omega
  have d1 : decide ((f : Int) + (n : Int) ≤ 448) = false := by rw [decide_eq_false_iff_not]; omega
  have d2 : ((n : Int) == 0) = false := by simp; omega
  have HW := Lib.hid hw
  clear hr hn hf K1 K2 hw
  go_enter Try.func6, Try.ntmps6
  go_wp2_with fail
  refine (awake_any _).mono ?_; rintro e w1 ⟨rfl, hb1⟩
  have HB := Lib.hid hb1; clear hb1
  go_wp2_with fail
  refine (new_m w 512 8 (by decide) (by decide) (by decide) HB.out).mono ?_; rintro e w2 ⟨p, g, h, rfl, s, _⟩
  have S := Lib.hid s; clear s HB
  go_wp2_with fail
  refine (new_m w 512 8 (by decide) (by decide) (by decide) S.out.bel).mono ?_; rintro e w3 ⟨p', g', h', rfl, s', l1, l2, l3, b3⟩
  have D : Dis p g h p' g' h' := by
    have q1 := S.out.at_.own.lt
    have q2 := S.out.at_.bytes.lt
    have q3 := S.out.at_.zones.lt
    unfold Dis
    omega
  have D := Lib.hid D
  have S := Lib.hid (S.out.below b3)
  have S' := Lib.hid s'
  clear s' l1 l2 l3 b3
  go_wp2_with fail
  refine (set_7 S.out).mono ?_; rintro e w4 ⟨rfl, s, c4⟩
  have S := Lib.hid s
  have S' := Lib.hid (S'.out.keep c4 s.bel D.out.2)
  clear s c4
  go_wp2_with fail
  refine (set_7 S'.out).mono ?_; rintro e w5 ⟨rfl, s, c5⟩
  have S := Lib.hid (S.out.keep c5 s.bel D.out.1)
  have S' := Lib.hid s
  clear s c5
  go_wp2_with fail
  have hw := write_no S.out.at_ f (by have := HF.out; omega) A n cap (T7_no _ _ h0 HW.out)
  refine hw.mono ?_; rintro e w' ⟨rfl, rfl⟩
  clear hw
  go_wp2_with fail
  have hl1 : (l.take k).length = k := by rw [List.length_take, HN.out]; omega
  by_cases hq : f + k ≤ 448 ∨ k = 0
  · have hw := write_m S'.out f A1 c1 (l.take k) (HK1.out _ (HR.out.below S'.out.bel)) (by rw [hl1]; exact T7_yes _ _ (by have := HF.out; omega))
    rw [hl1, Int.toNat_natCast] at hw
    refine hw.mono ?_; rintro e w7 ⟨rfl, s, c7⟩
    have S := Lib.hid (S.out.keep c7.wide s.bel D.out.1)
    have S' := Lib.hid s
    clear s c7 hw hl1
    go_wp2_with fail
    have hw := write_no S'.out.at_ ((f + k : Nat) : Int) (by have := HF.out; omega) A2 (n - k) c2 (T7_no _ _ (by have := HW.out; omega) (by have := HW.out; omega))
    rw [Int.natCast_add] at hw
    refine hw.mono ?_; rintro e W ⟨rfl, hW⟩
    rw [hW] at S S'
    clear hW hw hq
    go_wp2_with fail
    refine (read_i S.out.at_ 0 448 (T7_yes 0 448 (by decide))).mono ?_; rintro e w9 ⟨rfl, hx, hb⟩
    have S' := Lib.hid (S'.out.below hb)
    have X := Lib.hid hx
    clear hx hb S
    generalize W.heap.size = r1 at *
    go_wp2_with fail
    refine (read_i S'.out.at_ 0 448 (T7_yes 0 448 (by decide))).mono ?_; rintro e w10 ⟨rfl, hx, hb⟩
    have X := Lib.hid (X.out.below hb)
    have HB := Lib.hid (S'.out.below hb).bel
    clear hx hb S'
    generalize w9.heap.size = r2 at *
    go_wp2_with fail
    go_loop [20] (fun i => ∃ j : Nat, j ≤ 448 ∧ i = .int .i64 j) (fun i => 448 - (intOf i).toNat)
    case atStart => exact ⟨0, Nat.zero_le _, rfl⟩
    case round =>
      obtain ⟨j, hj, rfl⟩ := hrel
      by_cases hjl : j < 448
      · have cj := part_cell X.out j hjl (by rw [List.length_replicate]; decide)
        rw [rep_getD _ _ _ _ (by show 0 + j < 512; omega)] at cj
        go_wp2
        go_round
        case rel => exact ⟨j + 1, hjl, by go_num⟩
        case measure => simp [intOf]; omega
      · have hj6 : j = 448 := by omega
        subst hj6
        go_wp2
        go_ret
        exact ⟨rfl, HB.out⟩
  · have hw := write_no S'.out.at_ f (by have := HF.out; omega) A1 k c1 (T7_no _ _ (by omega) (by omega))
    refine hw.mono ?_; rintro e W ⟨rfl, hW⟩
    rw [hW] at S S'
    clear hW hw hq hl1
    go_wp2_with fail
    refine (read_i S.out.at_ 0 448 (T7_yes 0 448 (by decide))).mono ?_; rintro e w9 ⟨rfl, hx, hb⟩
    have S' := Lib.hid (S'.out.below hb)
    have X := Lib.hid hx
    clear hx hb S
    generalize W.heap.size = r1 at *
    go_wp2_with fail
    refine (read_i S'.out.at_ 0 448 (T7_yes 0 448 (by decide))).mono ?_; rintro e w10 ⟨rfl, hx, hb⟩
    have X := Lib.hid (X.out.below hb)
    have HB := Lib.hid (S'.out.below hb).bel
    clear hx hb S'
    generalize w9.heap.size = r2 at *
    go_wp2_with fail
    go_loop [20] (fun i => ∃ j : Nat, j ≤ 448 ∧ i = .int .i64 j) (fun i => 448 - (intOf i).toNat)
    case atStart => exact ⟨0, Nat.zero_le _, rfl⟩
    case round =>
      obtain ⟨j, hj, rfl⟩ := hrel
      by_cases hjl : j < 448
      · have cj := part_cell X.out j hjl (by rw [List.length_replicate]; decide)
        rw [rep_getD _ _ _ _ (by show 0 + j < 512; omega)] at cj
        go_wp2
        go_round
        case rel => exact ⟨j + 1, hjl, by go_num⟩
        case measure => simp [intOf]; omega
      · have hj6 : j = 448 := by omega
        subst hj6
        go_wp2
        go_ret
        exact ⟨rfl, HB.out⟩

theorem memParts_walk (A : Option Addr) (cap : Nat) (l : List Int) (c a : Int) (w : World) (hr : RowAt w A cap l) (wc : (Lit.int .u8 c).wf = true) (wa : (Lit.int .u8 a).wf = true) :
    Calls Try.prog 6 #[.slice A l.length cap, .int .u8 c, .int .u8 a] w fun e w' => e = .returned (.bool true) ∧ Below w.heap.size w w' := by
  obtain ⟨a0, a1⟩ := u8_bd wa
  obtain ⟨k0, k1⟩ := u8_bd wc
  by_cases h : 200 < l.length
  · exact parts_long c a A cap l (Nat.le_trans hr.1 hr.2.1) h w
  · obtain ⟨x, rfl⟩ : ∃ x : Nat, c = x := ⟨c.toNat, by omega⟩
    obtain ⟨y, rfl⟩ : ∃ x : Nat, a = x := ⟨a.toNat, by omega⟩
    have hm : (x : Int) % ((l.length : Int) + 1) = ((x % (l.length + 1) : Nat) : Int) := by
      rw [show (l.length : Int) + 1 = ((l.length + 1 : Nat) : Int) by omega, Int.natCast_emod]
    have hl : x % (l.length + 1) ≤ l.length := by have := Nat.mod_lt x (by omega : 0 < l.length + 1); omega
    by_cases hw : y + 200 + l.length ≤ 448 ∨ l.length = 0
    · exact parts_yes x y (y + 200) l.length (x % (l.length + 1)) (by omega) (by omega) rfl hm hl A cap l rfl (by omega) w hr hw
    · exact parts_no x y (y + 200) l.length (x % (l.length + 1)) (by omega) (by omega) rfl hm hl A cap l rfl (by omega) w hr (by omega) (by omega)
end Go.Proofs.Ytehbflbapkgbiaa.Mm
