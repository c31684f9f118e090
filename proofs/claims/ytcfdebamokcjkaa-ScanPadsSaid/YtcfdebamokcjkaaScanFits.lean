/- The statement ScanFits, walked. -/
import Derived.Test.YtcfdebamokcjkaaScanPad2
import Derived.Test.YtcfdebamokcjkaaScanOpen
namespace Go.Proofs.Ytcfdebamokcjkaa.Mm
open Go.ChangeShapes Go.WideShapes Go.ChangeAt Go.RowKit
set_option linter.unusedVariables false

theorem take_snoc (l : List InsV) (k : Nat) (hk : k < l.length) : l.take (k + 1) = l.take k ++ [l.getD k insD] := by
  rw [List.take_succ_eq_append_getElem hk]
  simp [List.getD, List.getElem?_eq_getElem hk]
/-- the first k are right, and so long -/
def FitI (l : List InsV) (k s : Nat) : Prop := (∀ j, j < k → (l.getD j insD).right = true) ∧ (flatI (l.take k)).length = s
theorem fitI_0 (l : List InsV) : FitI l 0 0 := ⟨fun j h => by omega, rfl⟩
theorem fitI_next {l : List InsV} {k s : Nat} (h : FitI l k s) (hk : k < l.length) (hr : (l.getD k insD).right = true) (t : Nat) (ht : (l.getD k insD).lay.length = t) : FitI l (k + 1) (s + t) := by
  obtain ⟨h1, h2⟩ := h
  refine ⟨fun j hj => ?_, ?_⟩
  · rcases Nat.lt_or_ge j k with h | h
    · exact h1 j h
    · obtain rfl : j = k := by omega
      exact hr
  · rw [take_snoc l k hk, flatI_app, List.length_append, h2, flatI_cons, List.length_append, ht]
    rfl
theorem row_ok {w : World} {A : Option Addr} {cap : Nat} {l : List InsV} (r : InsRow w A cap l) (h : ∀ j, j < l.length → (l.getD j insD).right = true) : ∀ x ∈ l, x.Ok := fun x hx => by
  obtain ⟨k, hk, rfl⟩ := List.mem_iff_getElem.1 hx
  have h1 := h k hk
  have h2 := r.2.2.1 _ hx
  simp [List.getD, List.getElem?_eq_getElem hk] at h1
  exact lay_right h2 h1
theorem fitI_end {w : World} {A : Option Addr} {cap : Nat} {l : List InsV} {s : Nat} (r : InsRow w A cap l) (h : FitI l l.length s) : (padR l).length % 32 = 0 ∧ s ≤ (padR l).length ∧ (padR l).length ≤ s + 5 * l.length + 31 := by
  obtain ⟨h1, h2⟩ := h
  have hok := row_ok r h1
  rw [List.take_length] at h2
  have hb := pad_bd l 0 hok
  have h3 := pad_len32 l hok
  unfold padR
  rw [if_pos ((allR_getD l).2 h1)]
  rw [h2] at hb
  exact ⟨h3, hb⟩
/-- Pad's answer, where one is wrong -/
theorem pad_wrong (A : Option Addr) (cap n : Nat) (l : List InsV) (hn : l.length = n) (h42 : n ≤ 4200) (w : World) (r : InsRow w A cap l) (h : padR l = []) :
    Calls Try.prog 15 #[.slice A n cap] w fun e w' => ∃ A' c', e = .returned (.slice A' 0 c') ∧ Below w.heap.size w w' :=
  (Pad_any A cap n l hn h42 w r).mono (fun e w' ⟨A', c', he, _, hb⟩ => ⟨A', c', by rw [he, h]; rfl, hb⟩)

set_option maxHeartbeats 2000000 in
theorem fits_few (A : Option Addr) (cap n : Nat) (l : List InsV) (hn : l.length = n) (h300 : n ≤ 300) (w : World) (r : InsRow w A cap l) :
    Calls Try.prog 8 #[.slice A n cap] w fun e w' => e = .returned (.bool true) ∧ Below w.heap.size w w' := by
  have R := Lib.hid r
  have HN := Lib.hid hn
  clear r hn
  go_enter Try.func8, Try.ntmps8
  go_wp2_with fail
  refine (awake_any _).mono ?_; rintro e w1 ⟨rfl, hb1⟩
  have B1 := Lib.hid hb1; clear hb1
  go_wp2
  go_loopw [3, 4] (fun v i wr => ∃ (k s : Nat), i = .int .i64 k ∧ k ≤ n ∧ v = .int .i64 s ∧ s ≤ 6 * k ∧ Hid (FitI l k s) ∧ Hid (Below w.heap.size w wr)) (fun _ i _ => n - (intOf i).toNat)
  case atStart => exact ⟨0, 0, rfl, Nat.zero_le _, rfl, by omega, Lib.hid (fitI_0 l), B1⟩
  case round =>
    obtain ⟨k, s, rfl, hk, rfl, hs, HI, HB⟩ := hrel
    by_cases hlt : k < n
    · obtain ⟨x, rfl, hxb, hc⟩ := (R.out.below HB.out).2.2.2 (by intro e; have := HN.out; rw [e] at this; simp at this; omega)
      have PX := Lib.hid (hc k (by rw [HN.out]; exact hlt))
      obtain ⟨p0, p1, p2, p3⟩ := PX.out
      have hwf := R.out.2.2.1 _ (mem_getD l k (by rw [HN.out]; exact hlt))
      clear hc
      have HLAY := Lib.hid (lay_contract _ hwf)
      have hsz := str_size (lay_byte (l.getD k insD))
      cases hr : (l.getD k insD).right
      · have HPW := Lib.hid (fun w' hb => pad_wrong (some x) cap n l HN.out (by omega) w' (R.out.below hb) (padI_no (by rw [HN.out]; exact hlt) hr))
        rw [lay_wrong hr] at hsz HLAY
        unfold InsV.agg at HLAY
        clear hr hwf
        have h0 : (strOfNums []).size = 0 := by rw [hsz]; rfl
        clear hsz
        generalize strOfNums [] = S at *
        generalize l.getD k insD = v at *
        go_wp2_with fail
        refine (HLAY.out _).mono ?_; rintro e w5 ⟨rfl, hb5⟩
        have B5 := Lib.hid (bel_then HB.out hb5); clear hb5
        go_wp2_with fail
        refine (HPW.out w5 B5.out).mono ?_; rintro e w6 ⟨A6, c6, rfl, hb6⟩
        have B6 := Lib.hid (bel_then B5.out hb6); clear hb6
        go_wp2
        go_ret
        exact ⟨rfl, B6.out⟩
      · have h6 := lay_len (lay_right hwf hr)
        have HNX := Lib.hid (fitI_next HI.out (by rw [HN.out]; exact hlt) hr _ rfl)
        unfold InsV.agg at HLAY
        clear hr hwf
        have hblk : Hid ((x.add (k * 4)).block < wr.heap.size) := Lib.hid (by rw [block_add]; exact hxb)
        generalize strOfNums (l.getD k insD).lay = S at *
        generalize (l.getD k insD).lay.length = t at *
        generalize l.getD k insD = v at *
        go_wp2_with fail
        refine (HLAY.out _).mono ?_; rintro e w5 ⟨rfl, hb5⟩
        have B5 := Lib.hid (bel_then HB.out hb5)
        clear p0 p1 p2 p3
        have hz5 := hb5.size
        obtain ⟨p0, p1, p2, p3⟩ := PX.out.below hblk.out hb5
        clear hb5
        go_wp2_with fail
        refine (HLAY.out _).mono ?_; rintro e w6 ⟨rfl, hb6⟩
        have B6 := Lib.hid (bel_then B5.out hb6); clear hb6
        go_wp2
        go_roundw
        case rel => exact ⟨k + 1, s + t, by go_num, by omega, by go_num, by omega, HNX, B6⟩
        case measure => simp [intOf]; omega
    · obtain rfl : k = n := by omega
      have HE := fitI_end R.out (by rw [HN.out]; exact HI.out)
      rw [HN.out] at HE
      have HP := Lib.hid (Pad_any A cap k l HN.out (by omega) wr (R.out.below HB.out))
      unfold PadP at HP
      obtain ⟨e1, e2, e3⟩ := HE
      generalize padR l = P at *
      generalize P.length = m at *
      go_wp2_with fail
      refine HP.out.mono ?_; rintro e w6 ⟨A6, c6, rfl, r6, hb6⟩
      have B6 := Lib.hid (bel_then HB.out hb6)
      clear r6 hb6
      go_wp2
      go_ret
      exact ⟨ret_bool (decide_eq_true (by omega)), B6.out⟩
theorem fits_long (A : Option Addr) (cap n : Nat) (h : 300 < n) (hm : n ≤ maxLen) (w : World) :
    Calls Try.prog 8 #[.slice A n cap] w fun e w' => e = .returned (.bool true) ∧ Below w.heap.size w w' := by
  unfold maxLen at hm
  go_enter Try.func8, Try.ntmps8
  go_wp2_with fail
  refine (awake_any _).mono ?_; rintro e w1 ⟨rfl, hb1⟩
  have B1 := Lib.hid hb1; clear hb1
  go_wp2_with fail
  refine (awake_any _).mono ?_; rintro e w2 ⟨rfl, hb2⟩
  have B2 := Lib.hid (bel_then B1.out hb2); clear hb2
  go_wp2_with fail
  go_ret
  exact ⟨rfl, B2.out⟩
theorem scanFits_walk (A : Option Addr) (n cap : Nat) (w : World) (h : ∃ l : List InsV, n = l.length ∧ InsRow w A cap l) :
    Calls Try.prog 8 #[.slice A n cap] w fun e w' => e = .returned (.bool true) ∧ Below w.heap.size w w' := by
  obtain ⟨l, hn, r⟩ := h
  rcases Nat.lt_or_ge 300 n with h | h
  · exact fits_long A cap n h (by have := r.1; have := r.2.1; omega) w
  · exact fits_few A cap n l hn.symm h w r
end Go.Proofs.Ytcfdebamokcjkaa.Mm
