/- The statement ScanPads, walked. -/
import Derived.Test.YtcfdebamokcjkaaScanTwice
import Derived.Test.YtcfdebamokcjkaaScanRefPad
namespace Go.Proofs.Ytcfdebamokcjkaa.Mm
open Go.ChangeShapes Go.WideShapes Go.ChangeAt Go.RowKit
set_option linter.unusedVariables false

/-- the others than Nops -/
def filt (l : List InsV) : List InsV := l.filter (fun x => decide (x.op ≠ 23))
theorem filt_yes {l : List InsV} {k : Nat} (hk : k < l.length) (h : (l.getD k insD).op ≠ 23) : filt (l.take (k + 1)) = filt (l.take k) ++ [l.getD k insD] := by
  rw [take_snoc l k hk]
  unfold filt
  rw [List.filter_append]
  simp only [List.filter_cons, List.filter_nil, h, ne_eq, not_false_eq_true, decide_true, if_true]
theorem filt_no {l : List InsV} {k : Nat} (hk : k < l.length) (h : (l.getD k insD).op = 23) : filt (l.take (k + 1)) = filt (l.take k) := by
  rw [take_snoc l k hk]
  unfold filt
  rw [List.filter_append]
  simp only [List.filter_cons, List.filter_nil, h, ne_eq, not_true_eq_false, decide_false, Bool.false_eq_true, if_false, List.append_nil]
theorem filt_len (l : List InsV) (k : Nat) : (filt (l.take k)).length ≤ k := by
  have h1 := List.length_filter_le (fun x : InsV => decide (x.op ≠ 23)) (l.take k)
  have h2 := List.length_take_le k l
  unfold filt
  omega
theorem filt_wf {l : List InsV} (h : ∀ x ∈ l, x.Wf) (k : Nat) : ∀ x ∈ filt (l.take k), x.Wf := fun x hx => h x (List.mem_of_mem_take (List.mem_filter.1 hx).1)

/-- what is padded, scanned, but for Nops -/
theorem pads_math {w : World} {A : Option Addr} {cap : Nat} {l : List InsV} (r : InsRow w A cap l) (h300 : l.length ≤ 300) (hall : ∀ j, j < l.length → (l.getD j insD).right = true) :
    padR l = padL l ∧ (l.length ≠ 0 → scanE (padR l) = 0 ∧ filt (insI (scanL (padR l))) = filt l ∧ (scanL (padR l)).length ≤ 4096 ∧ ∀ x ∈ insI (scanL (padR l)), x.Wf) := by
  have hok := row_ok r hall
  have e : padR l = padL l := by unfold padR; rw [if_pos ((allR_getD l).2 hall)]
  have h1 := (pad_bd l 0 hok)
  have h2 := (flat_bd l hok)
  refine ⟨e, fun h0 => ?_⟩
  have hb : Bytes (padR l) := by rw [e]; exact flatI_byte _
  obtain ⟨_, q1, q2, _, _⟩ := padR_scan r (by rw [e]; unfold padL; omega) (by rw [e]; unfold padL; omega)
  refine ⟨q1, ?_, scanL_len hb, ?_⟩
  · rw [q2]; exact pad_filter l 0
  · rw [q2]; exact fun x hx => ok_wf (pad_ok l 0 hok x hx)

/-- the world of a test: a row that is made a string -/
def PadZ (w : World) (sl : Value) (S : ByteArray) (w' : World) : Prop := (convert 22 9 sl).run Try.prog w' = .ok (.string S) w' ∧ Below w.heap.size w w'
def PadX (w : World) (sl : Value) (S : ByteArray) (w' : World) : Prop := (convert 22 9 sl).run Try.prog w' = .ok (.string S) w' ∧ PadZ w sl S w'
theorem PadZ.s {w : World} {sl : Value} {S : ByteArray} {w' : World} (k : PadZ w sl S w') : PadX w sl S w' := ⟨k.1, k⟩
theorem PadZ.below {w : World} {sl : Value} {S : ByteArray} {u w' : World} (cv : ∀ w1, Below w.heap.size w w1 → (convert 22 9 sl).run Try.prog w1 = .ok (.string S) w1) (k : PadZ w sl S u) (hb : Below u.heap.size u w') : PadZ w sl S w' :=
  ⟨cv _ (bel_then k.2 hb), bel_then k.2 hb⟩
theorem padz_keep {w : World} {sl : Value} {S : ByteArray} {u w' : World} {P : Prop} (cv : ∀ w1, Below w.heap.size w w1 → (convert 22 9 sl).run Try.prog w1 = .ok (.string S) w1) (k : P ∧ PadZ w sl S u) (hb : Below u.heap.size u w') : PadX w sl S w' := (k.2.below cv hb).s

theorem padz_bel {w : World} {sl : Value} {S : ByteArray} {u : World} {P : Prop} (k : P ∧ PadZ w sl S u) : Below w.heap.size w u := k.2.2
theorem right_contract (x : InsV) (hx : x.Wf) (w : World) : Calls Try.prog 16 #[x.agg] w fun e w' => e = .returned (.bool x.right) ∧ Below w.heap.size w w' :=
  Go.Proofs.Ytcfdebamokcjkaa.rRight_any x.op x.a x.b x.imm hx.2.2.2.1 hx.2.2.2.2 w

set_option maxRecDepth 10000 in
set_option maxHeartbeats 4000000 in
theorem pads_few (A : Option Addr) (cap n : Nat) (l : List InsV) (hn : l.length = n) (h300 : n ≤ 300) (w : World) (r : InsRow w A cap l) :
    Calls Try.prog 4 #[.slice A n cap] w fun e w' => e = .returned (.bool true) ∧ Below w.heap.size w w' := by
  have R := Lib.hid r
  have HN := Lib.hid hn
  have HP := Lib.hid (fun w' (k : Below w.heap.size w w') => Pad_any A cap n l hn (by omega) w' (r.below k))
  have HNO := Lib.hid (fun k (hk : k < n) (hr : (l.getD k insD).right = false) => show (padR l).length = 0 by rw [padI_no (by omega) hr]; rfl)
  unfold PadP at HP
  clear r hn
  go_enter Try.func4, Try.ntmps4
  go_wp2_with fail
  refine (awake_any _).mono ?_; rintro e w1 ⟨rfl, hb1⟩
  have B1 := Lib.hid hb1; clear hb1
  go_wp2_with fail
  refine (HP.out w1 B1.out).mono ?_; rintro e w2 ⟨A2, c2, rfl, r2, hb2⟩
  have R2 := Lib.hid r2
  have B2 := Lib.hid (bel_then B1.out hb2); clear r2 hb2 HP
  go_wp2
  generalize hp : (padR l).length = p at HNO ⊢
  have HPL := Lib.hid hp
  clear hp
  go_loopw [4, 5] (fun v i wr => ∃ (k m : Nat), i = .int .i64 k ∧ k ≤ n ∧ m ≤ k ∧ Hid (m = (filt (l.take k)).length) ∧ Hid (wr.ownsRow w2.heap.size 40 4 v m ((filt (l.take k)).flatMap insC)) ∧ Hid (∀ j, j < k → (l.getD j insD).right = true) ∧ Hid (Below w2.heap.size w2 wr)) (fun _ i _ => n - (intOf i).toNat)
  case atStart => exact ⟨0, 0, rfl, Nat.zero_le _, Nat.zero_le _, Lib.hid rfl, Lib.hid (World.ownsRow_nil _ _ _ _), Lib.hid (fun j h => by omega), Lib.hid (Below.refl _ _)⟩
  case round =>
    obtain ⟨k, m, rfl, hk, hm, HM, O1, HA, HB⟩ := hrel
    by_cases hlt : k < n
    · obtain ⟨x, rfl, hxb, hc⟩ := (R.out.below (bel_then B2.out HB.out)).2.2.2 (by intro e; have := HN.out; rw [e] at this; simp at this; omega)
      have PX := Lib.hid (hc k (by rw [HN.out]; exact hlt))
      obtain ⟨p0, p1, p2, p3⟩ := PX.out
      have hwf := R.out.2.2.1 _ (mem_getD l k (by rw [HN.out]; exact hlt))
      clear hc
      have HR := Lib.hid (right_contract _ hwf)
      cases hr : (l.getD k insD).right
      · obtain rfl := HNO.out k hlt hr
        rw [hr] at HR
        unfold InsV.agg at HR
        clear hr hwf
        generalize l.getD k insD = v at *
        go_wp2_with fail
        refine (HR.out _).mono ?_; rintro e w5 ⟨rfl, hb5⟩
        have B5 := Lib.hid (bel_then B2.out (bel_then HB.out hb5)); clear hb5
        go_wp2
        go_ret
        exact ⟨rfl, B5.out⟩
      · have HAN : Hid (∀ j, j < k + 1 → (l.getD j insD).right = true) := Lib.hid (fun j hj => by
          rcases Nat.lt_or_ge j k with h | h
          · exact HA.out j h
          · obtain rfl : j = k := by omega
            exact hr)
        rw [hr] at HR
        unfold InsV.agg at HR
        have HWF := Lib.hid hwf
        have hblk : Hid ((x.add (k * 4)).block < wr.heap.size) := Lib.hid (by rw [block_add]; exact hxb)
        have HFY := Lib.hid (fun h => @filt_yes l k (by rw [HN.out]; exact hlt) h)
        have HFN := Lib.hid (fun h => @filt_no l k (by rw [HN.out]; exact hlt) h)
        have HFW := Lib.hid (filt_wf R.out.2.2.1 k)
        clear hr hwf HA HNO
        generalize l.getD k insD = v at *
        generalize filt (l.take k) = F at *
        by_cases hop : v.op = 23
        · have hop' : (v.op != 23) = false := by rw [bne_eq_false_iff_eq]; exact hop
          have HF := Lib.hid (HFN.out hop)
          clear hop HFY HFN
          go_wp2_with fail
          refine (HR.out _).mono ?_; rintro e w5 ⟨rfl, hb5⟩
          clear p0 p1 p2 p3
          obtain ⟨p0, p1, p2, p3⟩ := PX.out.below hblk.out hb5
          have hz5 := hb5.size
          have O5 := Lib.hid (own_below' O1.out hb5)
          have B5 := Lib.hid (bel_then HB.out hb5); clear hb5
          go_wp2
          go_roundw
          case rel => exact ⟨k + 1, m, by go_num, by omega, by omega, by rw [HF.out]; exact HM, by rw [HF.out]; exact O5, HAN, B5⟩
          case measure => simp [intOf]; omega
        · have hop' : (v.op != 23) = true := by rw [bne_iff_ne]; exact hop
          have HF := Lib.hid (HFY.out hop)
          clear hop HFY HFN
          go_wp2_with fail
          refine (HR.out _).mono ?_; rintro e w5 ⟨rfl, hb5⟩
          clear p0 p1 p2 p3
          obtain ⟨p0, p1, p2, p3⟩ := PX.out.below hblk.out hb5
          have hz5 := hb5.size
          have O5 := Lib.hid (own_below' O1.out hb5)
          have B5 := Lib.hid (bel_then HB.out hb5); clear hb5
          have hsz := B2.out.size
          have hsz5 := B5.out.size
          go_wp2_with (first
            | (at_builtin
               refine append_ins rfl (.tmp 41) (.tmp 46) rfl w2.heap.size u4 m F rfl (own_al' O5.out _) HFW.out w5.heap.size 1 v rfl (Ins4.new w5 v).at HWF.out (m + 1) rfl (by omega) (by simp; omega) ?_
               intro A7 c7 w7 own7 grown7 row7 bel7
               have S2 := Lib.hid own7
               have B7 := Lib.hid ((bel_al B5.out (.cells #[.int .i64 v.op, .int .i64 v.a, .int .i64 v.b, .int .u32 v.imm] 40)).trans bel7)
               clear own7 grown7 row7 bel7))
          go_roundw
          case rel => exact ⟨k + 1, m + 1, by go_num, by omega, by omega, Lib.hid (by rw [HF.out, List.length_append, ← HM.out]; rfl), Lib.hid (by rw [HF.out]; exact S2.out), HAN, B7⟩
          case measure => simp [intOf]; omega
    · obtain rfl : k = n := by omega
      obtain ⟨A4, c4, rfl, hml, i4⟩ := ins_of_own O1.out (filt_wf R.out.2.2.1 k)
      have HI : Hid (InsRow wr A4 c4 (filt l) ∧ (filt l).length = m) := Lib.hid (by
        have e : l.take k = l := by rw [← HN.out, List.take_length]
        rw [e] at i4 hml
        exact ⟨i4, hml.symm⟩)
      obtain ⟨m1, m2⟩ := pads_math R.out (by rw [HN.out]; exact h300) (by rw [HN.out]; exact HA.out)
      have HM2 := Lib.hid m2
      have HPAD := Lib.hid (fun w' (b : Below wr.heap.size wr w') => rpad_any A cap k l HN.out (by omega) HA.out w' (R.out.below (bel_then (bel_then B2.out HB.out) b)))
      have CV := Lib.hid (fun w' (b : Below wr.heap.size wr w') => conv_row (R2.out.below (bel_then HB.out b)) p HPL.out)
      rw [m1] at CV
      clear m1 m2 hml i4 O1 HA HNO HM
      generalize strOfNums (padL l) = S at *
      have K : Hid (PadZ wr (.slice A2 p c2) S wr) := Lib.hid ⟨CV.out wr (Below.refl _ _), Below.refl _ _⟩
      by_cases h0 : k = 0
      · subst h0
        go_wp2_with fail
        go_region_held3 (fun w' => (convert 22 9 (.slice A2 p c2)).run Try.prog w' = .ok (.string S) w' ∧ PadZ wr (.slice A2 p c2) S w')
          (first | exact PadZ.s K.out | exact PadZ.s (PadZ.below CV.out K.out (below_drew1 (Below.refl _ _))) | exact padz_keep CV.out ‹_ ∧ PadZ _ _ _ _› hb)
          (first | (go_at_call 17; (with_reducible refine Calls.mono (HPAD.out _ (by first | exact K.out.2 | exact below_drew1 K.out.2 | exact padz_bel ‹_ ∧ PadZ _ _ _ _›)) ?_); rintro e w' ⟨rfl, hb⟩))
        rename_i hh
        obtain ⟨_, K2⟩ := hh
        clear K
        have K := Lib.hid K2
        clear K2
        go_wp2_with fail
        go_region_held3 (fun w' => (convert 22 9 (.slice A2 p c2)).run Try.prog w' = .ok (.string S) w' ∧ PadZ wr (.slice A2 p c2) S w')
          (first | exact PadZ.s K.out | exact PadZ.s (PadZ.below CV.out K.out (below_drew1 (Below.refl _ _))) | exact padz_keep CV.out ‹_ ∧ PadZ _ _ _ _› hb)
          (first | (go_at_call 17; (with_reducible refine Calls.mono (HPAD.out _ (by first | exact K.out.2 | exact below_drew1 K.out.2 | exact padz_bel ‹_ ∧ PadZ _ _ _ _›)) ?_); rintro e w' ⟨rfl, hb⟩))
        rename_i hh
        obtain ⟨_, K2⟩ := hh
        have B5 := Lib.hid K2.2
        clear K2 K
        go_wp2
        go_ret
        exact ⟨ret_bool (by simp), bel_then B2.out (bel_then HB.out B5.out)⟩
      · have h0' : ((k : Int) == 0) = false := by rw [beq_eq_false_iff_ne]; omega
        go_wp2_with fail
        go_region_held3 (fun w' => (convert 22 9 (.slice A2 p c2)).run Try.prog w' = .ok (.string S) w' ∧ PadZ wr (.slice A2 p c2) S w')
          (first | exact PadZ.s K.out | exact PadZ.s (PadZ.below CV.out K.out (below_drew1 (Below.refl _ _))) | exact padz_keep CV.out ‹_ ∧ PadZ _ _ _ _› hb)
          (first | (go_at_call 17; (with_reducible refine Calls.mono (HPAD.out _ (by first | exact K.out.2 | exact below_drew1 K.out.2 | exact padz_bel ‹_ ∧ PadZ _ _ _ _›)) ?_); rintro e w' ⟨rfl, hb⟩))
        rename_i hh
        obtain ⟨_, K2⟩ := hh
        have B5 := Lib.hid K2.2
        clear K2 K
        obtain ⟨q1, q2, q3, q4⟩ := HM2.out (by rw [HN.out]; exact h0)
        have HL := Lib.hid (fun w'' (b : Below wr.heap.size wr w'') => Listing_any A2 c2 p (padR l) HPL.out w'' (R2.out.below (bel_then HB.out b)))
        unfold ListP at HL
        rw [q1] at HL
        have QL := Lib.hid (insI_len (scanL (padR l)))
        have HQ := Lib.hid q2
        have HQW := Lib.hid q4
        clear HPL HM2 q1 q2 q4 HPAD R2
        generalize (scanL (padR l)).length = z at *
        generalize insI (scanL (padR l)) = Q at *
        go_wp2_with fail
        refine (HL.out _ B5.out).mono ?_; rintro e w6 ⟨A6, c6, rfl, i6, hb6⟩
        have I6 := Lib.hid i6
        have I4 := Lib.hid (HI.out.1.below (bel_then B5.out hb6))
        have I5 := Lib.hid HI.out.2
        have B6 := Lib.hid (bel_then (bel_then B2.out HB.out) (bel_then B5.out hb6))
        clear i6 hb6 B5 HI HL
        go_wp2
        go_loopw [8, 9] (fun v i wq => ∃ (j g : Nat), i = .int .i64 j ∧ j ≤ z ∧ g ≤ j ∧ Hid (g = (filt (Q.take j)).length) ∧ Hid (wq.ownsRow w6.heap.size 40 4 v g ((filt (Q.take j)).flatMap insC)) ∧ Hid (Below w6.heap.size w6 wq)) (fun _ i _ => z - (intOf i).toNat)
        case atStart => exact ⟨0, 0, rfl, Nat.zero_le _, Nat.zero_le _, Lib.hid rfl, Lib.hid (World.ownsRow_nil _ _ _ _), Lib.hid (Below.refl _ _)⟩
        case round =>
          obtain ⟨j, g, rfl, hj, hg, HG, O2, HC⟩ := hrel
          by_cases hjt : j < z
          · obtain ⟨x, rfl, hxb, hc⟩ := (I6.out.below HC.out).2.2.2 (by intro e; have := QL.out; rw [e] at this; simp at this; omega)
            have PX := Lib.hid (hc j (by rw [QL.out]; exact hjt))
            obtain ⟨p0, p1, p2, p3⟩ := PX.out
            have HWF := Lib.hid (HQW.out _ (mem_getD Q j (by rw [QL.out]; exact hjt)))
            have HFY := Lib.hid (fun h => @filt_yes Q j (by rw [QL.out]; exact hjt) h)
            have HFN := Lib.hid (fun h => @filt_no Q j (by rw [QL.out]; exact hjt) h)
            have HFW := Lib.hid (filt_wf HQW.out j)
            clear hc
            generalize Q.getD j insD = v at *
            generalize filt (Q.take j) = F at *
            by_cases hop : v.op = 23
            · have hop' : (v.op != 23) = false := by rw [bne_eq_false_iff_eq]; exact hop
              have HF := Lib.hid (HFN.out hop)
              clear hop HFY HFN
              go_wp2
              go_roundw
              case rel => exact ⟨j + 1, g, by go_num, by omega, by omega, by rw [HF.out]; exact HG, by rw [HF.out]; exact O2, HC⟩
              case measure => simp [intOf]; omega
            · have hop' : (v.op != 23) = true := by rw [bne_iff_ne]; exact hop
              have HF := Lib.hid (HFY.out hop)
              clear hop HFY HFN
              have hsz5 := HC.out.size
              generalize hwq : wr = wq at *
              clear hwq
              go_wp2_with (first
                | (at_builtin
                   refine append_ins rfl (.tmp 80) (.tmp 85) rfl w6.heap.size u8 g F rfl (own_al' O2.out _) HFW.out wq.heap.size 1 v rfl (Ins4.new wq v).at HWF.out (g + 1) rfl (by omega) (by simp; omega) ?_
                   intro A7 c7 w7 own7 grown7 row7 bel7
                   have S2 := Lib.hid own7
                   have B7 := Lib.hid ((bel_al HC.out (.cells #[.int .i64 v.op, .int .i64 v.a, .int .i64 v.b, .int .u32 v.imm] 40)).trans bel7)
                   clear own7 grown7 row7 bel7))
              go_roundw
              case rel => exact ⟨j + 1, g + 1, by go_num, by omega, by omega, Lib.hid (by rw [HF.out, List.length_append, ← HG.out]; rfl), Lib.hid (by rw [HF.out]; exact S2.out), B7⟩
              case measure => simp [intOf]; omega
          · obtain rfl : j = z := by omega
            obtain ⟨A9, c9, rfl, hml, i9⟩ := ins_of_own O2.out (filt_wf HQW.out j)
            have e : Q.take j = Q := by rw [← QL.out, List.take_length]
            rw [e, HQ.out] at i9 hml
            rw [I5.out] at hml
            subst hml
            have HS := Lib.hid (same_yes (filt l) A9 A4 c9 c4 g I5.out _ i9 (I4.out.below HC.out))
            clear e i9
            go_wp2_with fail
            refine HS.out.mono ?_; rintro e w8 ⟨rfl, hb8⟩
            have B8 := Lib.hid (bel_then (bel_then B6.out HC.out) hb8)
            clear hb8
            go_wp2
            go_ret
            exact ⟨rfl, B8.out⟩
theorem pads_long (A : Option Addr) (cap n : Nat) (h : 300 < n) (hm : n ≤ maxLen) (w : World) :
    Calls Try.prog 4 #[.slice A n cap] w fun e w' => e = .returned (.bool true) ∧ Below w.heap.size w w' := by
  unfold maxLen at hm
  go_enter Try.func4, Try.ntmps4
  go_wp2_with fail
  refine (awake_any _).mono ?_; rintro e w1 ⟨rfl, hb1⟩
  have B1 := Lib.hid hb1; clear hb1
  go_wp2_with fail
  refine (awake_any _).mono ?_; rintro e w2 ⟨rfl, hb2⟩
  have B2 := Lib.hid (bel_then B1.out hb2); clear hb2
  go_wp2_with fail
  go_ret
  exact ⟨rfl, B2.out⟩
theorem scanPads_walk (A : Option Addr) (n cap : Nat) (w : World) (h : ∃ l : List InsV, n = l.length ∧ InsRow w A cap l) :
    Calls Try.prog 4 #[.slice A n cap] w fun e w' => e = .returned (.bool true) ∧ Below w.heap.size w w' := by
  obtain ⟨l, hn, r⟩ := h
  rcases Nat.lt_or_ge 300 n with h | h
  · exact pads_long A cap n h (by have := r.1; have := r.2.1; omega) w
  · exact pads_few A cap n l hn.symm h w r
end Go.Proofs.Ytcfdebamokcjkaa.Mm
