/- What Pad answers. -/
import Derived.Test.YtojpcijfipdiaaaScanPadW
namespace Go.Proofs.Ytojpcijfipdiaaa.Mm
open Go.ChangeShapes Go.WideShapes Go.ChangeAt Go.RowKit
set_option linter.unusedVariables false

theorem lay_contract (x : InsV) (hx : x.Wf) (w : World) : Calls Try.prog 18 #[x.agg] w fun e w' => e = .returned (.string (strOfNums x.lay)) ∧ Below w.heap.size w w' :=
  Go.Proofs.Ytojpcijfipdiaaa.Lay_any x.op x.a x.b x.imm hx.2.2.2.1 hx.2.2.2.2 w
theorem lay_right {x : InsV} (hx : x.Wf) (h : x.right = true) : x.Ok := ⟨h, hx.2.2.2.1, hx.2.2.2.2⟩
theorem lay_wrong {x : InsV} (h : x.right = false) : x.lay = [] := Go.Proofs.Ytojpcijfipdiaaa.layL_no h
theorem str_nil {M : List Int} (h : Bytes M) : (strOfNums M).toList = [] ↔ M = [] := by
  rw [Go.Proofs.Ytojpcijfipdiaaa.toList_data]
  have := str_size h
  constructor
  · intro e
    have h2 : (strOfNums M).size = 0 := by show (strOfNums M).data.size = 0; rw [← Array.length_toList, e]; rfl
    rw [this] at h2
    exact List.eq_nil_of_length_eq_zero h2
  · rintro rfl; rfl
/-- what holds ahead of instruction k -/
def PadI (l : List InsV) (k : Nat) (B : List Int) : Prop := (∀ j, j < k → (l.getD j insD).right = true) ∧ Bytes B ∧ B ++ flatI (padI B.length (l.drop k)) = padL l
theorem padI_0 (l : List InsV) : PadI l 0 [] := ⟨fun j h => by omega, fun x h => (by cases h), by simp [padL]⟩
theorem padI_next {l : List InsV} {k : Nat} {B : List Int} (h : PadI l k B) (hk : k < l.length) (hr : (l.getD k insD).right = true) (g : Nat) (hg : gapN B.length (l.getD k insD).lay.length = g) :
    PadI l (k + 1) (B ++ List.replicate g 23 ++ (l.getD k insD).lay) := by
  obtain ⟨h1, h2, h3⟩ := h
  refine ⟨fun j hj => ?_, app_byte (byte_rep h2 g) (lay_byte _), pad_step hk h3 g hg⟩
  rcases Nat.lt_or_ge j k with h | h
  · exact h1 j h
  · obtain rfl : j = k := by omega
    exact hr
theorem padI_end {l : List InsV} {B : List Int} (h : PadI l l.length B) : padR l = B ++ List.replicate (fillN B.length) 23 := by
  unfold padR
  rw [if_pos ((allR_getD l).2 h.1), pad_last h.2.2]
theorem padI_no {l : List InsV} {k : Nat} (hk : k < l.length) (hr : (l.getD k insD).right = false) : padR l = [] := by
  unfold padR
  rw [if_neg]
  intro h
  rw [(allR_getD l).1 h k hk] at hr
  cases hr

set_option maxHeartbeats 2000000 in
theorem Pad_any (A : Option Addr) (cap n : Nat) (l : List InsV) (hn : l.length = n) (h42 : n ≤ 4200) (w : World) (r : InsRow w A cap l) :
    Calls Try.prog 11 #[.slice A n cap] w (PadP w l) := by
  have R := Lib.hid r
  have HN := Lib.hid hn
  clear r hn
  go_enter Try.func11, Try.ntmps11
  go_wp2
  go_loopw [3, 9] (fun v i wr => ∃ (k b : Nat) (B : List Int) (A' : Option Addr) (c' : Nat), i = .int .i64 k ∧ k ≤ n ∧ v = .slice A' b c' ∧ b ≤ 11 * k ∧ Hid (B.length = b) ∧ Hid (wr.ownsRow w.heap.size 5 1 (.slice A' b c') b (B.map (Value.int .u8))) ∧ Hid (Below w.heap.size w wr) ∧ Hid (PadI l k B)) (fun _ i _ => n - (intOf i).toNat)
  case atStart => exact ⟨0, 0, [], none, 0, rfl, Nat.zero_le _, rfl, by omega, Lib.hid rfl, Lib.hid (World.ownsRow_nil _ _ _ _), Lib.hid (Below.refl _ _), Lib.hid (padI_0 l)⟩
  case round =>
    obtain ⟨k, b, B, A', c', rfl, hk, rfl, hb, HBL, O1, HB, HP⟩ := hrel
    by_cases hlt : k < n
    · obtain ⟨x, rfl, hxb, hc⟩ := (R.out.below HB.out).2.2.2 (by intro e; have := HN.out; rw [e] at this; simp at this; omega)
      obtain ⟨p0, p1, p2, p3⟩ := hc k (by rw [HN.out]; exact hlt)
      have hwf := R.out.2.2.1 _ (mem_getD l k (by rw [HN.out]; exact hlt))
      clear hc
      have HLAY := Lib.hid (lay_contract _ hwf)
      cases hr : (l.getD k insD).right
      · have HPN := Lib.hid (padI_no (by rw [HN.out]; exact hlt) hr)
        have hs : (strOfNums (l.getD k insD).lay).toList.isEmpty = true := by rw [List.isEmpty_iff, lay_wrong hr]; exact (str_nil (M := []) (fun x h => by cases h)).2 rfl
        unfold InsV.agg at HLAY
        clear hr hwf
        generalize (l.getD k insD).lay = M at *
        generalize strOfNums M = S at *
        generalize l.getD k insD = v at *
        go_wp2_with ((with_reducible refine Calls.mono (HLAY.out _) ?_); rintro e w5 ⟨rfl, hb5⟩; have B5 := Lib.hid (bel_then (bel_al HB.out (.cells #[.int .i64 v.op, .int .i64 v.a, .int .i64 v.b, .int .u32 v.imm] 36)) hb5); clear hb5)
        go_ret
        exact ⟨none, 0, by rw [HPN.out]; rfl, by rw [HPN.out]; exact ⟨Nat.le_refl _, Nat.zero_le _, fun x h => (by cases h), fun h => absurd rfl h⟩, B5.out⟩
      · have hok := lay_right hwf hr
        have h6 := lay_len hok
        have hby := lay_byte (l.getD k insD)
        have hs : (strOfNums (l.getD k insD).lay).toList.isEmpty = false := by rw [Bool.eq_false_iff, Ne, List.isEmpty_iff, str_nil hby]; intro e; rw [e] at h6; simp at h6
        have hsz := str_size hby
        have HNX := Lib.hid (fun g hg => padI_next HP.out (by rw [HN.out]; exact hlt) hr g hg)
        have HBY := Lib.hid hby
        have HBB := Lib.hid HP.out.2.1
        unfold InsV.agg at HLAY
        clear hok hby hr hwf HP
        rw [HBL.out] at HNX
        generalize hM : (l.getD k insD).lay = M at *
        have HM := Lib.hid hM
        clear hM
        generalize hS : strOfNums M = S at *
        have HS := Lib.hid hS.symm
        clear hS
        generalize l.getD k insD = v at *
        generalize hT : M.length = t at *
        have HT := Lib.hid hT
        clear hT
        have HROOM := Lib.hid (fun w => room_any A' c' b (by omega) w)
        by_cases hfit : fillN b < t
        · have HF := Lib.hid (fun w' hb ho => filled_any A' c' b (b + fillN b) B HBB.out HBL.out (by omega) rfl w.heap.size w' hb ho)
          have HG := Lib.hid (gap_fill hfit h6.2)
          have hf31 : fillN b ≤ 5 := by omega
          generalize fillN b = f at *
          go_wp2_with ((with_reducible refine Calls.mono (HLAY.out _) ?_); rintro e w5 ⟨rfl, hb5⟩; have B5 := Lib.hid (bel_then (bel_al HB.out (.cells #[.int .i64 v.op, .int .i64 v.a, .int .i64 v.b, .int .u32 v.imm] 36)) hb5); have O5 := Lib.hid (own_below' (own_al' O1.out (.cells #[.int .i64 v.op, .int .i64 v.a, .int .i64 v.b, .int .u32 v.imm] 36)) hb5); clear hb5)
          go_wp2_with fail
          refine (HROOM.out _).mono ?_; rintro e w6 ⟨rfl, rfl⟩
          go_wp2_with fail
          refine (HF.out _ B5.out.size O5.out).mono ?_; rintro e w6 ⟨A6, c6, rfl, o6, b6⟩
          have O6 := Lib.hid o6
          have B6 := Lib.hid (B5.out.trans b6)
          clear o6 b6
          go_wp2_with (first
            | (at_builtin
               refine append_str rfl (.tmp 24) (.tmp 25) rfl w.heap.size (.slice A6 (b + f) c6) (b + f) (B ++ List.replicate f 23) rfl O6.out (byte_rep HBB.out f) S M HS.out HBY.out rfl (b + f + t) (by rw [HT.out]) (by rw [HT.out]; omega) B6.out.size ?_
               intro A7 c7 w7 own7 bel7
               have O7 := Lib.hid own7
               have B7 := Lib.hid (B6.out.trans bel7)
               clear own7 bel7))
          go_roundw
          case rel => exact ⟨k + 1, b + f + t, B ++ List.replicate f 23 ++ M, A7, c7, by go_num, by omega, rfl, by omega, Lib.hid (by rw [List.length_append, List.length_append, List.length_replicate, HBL.out, HT.out]), O7, B7, Lib.hid (HNX.out f HG.out)⟩
          case measure => simp [intOf]; omega
        · have HG := Lib.hid (gap_no (Nat.not_lt.1 hfit))
          generalize fillN b = f at *
          go_wp2_with ((with_reducible refine Calls.mono (HLAY.out _) ?_); rintro e w5 ⟨rfl, hb5⟩; have B5 := Lib.hid (bel_then (bel_al HB.out (.cells #[.int .i64 v.op, .int .i64 v.a, .int .i64 v.b, .int .u32 v.imm] 36)) hb5); have O5 := Lib.hid (own_below' (own_al' O1.out (.cells #[.int .i64 v.op, .int .i64 v.a, .int .i64 v.b, .int .u32 v.imm] 36)) hb5); clear hb5)
          go_wp2_with fail
          refine (HROOM.out _).mono ?_; rintro e w6 ⟨rfl, rfl⟩
          go_wp2_with (first
            | (at_builtin
               refine append_str rfl (.tmp 24) (.tmp 25) rfl w.heap.size (.slice A' b c') b B rfl O5.out HBB.out S M HS.out HBY.out rfl (b + t) (by rw [HT.out]) (by rw [HT.out]; omega) B5.out.size ?_
               intro A7 c7 w7 own7 bel7
               have O7 := Lib.hid own7
               have B7 := Lib.hid (B5.out.trans bel7)
               clear own7 bel7))
          go_roundw
          case rel => exact ⟨k + 1, b + t, B ++ M, A7, c7, by go_num, by omega, rfl, by omega, Lib.hid (by rw [List.length_append, HBL.out, HT.out]), O7, B7, Lib.hid (by have := HNX.out 0 HG.out; simpa using this)⟩
          case measure => simp [intOf]; omega
    · obtain rfl : k = n := by omega
      have HE := Lib.hid (by have := HP.out; rw [← HN.out] at this; exact padI_end this)
      have HF := Lib.hid (filled_any A' c' b (b + fillN b) B HP.out.2.1 HBL.out (by omega) rfl w.heap.size wr HB.out.size O1.out)
      have HPE : Hid (∀ e w', FillP wr w.heap.size (B ++ List.replicate (fillN b) 23) (b + fillN b) e w' → ∃ A7 c7, e = .returned (.slice A7 (b + fillN b) c7) ∧ PadP w l (.returned (.slice A7 (b + fillN b) c7)) w') := Lib.hid (fun e w' h => by
        obtain ⟨A7, c7, rfl, o7, b7⟩ := h
        rw [HBL.out] at HE
        refine ⟨A7, c7, rfl, ?_⟩
        obtain ⟨A8, c8, e8, e9, r8⟩ := row_of_own o7 (byte_rep HP.out.2.1 _)
        injection e8 with e1 e2 e3
        subst e1 e3
        rw [← HE.out] at r8 e9
        exact ⟨A7, c7, by rw [e9], r8, HB.out.trans b7⟩)
      clear HP HE
      generalize fillN b = f at *
      go_wp2_with fail
      refine HF.out.mono ?_; intro e w7 h7
      obtain ⟨A7, c7, rfl, h8⟩ := HPE.out e w7 h7
      have H8 := Lib.hid h8
      clear h7 h8 HPE
      go_wp2_with fail
      go_ret
      exact H8.out
end Go.Proofs.Ytojpcijfipdiaaa.Mm
