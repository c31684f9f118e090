/- Package gate as it landed: Text lays events' lines. -/
import Derived.Test.YtjfhoaahohinhaaGateText
import Derived.Test.YtjfhoaahohinhaaGateCodeA
import Derived.Test.YtjfhoaahohinhaaGateBld
import Derived.Test.YtjfhoaahohinhaaTextWalks
namespace Go.Proofs.Ytjfhoaahohinhaa.Mm
open Go.ChangeShapes Go.WideShapes Go.ChangeAt Go.RowKit
set_option linter.unusedVariables false

def dgV (g : Int) : Int := if 0 ≤ g ∧ g ≤ 9 then 48 + g else 63
theorem gL_dg (g : Int) : gL g = [dgV g] := by
  unfold gL dgV
  by_cases h : 0 ≤ g ∧ g ≤ 9
  · rw [if_pos h, if_pos h]
    obtain ⟨h0, h9⟩ := h
    rcases (by omega : g = 0 ∨ g = 1 ∨ g = 2 ∨ g = 3 ∨ g = 4 ∨ g = 5 ∨ g = 6 ∨ g = 7 ∨ g = 8 ∨ g = 9) with rfl | rfl | rfl | rfl | rfl | rfl | rfl | rfl | rfl | rfl <;> simp [txtL, decL]
  · rw [if_neg h, if_neg h]
theorem evL_byte (x : Ev) : Bytes (evL x) := by
  intro y hy
  unfold evL at hy
  rw [gL_dg] at hy
  simp only [List.cons_append, List.nil_append, List.mem_cons, List.mem_append, List.not_mem_nil, or_false] at hy
  rcases hy with rfl | rfl | h | rfl
  · unfold dgV; split <;> omega
  · omega
  · exact txtL_byte _ y h
  · omega
theorem evs_byte (L : List Ev) : Bytes (L.flatMap evL) := fun y hy => by
  obtain ⟨x, _, h⟩ := List.mem_flatMap.1 hy
  exact evL_byte x y h
theorem strCells_nums (X : List Int) (h : Bytes X) : Lib.strCells (strOfNums X) = X.map (Value.int .u8) := by
  have e : Lib.strCells (strOfNums X) = (nums (strOfNums X)).map (Value.int .u8) := by unfold Lib.strCells nums; rw [List.map_map]; rfl
  rw [e, nums_str X h]
theorem ev_bld (F : List Value) (x : Ev) (d : Int) (hd : d = dgV x.1) : F ++ [Value.int .u8 d] ++ [Value.int .u8 32] ++ Lib.strCells (strOfNums (txtL (wrap32 x.2))) ++ [Value.int .u8 10] = F ++ (evL x).map (Value.int .u8) := by
  rw [strCells_nums _ (txtL_byte _), hd]
  unfold evL
  rw [gL_dg]
  simp
theorem str_list (s : ByteArray) : (⟨s.data.toList.toArray⟩ : ByteArray) = s := by cases s; simp
theorem bld_end (F : List Int) (h : Bytes F) : Lib.byteCells (strOfNums F).data.toList = F.map (Value.int .u8) := strCells_nums F h
theorem bld_at {T e : TypeId} {B b : Nat} {p : Value} {bs : List Value} {w w' : World} (h : Lib.BuilderAtF T e B b p bs w) (hb : Below w.heap.size w w') : Lib.BuilderAtF T e B b p bs w' := by
  have hlt := h.lt
  obtain ⟨hB, v, hv, hown, hne⟩ := h
  exact ⟨hB, v, (hb.block b hlt).trans hv, hown.kept (row := none) ⟨hb.os, hb.tape, hb.output, hb.size, fun k hk _ => hb.block k hk⟩ (Classical.em _), hne⟩
theorem bld_al {T e : TypeId} {B b : Nat} {bs : List Value} {w w' : World} (h : Lib.IsBuilderF T e B b bs w) (hb : Below w.heap.size w w') : Lib.IsBuilderF T e B b bs w' := h.elim (fun x => .inl (bld_at x hb)) (fun x => .inr (bld_at x hb))
theorem hasb_oth {T e : TypeId} {b g : Nat} {cs : List Value} {w w' : World} (k : Lib.OthersKept e (some b) w w') (h : HasB w g T cs) (hg : g ≠ b) (hT : T ≠ e) : HasB w' g T cs :=
  k g _ h (fun e => hg (Option.some.inj e)) (fun c fz e => by injection e with _ e _; exact hT e)
set_option maxRecDepth 10000 in
set_option maxHeartbeats 4000000 in
theorem text_code : TextGC := by
  intro A cap n L hl hn w R
  have RR := Lib.hid R
  have HL := Lib.hid hl
  have HW := Lib.hid R.2.2.1
  clear R hl
  obtain ⟨W, hW, HB0, B1⟩ : ∃ W, w.alloc (.cells #[.pointer none, .slice none 0 0] 69) = W ∧ Lib.IsBuilderF 69 5 w.heap.size w.heap.size [] W ∧ Below w.heap.size w W :=
    ⟨_, rfl, Lib.IsBuilderF.of (Lib.fresh_isBuilder _ _ w), bel_al (Below.refl _ _) _⟩
  have H0 := Lib.hid HB0
  have B0 := Lib.hid B1
  have hlt0 : w.heap.size < W.heap.size := by rw [← hW]; simp
  clear HB0 B1
  go_enter Try.func13, Try.ntmps13
  go_wp2_with fail
  go_loopw [8] (fun v wr => ∃ (k : Nat), v = .int .i64 k ∧ k ≤ n ∧ Hid (Lib.IsBuilderF 69 5 w.heap.size w.heap.size (((L.take k).flatMap evL).map (Value.int .u8)) wr) ∧ Hid (Below w.heap.size w wr)) (fun v _ => n - (intOf v).toNat)
  case atStart => exact ⟨0, rfl, by omega, H0, B0⟩
  case round =>
    obtain ⟨k, rfl, hk, HBk, HB⟩ := hrel
    by_cases hlt : k < n
    · obtain ⟨x, rfl, hxb, hc⟩ := (RR.out.below HB.out).2.2.2 (by intro e; have := HL.out; rw [e] at this; simp at this; omega)
      have c0 := (hc k (by rw [HL.out]; exact hlt)).c0
      have c1 := (hc k (by rw [HL.out]; exact hlt)).c1
      have ES := Lib.hid (ev_snoc L k (by rw [HL.out]; exact hlt))
      have hwf := ev_getD HW.out k (by rw [HL.out]; exact hlt)
      clear hc
      have hP : (((L.take k).flatMap evL).map (Value.int .u8)).length ≤ 2400 := by
        rw [List.length_map]
        have := ev_len (L.take k)
        rw [List.length_take] at this
        omega
      have EM : Hid (((L.take (k + 1)).flatMap evL).map (Value.int .u8) = ((L.take k).flatMap evL).map (Value.int .u8) ++ (evL (L.getD k (0, 0))).map (Value.int .u8)) := Lib.hid (by rw [ES.out, List.map_append])
      clear ES
      generalize L.getD k (0, 0) = y at *
      generalize ((L.take k).flatMap evL).map (Value.int .u8) = F at *
      obtain ⟨ya, yb⟩ := y
      simp only at c0 c1
      obtain ⟨⟨w0, w1⟩, w2, w3⟩ := hwf
      simp only at w0 w1 w2 w3
      have hX : (strOfNums (txtL (wrap32 yb))).size ≤ 11 := by rw [strOfNums_size]; exact (txtL_len _ (wrap32_bd yb)).2
      have TX := Lib.hid (text_any yb w2 (by omega))
      have DG := Lib.hid (digit_code ya w0 w1)
      have EB := Lib.hid (ev_bld F (ya, yb) (dgV ya) rfl)
      simp only at EB
      obtain ⟨We, hWe, HE, BE⟩ : ∃ We, wr.alloc (.cells #[.int .i64 ya, .int .u32 yb] 45) = We ∧ HasB We wr.heap.size 45 [.int .i64 ya, .int .u32 yb] ∧ Below wr.heap.size wr We :=
        ⟨_, rfl, HasB.new wr 45 [.int .i64 ya, .int .u32 yb], bel_al (Below.refl _ _) _⟩
      have hle : w.heap.size ≤ We.heap.size := Nat.le_trans HB.out.size BE.size
      have hbe : wr.heap.size ≠ w.heap.size := by have := HBk.out.elim (fun x => x.lt) (fun x => x.lt); omega
      have e0 := HE.cell 0
      have e1 := HE.cell 1
      simp only [List.getElem?_cons_succ, List.getElem?_cons_zero] at e0 e1
      have HEh := Lib.hid HE
      have S1 := Lib.hid (bld_byte w.heap.size w.heap.size F (dgV ya) We (bld_al HBk.out BE) (by omega) hle)
      have BW := Lib.hid (HB.out.trans (BE.mono HB.out.size))
      clear HE BE HBk HB
      change Hid (∀ w', Calls Try.prog 25 #[.int .i64 ya] w' fun e w'' => e = .returned (.int .u8 (dgV ya)) ∧ w' = w'') at DG
      generalize dgV ya = dv at *
      generalize strOfNums (txtL (wrap32 yb)) = X at *
      go_wp2_with fail
      refine (DG.out _).mono ?_; rintro e w4 ⟨rfl, rfl⟩
      go_wp2_with fail
      refine S1.out.mono ?_; rintro e w5 ⟨rfl, b5, l5, o5⟩
      have S2 := Lib.hid (bld_byte w.heap.size w.heap.size (F ++ [.int .u8 dv]) 32 w5 b5 (by simp; omega) (Nat.le_trans hle l5.size))
      have HE5 := Lib.hid (hasb_oth o5 HEh.out hbe (by decide))
      have B5 := Lib.hid (BW.out.trans l5)
      clear b5 l5 o5 S1 e0 e1
      go_wp2_with fail
      refine S2.out.mono ?_; rintro e w6 ⟨rfl, b6, l6, o6⟩
      have HE6 := hasb_oth o6 HE5.out hbe (by decide)
      have e1 := HE6.cell 1
      simp only [List.getElem?_cons_succ, List.getElem?_cons_zero] at e1
      have B6 := Lib.hid (B5.out.trans l6)
      have b6h := Lib.hid b6
      clear b6 l6 o6 S2 HE6
      go_wp2_with fail
      refine (TX.out _).mono ?_; rintro e w7 ⟨rfl, hb7⟩
      have B7 := Lib.hid (B6.out.trans (hb7.mono B6.out.size))
      have S3 := Lib.hid (bld_str w.heap.size w.heap.size (F ++ [.int .u8 dv] ++ [.int .u8 32]) X w7 (bld_al b6h.out hb7) (by simp; omega) B7.out.size)
      clear hb7 b6h e1
      go_wp2_with fail
      refine S3.out.mono ?_; rintro e w8 ⟨rfl, b8, l8, o8⟩
      have B8 := Lib.hid (B7.out.trans l8)
      have S4 := Lib.hid (bld_byte w.heap.size w.heap.size (F ++ [.int .u8 dv] ++ [.int .u8 32] ++ Lib.strCells X) 10 w8 b8 (by rw [List.length_append, Lib.strCells_length]; simp; omega) B8.out.size)
      clear b8 l8 o8 S3
      go_wp2_with fail
      refine S4.out.mono ?_; rintro e w9 ⟨rfl, b9, l9, o9⟩
      have B9 := Lib.hid (B8.out.trans l9)
      rw [EB.out] at b9
      have b9h := Lib.hid b9
      clear b9 l9 o9 S4
      go_wp2_with fail
      go_roundw
      case rel => exact ⟨k + 1, by go_num, by omega, by rw [EM.out]; exact b9h, B9⟩
      case measure => simp [intOf]; omega
    · obtain rfl : k = n := by omega
      have b9 := HBk.out
      rw [List.take_of_length_le (by rw [HL.out]; exact Nat.le_refl _), ← bld_end _ (evs_byte L)] at b9
      have S := Lib.hid (bld_all w.heap.size w.heap.size _ wr b9 HB.out.size)
      rw [str_list] at S
      clear b9
      go_wp2_with fail
      refine S.out.mono ?_; rintro e w9 ⟨rfl, l9⟩
      have B9 := Lib.hid (HB.out.trans l9)
      go_wp2_with fail
      go_ret
      exact ⟨rfl, B9.out⟩
end Go.Proofs.Ytjfhoaahohinhaa.Mm
