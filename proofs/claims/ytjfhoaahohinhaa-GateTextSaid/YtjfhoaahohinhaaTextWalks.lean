/- What Text of package word comes to: the number in decimal. -/
import Derived.Test.YtjfhoaahohinhaaWordWalks
import Derived.Test.YtjfhoaahohinhaaDec
import Derived.Lib.Hide
namespace Go.Proofs.Ytjfhoaahohinhaa
open Go.ChangeShapes Go.WideShapes Go.ChangeAt Go.RowKit
set_option linter.unusedVariables false

/-- the array, where j digits of N have been written -/
def TextRel (w : World) (N : Nat) (a b : Value) (w' : World) : Prop :=
  ∃ (j : Nat) (C : Array Value) (L : List Int), j ≤ 10 ∧ a = .int .u32 ((N / 10 ^ j : Nat) : Int) ∧ b = .int .i64 (11 - (j : Int)) ∧ L.length = 11 ∧ C = (L.map (Value.int .u8)).toArray
    ∧ decL N = decH j (N / 10 ^ j) ++ L.drop (11 - j) ∧ w' = w.alloc (.cells C 87)

theorem cells_conv (w : World) (L : List Int) (hL : L.length = 11) (off : Nat) (ho : off ≤ 11) (cap : Nat) :
    (convert 26 9 (.slice (some ⟨w.heap.size, off, none⟩) (11 - off) cap)).run Try.prog (w.alloc (.cells (L.map (Value.int .u8)).toArray 87)) = .ok (.string (strOfNums (L.drop off))) (w.alloc (.cells (L.map (Value.int .u8)).toArray 87)) := by
  refine run_convert_bytes_arg _ 26 5 Try.underlying26 Try.underlying5 w.heap.size off (11 - off) cap (L.drop off) (by simp [hL]) (fun i hi => ?_) _ Try.underlying9
  have h1 : off + i < L.length := by omega
  have e : (w.alloc (.cells (L.map (Value.int .u8)).toArray 87)).cell? ⟨w.heap.size, off + i, none⟩ = (L.map (Value.int .u8)).toArray[off + i]? := by
    simp [go_sem]
  rw [e]
  simp [List.getElem?_eq_getElem h1, List.getD, List.getElem?_drop]

theorem arr_len : Try.prog.arrayLen 87 = 11 := by kernel_rfl
theorem arr_u : Try.prog.underlying 87 = some (.array (Try.prog.arrayLen 87) (Try.prog.elem 87)) := by kernel_rfl
theorem arr_e : Try.prog.elem 87 = 5 := by kernel_rfl
theorem arr_s (W : World) : (sizeOf 5).run Try.prog W = .ok 1 W := by kernel_rfl
theorem slice_arr (W : World) (b l : Nat) (x : Int) (hx : x = l) (hl : l < 11) :
    (Instr.sliceAt 87 (.pointer (some ⟨b, 0, none⟩)) (some (.int .i64 x)) none none).run Try.prog W = .ok (.slice (some ⟨b, l, none⟩) (11 - l) (11 - l)) W := by
  subst hx
  rw [run_sliceAt_array_l W 87 _ arr_u .i64 l (by omega) (by rw [arr_len]; omega), arr_e, arr_s]
  simp only [Result.andThen, slicedAt, arr_len, Int.toNat_natCast, Nat.mul_one]
  rw [if_neg (by omega)]
  simp [Addr.add]
  omega

theorem pow10_lt (N j : Nat) (hN : N < 4294967296) (h : 0 < N / 10 ^ j) : j ≤ 9 := by
  rcases Nat.lt_or_ge 9 j with hj | hj
  · have h10 : 10 ^ 10 ≤ 10 ^ j := Nat.pow_le_pow_right (by decide) hj
    have : N / 10 ^ j = 0 := Nat.div_eq_of_lt (by omega)
    omega
  · exact hj
theorem div10_step (N j : Nat) : ((N / 10 ^ j : Nat) : Int) / 10 = ((N / 10 ^ (j + 1) : Nat) : Int) := by
  rw [Nat.pow_succ, ← Nat.div_div_eq_div_mul]; simp
theorem drop_set (L : List Int) (k : Nat) (x : Int) (h : k < L.length) : (L.set k x).drop k = x :: L.drop (k + 1) := by
  rw [List.drop_set, if_neg (by omega), Nat.sub_self, List.drop_eq_getElem_cons h]; rfl

theorem v_int' {k : IntKind} {a b : Int} (h : a = b) : Value.int k a = .int k b := by rw [h]
theorem textRel_step (w : World) (N j M : Nat) (C : Array Value) (L : List Int) (hj : j ≤ 9) (hL : L.length = 11) (hC : C = (L.map (Value.int .u8)).toArray)
    (hD : decL N = decH (j + 1) (M / 10) ++ [48 + ((M % 10 : Nat) : Int)] ++ L.drop (11 - j)) (hM : M / 10 = N / 10 ^ (j + 1)) (b i : Nat) (hi : i = 10 - j) (x : Int) (hx : x = 10 - (j : Int)) :
    TextRel w N (.int .u32 ((M : Int) / 10)) (.int .i64 x) (w.alloc (.cells (C.setIfInBounds i (.int .u8 (48 + (M : Int) % 10))) 87)) := by
  refine ⟨j + 1, _, L.set (10 - j) (48 + ((M % 10 : Nat) : Int)), by omega, v_int' (by rw [← hM]; omega), v_int' (by omega), by simp [hL], ?_, ?_, rfl⟩
  · rw [hC, hi]; simp
  · rw [show 11 - (j + 1) = 10 - j from by omega, drop_set L (10 - j) _ (by omega), show 10 - j + 1 = 11 - j from by omega, ← hM, hD]; simp

theorem text_end (w : World) (N j : Nat) (L : List Int) (hj : j ≠ 0) (hz : N / 10 ^ j = 0) (hD : decL N = decH j (N / 10 ^ j) ++ L.drop (11 - j)) : decL N = L.drop (11 - j) := by
  rw [hz, decH_done j hj] at hD; exact hD

theorem text_neg (a : Int) (h0 : 0 ≤ a) (h1 : a < 4294967296) (hs : wrap32 a < 0) (N : Nat) (hN : (-a) % 4294967296 = (N : Int)) (hN2 : N ≤ 2147483648) (w : World) :
    Calls Try.prog 27 #[.int .u32 a] w fun e w' => e = .returned (.string (strOfNums (45 :: decL N))) ∧ Below w.heap.size w w' := by
  have HN := Lib.hid hN; clear hN
  go_enter Try.func27, Try.ntmps27
  go_wp2_with (first | (go_at_call 36; refine (sign_any _ _).mono ?_; rintro e w' ⟨rfl, rfl⟩))
  rw [HN.out]
  go_loopw [5, 6] (fun a b w' => TextRel w N a b w') (fun _ b _ => (intOf b).toNat)
  case atStart => exact ⟨0, _, List.replicate 11 0, by omega, by simp, rfl, rfl, rfl, by simp [decH_zero], rfl⟩
  case round =>
    obtain ⟨j, C, L, hj, rfl, rfl, hL, hC, hD, rfl⟩ := hrel
    have hm : N / 10 ^ j < 4294967296 := Nat.lt_of_le_of_lt (Nat.div_le_self _ _) (by omega)
    have hp := pow10_lt N j (by omega)
    have hst := div10_step N j
    have hsz : C.size = 11 := by rw [hC]; simp [hL]
    by_cases hc : j = 0 ∨ 0 < N / 10 ^ j
    · have hj9 : j ≤ 9 := by
        rcases hc with h | h
        · omega
        · exact hp h
      have hdd := decH_step j _ hc
      rw [hdd] at hD
      have HD := Lib.hid hD; clear hD hdd
      clear hst hp
      have hM10 : N / 10 ^ j / 10 = N / 10 ^ (j + 1) := by rw [Nat.pow_succ, ← Nat.div_div_eq_div_mul]
      have HM := Lib.hid hM10; clear hM10
      generalize N / 10 ^ j = M at *
      have HC := Lib.hid hC; clear hC
      rcases hc with rfl | hc
      · go_wp2
        go_roundw
        case rel => exact textRel_step w N 0 M C L hj9 hL HC.out HD.out HM.out 0 10 rfl 10 rfl
        case measure => simp [intOf]
      · by_cases hjz : j = 0
        · subst hjz
          go_wp2
          go_roundw
          case rel => exact textRel_step w N 0 M C L hj9 hL HC.out HD.out HM.out 0 10 rfl 10 rfl
          case measure => simp [intOf]
        · have hb1 : ((11 - (j : Int)) == 11) = false := beq_eq_false_iff_ne.2 (by omega)
          obtain ⟨v, hv⟩ : ∃ v, C[11 - j - 1]? = some v := ⟨C[11 - j - 1], Array.getElem?_eq_getElem (by omega)⟩
          go_wp2
          go_roundw
          case rel => exact textRel_step w N j M C L hj9 hL HC.out HD.out HM.out 0 _ (by omega) _ (by omega)
          case measure => simp [intOf]; omega
    · have hj0 : j ≠ 0 := fun h => hc (.inl h)
      have hz : N / 10 ^ j = 0 := Nat.eq_zero_of_not_pos (fun h => hc (.inr h))
      have hfin := text_end w N j L hj0 hz hD
      have HF := Lib.hid hfin; clear hfin hD
      clear hp hst hc
      have hb1 : ((11 - (j : Int)) == 11) = false := beq_eq_false_iff_ne.2 (by omega)
      have hcv := cells_conv w (L.set (11 - j - 1) 45) (by simp [hL]) (11 - j - 1) (by omega)
      have e1 : ((L.set (11 - j - 1) 45).map (Value.int .u8)).toArray = C.setIfInBounds (11 - j - 1) (.int .u8 45) := by rw [hC]; simp
      have e2 : (L.set (11 - j - 1) 45).drop (11 - j - 1) = 45 :: decL N := by rw [drop_set L (11 - j - 1) 45 (by omega), HF.out, show 11 - j - 1 + 1 = 11 - j from by omega]
      rw [e1, e2] at hcv
      clear e1 e2
      obtain ⟨v, hv⟩ : ∃ v, C[11 - j - 1]? = some v := ⟨C[11 - j - 1], Array.getElem?_eq_getElem (by omega)⟩
      clear hC
      rw [hz]
      have hsl := slice_arr (w.alloc (.cells (C.setIfInBounds (11 - j - 1) (.int .u8 45)) 87)) w.heap.size (11 - j - 1) (11 - (j : Int) - 1) (by omega) (by omega)
      go_wp2
      go_ret
      exact ⟨rfl, (Below.refl _ _).alloc (Nat.le_refl _) _⟩

theorem text_pos (a : Int) (h0 : 0 ≤ a) (h1 : a < 4294967296) (hs : 0 ≤ wrap32 a) (N : Nat) (hN : a = (N : Int)) (hN2 : N ≤ 2147483648) (w : World) :
    Calls Try.prog 27 #[.int .u32 a] w fun e w' => e = .returned (.string (strOfNums (decL N))) ∧ Below w.heap.size w w' := by
  have HN := Lib.hid hN; clear hN
  go_enter Try.func27, Try.ntmps27
  go_wp2_with (first | (go_at_call 36; refine (sign_any _ _).mono ?_; rintro e w' ⟨rfl, rfl⟩))
  go_loopw [5, 6] (fun a b w' => TextRel w N a b w') (fun _ b _ => (intOf b).toNat)
  case atStart => exact ⟨0, _, List.replicate 11 0, by omega, v_int' (by simpa using HN.out), rfl, rfl, rfl, by simp [decH_zero], rfl⟩
  case round =>
    obtain ⟨j, C, L, hj, rfl, rfl, hL, hC, hD, rfl⟩ := hrel
    have hm : N / 10 ^ j < 4294967296 := Nat.lt_of_le_of_lt (Nat.div_le_self _ _) (by omega)
    have hp := pow10_lt N j (by omega)
    have hst := div10_step N j
    have hsz : C.size = 11 := by rw [hC]; simp [hL]
    by_cases hc : j = 0 ∨ 0 < N / 10 ^ j
    · have hj9 : j ≤ 9 := by
        rcases hc with h | h
        · omega
        · exact hp h
      have hdd := decH_step j _ hc
      rw [hdd] at hD
      have HD := Lib.hid hD; clear hD hdd
      clear hst hp
      have hM10 : N / 10 ^ j / 10 = N / 10 ^ (j + 1) := by rw [Nat.pow_succ, ← Nat.div_div_eq_div_mul]
      have HM := Lib.hid hM10; clear hM10
      generalize N / 10 ^ j = M at *
      have HC := Lib.hid hC; clear hC
      rcases hc with rfl | hc
      · go_wp2
        go_roundw
        case rel => exact textRel_step w N 0 M C L hj9 hL HC.out HD.out HM.out 0 10 rfl 10 rfl
        case measure => simp [intOf]
      · by_cases hjz : j = 0
        · subst hjz
          go_wp2
          go_roundw
          case rel => exact textRel_step w N 0 M C L hj9 hL HC.out HD.out HM.out 0 10 rfl 10 rfl
          case measure => simp [intOf]
        · have hb1 : ((11 - (j : Int)) == 11) = false := beq_eq_false_iff_ne.2 (by omega)
          obtain ⟨v, hv⟩ : ∃ v, C[11 - j - 1]? = some v := ⟨C[11 - j - 1], Array.getElem?_eq_getElem (by omega)⟩
          go_wp2
          go_roundw
          case rel => exact textRel_step w N j M C L hj9 hL HC.out HD.out HM.out 0 _ (by omega) _ (by omega)
          case measure => simp [intOf]; omega
    · have hj0 : j ≠ 0 := fun h => hc (.inl h)
      have hz : N / 10 ^ j = 0 := Nat.eq_zero_of_not_pos (fun h => hc (.inr h))
      have hfin := text_end w N j L hj0 hz hD
      have HF := Lib.hid hfin; clear hfin hD
      clear hp hst hc
      have hb1 : ((11 - (j : Int)) == 11) = false := beq_eq_false_iff_ne.2 (by omega)
      have hcv := cells_conv w L hL (11 - j) (by omega)
      rw [← HF.out, ← hC] at hcv
      clear hC
      rw [hz]
      have hsl := slice_arr (w.alloc (.cells C 87)) w.heap.size (11 - j) (11 - (j : Int)) (by omega) (by omega)
      go_wp2
      go_ret
      exact ⟨rfl, (Below.refl _ _).alloc (Nat.le_refl _) _⟩


/-- Text, whatever it is given -/
theorem text_any (a : Int) (h0 : 0 ≤ a) (h1 : a < 4294967296) (w : World) :
    Calls Try.prog 27 #[.int .u32 a] w fun e w' => e = .returned (.string (strOfNums (txtL (wrap32 a)))) ∧ Below w.heap.size w w' := by
  have hb := wrap32_bd a
  by_cases hs : wrap32 a < 0
  · have e : (-a) % 4294967296 = ((wrap32 a).natAbs : Int) := by unfold wrap32 at *; omega
    have e2 : txtL (wrap32 a) = 45 :: decL (wrap32 a).natAbs := by unfold txtL; rw [if_pos hs]
    rw [e2]
    exact text_neg a h0 h1 hs _ e (by omega) w
  · have e : a = ((wrap32 a).natAbs : Int) := by unfold wrap32 at *; omega
    have e2 : txtL (wrap32 a) = decL (wrap32 a).natAbs := by unfold txtL; rw [if_neg hs]
    rw [e2]
    exact text_pos a h0 h1 (by omega) _ e (by omega) w
end Go.Proofs.Ytjfhoaahohinhaa
