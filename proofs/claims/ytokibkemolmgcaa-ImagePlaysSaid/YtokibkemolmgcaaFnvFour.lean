/- A sum's bytes. -/
import Derived.Test.YtokibkemolmgcaaFnvWalks
import Derived.Lib.SlBytesConst
namespace Go.Proofs.Ytokibkemolmgcaa.Mm
open Go.ChangeShapes Go.WideShapes Go.ChangeAt Go.RowKit
set_option linter.unusedVariables false

theorem conv_row {w : World} {A : Option Addr} {cap : Nat} {l : List Int} (h : RowAt w A cap l) (n : Nat) (hn : l.length = n) :
    (convert 22 9 (.slice A n cap)).run Try.prog w = .ok (.string (strOfNums l)) w := by
  obtain ⟨h1, h2, h3, h4⟩ := h
  cases A with
  | none =>
    have hl : l = [] := by
      by_cases hl : l = []
      · exact hl
      · obtain ⟨x, hx, _⟩ := h4 hl; cases hx
    subst hl
    exact run_convert_bytes_nil w _ 5 Try.underlying22 Try.underlying5 _ _ _ Try.underlying9
  | some a =>
    have hc : ∀ i, i < l.length → w.cell? (a.add i) = some (.int .u8 (l.getD i 0)) := by
      intro i hi
      obtain ⟨x, hx, _, hc⟩ := h4 (by intro e; subst e; simp at hi)
      injection hx with hx; subst hx
      exact hc i hi
    have hl : (loadCells a n).run Try.prog w = .ok (l.map (Value.int .u8)).toArray w := by
      have := run_loadCells_list (P := Try.prog) w a (l.map (Value.int .u8)) (fun j v hj => by
        have hjl : j < l.length := by
          rcases Nat.lt_or_ge j l.length with h | h
          · exact h
          · rw [List.getElem?_eq_none (by simpa using h)] at hj; cases hj
        rw [hc j hjl]
        simp [List.getElem?_eq_getElem hjl] at hj
        subst hj
        simp [List.getD, List.getElem?_eq_getElem hjl])
      rw [List.length_map, hn] at this
      exact this
    rw [run_convert_bytes_string w 22 9 5 _ n cap Try.underlying22 Try.underlying5 Try.underlying9, run_bytesToString w _ n cap l hl, foldl_push_bytes]
    simp [strOfNums, ByteArray.empty, ByteArray.emptyWithCapacity]
    rfl
/-- a block of bytes that was just made is a row -/
theorem row_new (w : World) (l : List Int) (t : TypeId) (cap : Nat) (hc : l.length ≤ cap) (hm : cap ≤ maxLen) (hb : Bytes l) : RowAt (w.alloc (.cells (l.map (Value.int .u8)).toArray t)) (some ⟨w.heap.size, 0, none⟩) cap l := by
  refine ⟨hc, hm, hb, fun _ => ⟨_, rfl, by simp, fun i hi => ?_⟩⟩
  have e : (⟨w.heap.size, 0, none⟩ : Addr).add i = ⟨w.heap.size, i, none⟩ := by unfold Addr.add; by_cases h : i = 0 <;> simp [h]
  rw [e, (HasB.new w t (l.map (Value.int .u8))).cell i]
  simp [List.getD, hi]

/-- the array, where k bytes of h are laid -/
def FourRel (w : World) (h : Int) (i : Value) (w' : World) : Prop :=
  ∃ (k : Nat) (C : Array Value) (L : List Int), k ≤ 4 ∧ i = .int .i64 k ∧ L.length = 4 ∧ C = (L.map (Value.int .u8)).toArray ∧ (∀ j, j < k → L.getD j 0 = h / 256 ^ j % 256) ∧ w' = w.alloc (.cells C 52)
theorem four_step {w : World} {h : Int} {k : Nat} {C : Array Value} {L : List Int} (hk : k < 4) (hL : L.length = 4) (hC : C = (L.map (Value.int .u8)).toArray) (hj : ∀ j, j < k → L.getD j 0 = h / 256 ^ j % 256) (v : Int) (hv : v = h / 256 ^ k % 256) :
    FourRel w h (.int .i64 ((k : Int) + 1)) (w.alloc (.cells (C.setIfInBounds k (.int .u8 v)) 52)) := by
  refine ⟨k + 1, _, L.set k v, hk, by simp, by simp [hL], by rw [hC]; simp, fun j hlt => ?_, rfl⟩
  by_cases e : j = k
  · subst e
    simp [List.getD, hL, hk, hv]
  · have := hj j (by omega)
    simp only [List.getD, List.getElem?_set] at this ⊢
    rw [if_neg (by omega)]
    exact this
theorem four_end {h : Int} {L : List Int} (h0 : 0 ≤ h) (h1 : h < 4294967296) (hL : L.length = 4) (hj : ∀ j, j < 4 → L.getD j 0 = h / 256 ^ j % 256) : L = b4 h :=
  ext_getD 0 (by rw [hL]; rfl) fun i hi => by rw [hj i (by omega), b4_pow h i (by omega) h0 h1]

theorem four_any (h : Int) (h0 : 0 ≤ h) (h1 : h < 4294967296) (w : World) :
    Calls Try.prog 22 #[.int .u32 h] w fun e w' => e = .returned (.string (strOfNums (b4 h))) ∧ Below w.heap.size w w' := by
  go_enter Try.func22, Try.ntmps22
  go_wp2
  go_loopw [5] (fun i w' => FourRel w h i w') (fun i _ => 4 - (intOf i).toNat)
  case atStart => exact ⟨0, _, List.replicate 4 0, by omega, rfl, rfl, rfl, fun j hj => by omega, rfl⟩
  case round =>
    obtain ⟨k, C, L, hk, rfl, hL, hC, hj, rfl⟩ := hrel
    have hsz : C.size = 4 := by rw [hC]; simp [hL]
    have HC := Lib.hid hC; clear hC
    have HJ := Lib.hid hj; clear hj
    have HL := Lib.hid hL; clear hL
    by_cases hlt : k < 4
    · obtain ⟨v, hv⟩ : ∃ v, C[k]? = some v := ⟨C[k], Array.getElem?_eq_getElem (by omega)⟩
      have HS := Lib.hid hsz; clear hsz
      go_wp2
      go_roundw
      case rel => exact four_step hlt HL.out HC.out HJ.out _ (by rw [← pow8])
      case measure => simp [intOf]; omega
    · obtain rfl : k = 4 := by omega
      have hrow := row_new w (b4 h) 52 4 (Nat.le_refl _) (by decide) (b4_byte h h0 h1)
      rw [← four_end h0 h1 HL.out HJ.out, ← HC.out] at hrow
      have hcv := conv_row hrow 4 HL.out
      rw [four_end h0 h1 HL.out HJ.out] at hcv
      clear hrow
      go_wp2
      go_ret
      exact ⟨rfl, (Below.refl _ _).alloc (Nat.le_refl _) _⟩
theorem one_conv (W : World) (x : Int) (hx : 0 ≤ x ∧ x ≤ 255) :
    (convert 22 9 (.slice (some ⟨W.heap.size, 0, none⟩) 1 1)).run Try.prog (W.alloc (.cells #[.int .u8 x] 5)) = .ok (.string (strOfNums [x])) (W.alloc (.cells #[.int .u8 x] 5)) :=
  conv_row (row_new W [x] 5 1 (Nat.le_refl _) (by decide) (fun z hz => by simp at hz; subst hz; exact hx)) 1 rfl
theorem str_app (xs ys : List Int) : strOfNums xs ++ strOfNums ys = strOfNums (xs ++ ys) := by
  unfold strOfNums
  rw [ByteArray.mk_append_mk, List.map_append]
theorem v_str {a b : ByteArray} (h : a = b) : Value.string a = .string b := by rw [h]
theorem ret_str2 {a : List Int} {b : ByteArray} (h : b = strOfNums a) : Ending.returned (.string b) = .returned (.string (strOfNums a)) := by rw [h]
theorem v_int {k : IntKind} {a b : Int} (h : a = b) : Value.int k a = .int k b := by rw [h]

/-- the document's own, where k bytes are laid -/
def RFourRel (w : World) (h : Int) (a b i : Value) (w' : World) : Prop :=
  ∃ k : Nat, k ≤ 4 ∧ i = .int .i64 k ∧ a = .int .u32 (h / 256 ^ k) ∧ b = .string (strOfNums ((b4 h).take k)) ∧ Below w.heap.size w w'
theorem rfour_any (h : Int) (h0 : 0 ≤ h) (h1 : h < 4294967296) (w : World) :
    Calls Try.prog 20 #[.int .u32 h] w fun e w' => e = .returned (.string (strOfNums (b4 h))) ∧ Below w.heap.size w w' := by
  go_enter Try.func20, Try.ntmps20
  go_wp2
  go_loopw [0, 3, 4] (fun a b i w' => RFourRel w h a b i w') (fun _ _ i _ => 4 - (intOf i).toNat)
  case atStart => exact ⟨0, by omega, rfl, v_int (by simp), rfl, Below.refl _ _⟩
  case round =>
    obtain ⟨k, hk, rfl, rfl, rfl, hB⟩ := hrel
    by_cases hlt : k < 4
    · have HG := Lib.hid (b4_pow h k hlt h0 h1)
      have hq : 0 ≤ h / 256 ^ k ∧ h / 256 ^ k < 4294967296 := by
        obtain rfl | rfl | rfl | rfl : k = 0 ∨ k = 1 ∨ k = 2 ∨ k = 3 := by omega
        all_goals (simp <;> omega)
      have HN := Lib.hid (show h / 256 ^ (k + 1) = h / 256 ^ k / 256 by
        obtain rfl | rfl | rfl | rfl : k = 0 ∨ k = 1 ∨ k = 2 ∨ k = 3 := by omega
        all_goals (simp <;> omega))
      have HT := Lib.hid (show (b4 h).take (k + 1) = (b4 h).take k ++ [h / 256 ^ k % 256] by
        rw [← HG.out, List.take_succ_eq_append_getElem (show k < (b4 h).length from hlt)]
        simp [List.getD, List.getElem?_eq_getElem (show k < (b4 h).length from hlt)])
      have hsz : (strOfNums ((b4 h).take k)).size ≤ 4 := by rw [strOfNums_size, List.length_take]; omega
      have hs1 : (strOfNums [h / 256 ^ k % 256]).size = 1 := by rw [strOfNums_size]; rfl
      obtain ⟨q, hq'⟩ : ∃ q, h / 256 ^ k = q := ⟨_, rfl⟩
      rw [hq'] at hq HN HT hs1 ⊢
      have HQ := Lib.hid hq'; clear hq'
      generalize (b4 h).take k = L at *
      obtain ⟨q0, q1⟩ := hq
      have hcv := one_conv wr (q % 256) (by omega)
      go_wp2
      go_roundw
      case rel => exact ⟨k + 1, hlt, by go_num, v_int HN.out.symm, v_str (by rw [HT.out, str_app]), hB.trans (((Below.refl _ _).alloc (Nat.le_refl _) _).mono hB.size)⟩
      case measure => simp [intOf]; omega
    · obtain rfl : k = 4 := by omega
      rw [List.take_of_length_le (show (b4 h).length ≤ 4 from Nat.le_refl _)]
      go_wp2
      go_ret
      exact ⟨rfl, hB⟩

theorem sum_a : fnvL 2166136261 [97] = 3826002220 := by
  show bits .xor .u32 2166136261 97 * 16777619 % 4294967296 = 3826002220
  rw [u32_xor _ _ (by decide) (by decide) (by decide) (by decide)]
  decide
end Go.Proofs.Ytokibkemolmgcaa.Mm
