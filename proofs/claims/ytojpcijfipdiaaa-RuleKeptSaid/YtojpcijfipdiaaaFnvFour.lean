/- A sum's bytes. -/
import Derived.Test.YtojpcijfipdiaaaFnvWalks
import Derived.Lib.SlBytesConst
namespace Go.Proofs.Ytojpcijfipdiaaa.Mm
open Go.ChangeShapes Go.WideShapes Go.ChangeAt Go.RowKit
set_option linter.unusedVariables false

theorem conv_row {w : World} {A : Option Addr} {cap : Nat} {l : List Int} (h : RowAt w A cap l) (n : Nat) (hn : l.length = n) :
    (convert 22 9 (.slice A n cap)).run Try.prog w = .ok (.string (strOfNums l)) w := by
  obtain ⟨h1, h2, h3, h4⟩ := h
  cases A with
  | none =>
    have hl : l = [] := by
      by_cases hl : l = []
      · exact hl
      · obtain ⟨x, hx, _⟩ := h4 hl; cases hx
    subst hl
    exact run_convert_bytes_nil w _ 5 Try.underlying22 Try.underlying5 _ _ _ Try.underlying9
  | some a =>
    have hc : ∀ i, i < l.length → w.cell? (a.add i) = some (.int .u8 (l.getD i 0)) := by
      intro i hi
      obtain ⟨x, hx, _, hc⟩ := h4 (by intro e; subst e; simp at hi)
      injection hx with hx; subst hx
      exact hc i hi
    have hl : (loadCells a n).run Try.prog w = .ok (l.map (Value.int .u8)).toArray w := by
      have := run_loadCells_list (P := Try.prog) w a (l.map (Value.int .u8)) (fun j v hj => by
        have hjl : j < l.length := by
          rcases Nat.lt_or_ge j l.length with h | h
          · exact h
          · rw [List.getElem?_eq_none (by simpa using h)] at hj; cases hj
        rw [hc j hjl]
        simp [List.getElem?_eq_getElem hjl] at hj
        subst hj
        simp [List.getD, List.getElem?_eq_getElem hjl])
      rw [List.length_map, hn] at this
      exact this
    rw [run_convert_bytes_string w 22 9 5 _ n cap Try.underlying22 Try.underlying5 Try.underlying9, run_bytesToString w _ n cap l hl, foldl_push_bytes]
    simp [strOfNums, ByteArray.empty, ByteArray.emptyWithCapacity]
    rfl
/-- a block of bytes that was just made is a row -/
theorem row_new (w : World) (l : List Int) (t : TypeId) (cap : Nat) (hc : l.length ≤ cap) (hm : cap ≤ maxLen) (hb : Bytes l) : RowAt (w.alloc (.cells (l.map (Value.int .u8)).toArray t)) (some ⟨w.heap.size, 0, none⟩) cap l := by
  refine ⟨hc, hm, hb, fun _ => ⟨_, rfl, by simp, fun i hi => ?_⟩⟩
  have e : (⟨w.heap.size, 0, none⟩ : Addr).add i = ⟨w.heap.size, i, none⟩ := by unfold Addr.add; by_cases h : i = 0 <;> simp [h]
  rw [e, (HasB.new w t (l.map (Value.int .u8))).cell i]
  simp [List.getD, hi]

theorem four_end {h : Int} {L : List Int} (h0 : 0 ≤ h) (h1 : h < 4294967296) (hL : L.length = 4) (hj : ∀ j, j < 4 → L.getD j 0 = h / 256 ^ j % 256) : L = b4 h :=
  ext_getD 0 (by rw [hL]; rfl) fun i hi => by rw [hj i (by omega), b4_pow h i (by omega) h0 h1]

theorem one_conv (W : World) (x : Int) (hx : 0 ≤ x ∧ x ≤ 255) :
    (convert 22 9 (.slice (some ⟨W.heap.size, 0, none⟩) 1 1)).run Try.prog (W.alloc (.cells #[.int .u8 x] 5)) = .ok (.string (strOfNums [x])) (W.alloc (.cells #[.int .u8 x] 5)) :=
  conv_row (row_new W [x] 5 1 (Nat.le_refl _) (by decide) (fun z hz => by simp at hz; subst hz; exact hx)) 1 rfl
theorem str_app (xs ys : List Int) : strOfNums xs ++ strOfNums ys = strOfNums (xs ++ ys) := by
  unfold strOfNums
  rw [ByteArray.mk_append_mk, List.map_append]
theorem v_str {a b : ByteArray} (h : a = b) : Value.string a = .string b := by rw [h]
theorem ret_str2 {a : List Int} {b : ByteArray} (h : b = strOfNums a) : Ending.returned (.string b) = .returned (.string (strOfNums a)) := by rw [h]
theorem v_int {k : IntKind} {a b : Int} (h : a = b) : Value.int k a = .int k b := by rw [h]

/-- the document's own, where k bytes are laid -/
def RFourRel (w : World) (h : Int) (a b i : Value) (w' : World) : Prop :=
  ∃ k : Nat, k ≤ 4 ∧ i = .int .i64 k ∧ a = .int .u32 (h / 256 ^ k) ∧ b = .string (strOfNums ((b4 h).take k)) ∧ Below w.heap.size w w'
theorem sum_a : fnvL 2166136261 [97] = 3826002220 := by
  show bits .xor .u32 2166136261 97 * 16777619 % 4294967296 = 3826002220
  rw [u32_xor _ _ (by decide) (by decide) (by decide) (by decide)]
  decide
end Go.Proofs.Ytojpcijfipdiaaa.Mm
