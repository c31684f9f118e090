/- What the functions of package fnv, and the document's own, answer. -/
import Derived.Test.YtokibkemolmgcaaFnvMath
import Derived.Test.YtokibkemolmgcaaMemBase
namespace Go.Proofs.Ytokibkemolmgcaa.Mm
open Go.ChangeShapes Go.WideShapes Go.ChangeAt Go.RowKit
set_option linter.unusedVariables false

theorem more_any (h : Int) (h0 : 0 ≤ h) (h1 : h < 4294967296) (A : Option Addr) (cap : Nat) (l : List Int) (w : World) (r : RowAt w A cap l) :
    Calls Try.prog 24 #[.int .u32 h, .slice A l.length cap] w fun e w' => e = .returned (.int .u32 (fnvL h l)) ∧ w = w' := by
  have R := Lib.hid r
  have hlen : l.length ≤ 9223372036854775807 := by have := r.1; have := r.2.1; unfold maxLen at *; omega
  clear r
  go_enter Try.func24, Try.ntmps24
  go_wp2
  go_loop [0, 8] (fun a i => ∃ k : Nat, k ≤ l.length ∧ i = .int .i64 k ∧ a = .int .u32 (fnvL h (l.take k))) (fun _ i => l.length - (intOf i).toNat)
  case atStart => exact ⟨0, Nat.zero_le _, rfl, rfl⟩
  case round =>
    obtain ⟨k, hk, rfl, rfl⟩ := hrel
    have hq := fnvL_bd h (l.take k) h0 h1
    by_cases hlt : k < l.length
    · obtain ⟨x, rfl, _, hc⟩ := R.out.2.2.2 (by intro e; subst e; simp at hlt)
      have hck := hc k hlt
      clear hc
      have hx := row_byte R.out.2.2.1 k
      have HS := Lib.hid (fnvL_take h l k hlt)
      generalize fnvL h (l.take k) = q at *
      generalize l.getD k 0 = y at *
      have hb := xor_bd q y hq.1 hq.2 hx.1 (by omega)
      obtain ⟨q0, q1⟩ := hq
      obtain ⟨y0, y1⟩ := hx
      have HF : Hid (fx q y = bits .xor .u32 q y * 16777619 % 4294967296) := Lib.hid rfl
      obtain ⟨b0, b1⟩ := hb
      clear R
      go_wp2
      go_round
      case rel => exact ⟨k + 1, by omega, by go_num, by rw [HS.out, HF.out]⟩
      case measure => simp [intOf]; omega
    · have : k = l.length := by omega
      subst this
      rw [List.take_length]
      go_wp2
      go_ret
      exact ⟨rfl, rfl⟩

theorem rmore_any (h : Int) (h0 : 0 ≤ h) (h1 : h < 4294967296) (A : Option Addr) (cap : Nat) (l : List Int) (w : World) (r : RowAt w A cap l) :
    Calls Try.prog 21 #[.int .u32 h, .slice A l.length cap] w fun e w' => e = .returned (.int .u32 (fnvL h l)) ∧ w = w' := by
  have R := Lib.hid r
  have hlen : l.length ≤ 9223372036854775807 := by have := r.1; have := r.2.1; unfold maxLen at *; omega
  clear r
  go_enter Try.func21, Try.ntmps21
  go_wp2
  go_loop [5, 6] (fun a i => ∃ k : Nat, k ≤ l.length ∧ i = .int .i64 k ∧ a = .int .i64 (fnvL h (l.take k))) (fun _ i => l.length - (intOf i).toNat)
  case atStart => exact ⟨0, Nat.zero_le _, rfl, rfl⟩
  case round =>
    obtain ⟨k, hk, rfl, rfl⟩ := hrel
    have hq := fnvL_bd h (l.take k) h0 h1
    by_cases hlt : k < l.length
    · obtain ⟨x, rfl, _, hc⟩ := R.out.2.2.2 (by intro e; subst e; simp at hlt)
      have hck := hc k hlt
      clear hc
      have hx := row_byte R.out.2.2.1 k
      have HS := Lib.hid (fnvL_take h l k hlt)
      generalize fnvL h (l.take k) = q at *
      generalize l.getD k 0 = y at *
      have hb := xor_low_bd q y hx.1 hx.2
      obtain ⟨q0, q1⟩ := hq
      obtain ⟨y0, y1⟩ := hx
      have HF : Hid (fx q y = (q / 256 * 256 + bits .xor .i64 (q % 256) y) * 16777619 % 4294967296) := Lib.hid (by unfold fx; rw [xor_low q y q0 q1 y0 y1])
      obtain ⟨b0, b1⟩ := hb
      clear R
      go_wp2
      go_round
      case rel => exact ⟨k + 1, by omega, by go_num, by rw [HS.out, HF.out]⟩
      case measure => simp [intOf]; omega
    · have : k = l.length := by omega
      subst this
      rw [List.take_length] at hq ⊢
      obtain ⟨q0, q1⟩ := hq
      go_wp2
      go_ret
      exact ⟨ret_int (by omega), rfl⟩

theorem sum_any (A : Option Addr) (cap : Nat) (l : List Int) (w : World) (r : RowAt w A cap l) :
    Calls Try.prog 23 #[.slice A l.length cap] w fun e w' => e = .returned (.int .u32 (fnvL 2166136261 l)) ∧ w = w' := by
  have C := Lib.hid (more_any 2166136261 (by decide) (by decide) A cap l w r)
  clear r
  go_enter Try.func23, Try.ntmps23
  go_wp2_with fail
  refine C.out.mono ?_; rintro e w' ⟨rfl, rfl⟩
  go_wp2
  go_ret
  exact ⟨rfl, rfl⟩

/-- a string's bytes, as numbers -/
def nums (s : ByteArray) : List Int := s.data.toList.map fun c => (c.toNat : Int)
theorem nums_byte (s : ByteArray) : Bytes (nums s) := by
  intro x hx
  obtain ⟨c, _, rfl⟩ := List.mem_map.1 hx
  have := c.toNat_lt
  omega
theorem nums_len (s : ByteArray) : (nums s).length = s.size := by
  unfold nums
  rw [List.length_map, Array.length_toList]
  rfl
theorem nums_str (L : List Int) (h : Bytes L) : nums (strOfNums L) = L := by
  unfold nums
  rw [strOfNums_data, List.map_map]
  conv => rhs; rw [← List.map_id L]
  refine List.map_congr_left fun x hx => ?_
  have := h x hx
  simp
  omega
theorem nums_get (s : ByteArray) (k : Nat) (h : k < s.size) : (nums s).getD k 0 = (s[k].toNat : Int) := by
  have h' : k < s.data.toList.length := by simpa using h
  simp [nums, List.getD, List.getElem?_eq_getElem h']
  rfl
end Go.Proofs.Ytokibkemolmgcaa.Mm
