/- The sum of layer 5: the plain sums. -/
import Derived.Test.YtojpcijfipdiaaaMemMath
import Derived.IntWalk
namespace Go.Proofs.Ytojpcijfipdiaaa.Mm
open Go.RowKit
set_option linter.unusedVariables false

/-- one byte more -/
def fx (h x : Int) : Int := bits .xor .u32 h x * 16777619 % 4294967296
def fnvL : Int → List Int → Int
  | h, [] => h
  | h, x :: t => fnvL (fx h x) t

theorem fx_bd (h x : Int) : 0 ≤ fx h x ∧ fx h x < 4294967296 := by unfold fx; omega
theorem fnvL_bd (h : Int) (l : List Int) (h0 : 0 ≤ h) (h1 : h < 4294967296) : 0 ≤ fnvL h l ∧ fnvL h l < 4294967296 := by
  induction l generalizing h with
  | nil => exact ⟨h0, h1⟩
  | cons x t ih => exact ih _ (fx_bd h x).1 (fx_bd h x).2
theorem fnvL_append (h : Int) (a b : List Int) : fnvL h (a ++ b) = fnvL (fnvL h a) b := by
  induction a generalizing h with
  | nil => rfl
  | cons x t ih => exact ih _
theorem fnvL_take (h : Int) (l : List Int) (k : Nat) (hk : k < l.length) : fnvL h (l.take (k + 1)) = fx (fnvL h (l.take k)) (l.getD k 0) := by
  have e : l.getD k 0 = l[k] := by simp [List.getD, List.getElem?_eq_getElem hk]
  rw [List.take_succ_eq_append_getElem hk, fnvL_append, e]
  rfl

theorem xor_bd (h x : Int) (h0 : 0 ≤ h) (h1 : h < 4294967296) (x0 : 0 ≤ x) (x1 : x < 4294967296) : 0 ≤ bits .xor .u32 h x ∧ bits .xor .u32 h x < 4294967296 := by
  rw [u32_xor h x h0 h1 x0 x1]
  have : h.toNat ^^^ x.toNat < 2 ^ 32 := Nat.xor_lt_two_pow (by omega) (by omega)
  omega
/-- by an odd number no two rests are made one -/
theorem odd_inj (a b : Int) (a0 : 0 ≤ a) (a1 : a < 4294967296) (b0 : 0 ≤ b) (b1 : b < 4294967296) (h : a * 16777619 % 4294967296 = b * 16777619 % 4294967296) : a = b := by
  have e : ∀ x : Int, 0 ≤ x → x < 4294967296 → (x * 16777619 % 4294967296) * 899433627 % 4294967296 = x := fun x x0 x1 => by omega
  rw [← e a a0 a1, ← e b b0 b1, h]
theorem nat_xor_left {a b c : Nat} (e : a ^^^ c = b ^^^ c) : a = b := by
  have := congrArg (· ^^^ c) e
  simpa [Nat.xor_assoc] using this
theorem nat_xor_right {a b c : Nat} (e : c ^^^ a = c ^^^ b) : a = b := by rw [Nat.xor_comm c a, Nat.xor_comm c b] at e; exact nat_xor_left e
theorem xor_left (x h g : Int) (h0 : 0 ≤ h) (h1 : h < 4294967296) (g0 : 0 ≤ g) (g1 : g < 4294967296) (x0 : 0 ≤ x) (x1 : x ≤ 255) (e : bits .xor .u32 h x = bits .xor .u32 g x) : h = g := by
  rw [u32_xor h x h0 h1 x0 (by omega), u32_xor g x g0 g1 x0 (by omega)] at e
  have := nat_xor_left (Int.ofNat.inj e)
  omega
theorem xor_right (h x y : Int) (h0 : 0 ≤ h) (h1 : h < 4294967296) (x0 : 0 ≤ x) (x1 : x ≤ 255) (y0 : 0 ≤ y) (y1 : y ≤ 255) (e : bits .xor .u32 h x = bits .xor .u32 h y) : x = y := by
  rw [u32_xor h x h0 h1 x0 (by omega), u32_xor h y h0 h1 y0 (by omega)] at e
  have := nat_xor_right (Int.ofNat.inj e)
  omega
theorem fx_left (x h g : Int) (h0 : 0 ≤ h) (h1 : h < 4294967296) (g0 : 0 ≤ g) (g1 : g < 4294967296) (x0 : 0 ≤ x) (x1 : x ≤ 255) (e : fx h x = fx g x) : h = g := by
  have a := xor_bd h x h0 h1 x0 (by omega)
  have b := xor_bd g x g0 g1 x0 (by omega)
  exact xor_left x h g h0 h1 g0 g1 x0 x1 (odd_inj _ _ a.1 a.2 b.1 b.2 e)
theorem fx_right (h x y : Int) (h0 : 0 ≤ h) (h1 : h < 4294967296) (x0 : 0 ≤ x) (x1 : x ≤ 255) (y0 : 0 ≤ y) (y1 : y ≤ 255) (e : fx h x = fx h y) : x = y := by
  have a := xor_bd h x h0 h1 x0 (by omega)
  have b := xor_bd h y h0 h1 y0 (by omega)
  exact xor_right h x y h0 h1 x0 x1 y0 y1 (odd_inj _ _ a.1 a.2 b.1 b.2 e)
theorem fnvL_inj (l : List Int) (hl : Bytes l) (h g : Int) (h0 : 0 ≤ h) (h1 : h < 4294967296) (g0 : 0 ≤ g) (g1 : g < 4294967296) : fnvL h l = fnvL g l ↔ h = g := by
  refine ⟨fun e => ?_, fun e => by rw [e]⟩
  induction l generalizing h g with
  | nil => exact e
  | cons x t ih =>
    have hx := hl x (by simp)
    have := ih (fun y hy => hl y (by simp [hy])) _ _ (fx_bd h x).1 (fx_bd h x).2 (fx_bd g x).1 (fx_bd g x).2 e
    exact fx_left x h g h0 h1 g0 g1 hx.1 hx.2 this
theorem i64_xor_nat (a b : Nat) (ha : a < 256) (hb : b < 256) : bits .xor .i64 (a : Int) (b : Int) = ((a ^^^ b : Nat) : Int) := by
  have hx : a ^^^ b < 2 ^ 8 := Nat.xor_lt_two_pow (by omega) (by omega)
  have e : ∀ n : Nat, n < 256 → (BitVec.ofInt 64 (n : Int)).toNat = n := fun n hn => by
    rw [BitVec.ofInt_natCast, BitVec.toNat_ofNat]; exact Nat.mod_eq_of_lt (by omega)
  show IntKind.i64.wrap ((BitVec.ofInt 64 (a : Int) ^^^ BitVec.ofInt 64 (b : Int)).toNat : Int) = _
  rw [BitVec.toNat_xor, e a ha, e b hb]
  exact IntWalk.i64_in _ (by omega)
/-- what is one with a byte is one in its lowest eight bits -/
theorem xor_low (h x : Int) (h0 : 0 ≤ h) (h1 : h < 4294967296) (x0 : 0 ≤ x) (x1 : x ≤ 255) : bits .xor .u32 h x = h / 256 * 256 + bits .xor .i64 (h % 256) x := by
  obtain ⟨a, rfl⟩ : ∃ n : Nat, h = n := ⟨h.toNat, by omega⟩
  obtain ⟨b, rfl⟩ : ∃ n : Nat, x = n := ⟨x.toNat, by omega⟩
  rw [u32_xor_nat a b (by omega) (by omega)]
  have e : bits .xor .i64 ((a : Int) % 256) b = ((a % 256 ^^^ b : Nat) : Int) := by
    have := i64_xor_nat (a % 256) b (by omega) (by omega)
    rw [← this]; rfl
  rw [e]
  have m := Nat.xor_mod_two_pow (a := a) (b := b) (n := 8)
  have d := Nat.xor_div_two_pow (a := a) (b := b) (n := 8)
  rw [show (2 : Nat) ^ 8 = 256 by rfl] at m d
  rw [Nat.mod_eq_of_lt (show b < 256 by omega)] at m
  rw [Nat.div_eq_of_lt (show b < 256 by omega), Nat.xor_zero] at d
  omega
theorem xor_low_bd (h x : Int) (x0 : 0 ≤ x) (x1 : x ≤ 255) : 0 ≤ bits .xor .i64 (h % 256) x ∧ bits .xor .i64 (h % 256) x ≤ 255 := by
  have r := xor_low (h % 256) x (by omega) (by omega) x0 x1
  have b : bits .xor .u32 (h % 256) x < 256 := by
    rw [u32_xor _ _ (by omega) (by omega) x0 (by omega)]
    have : (h % 256).toNat ^^^ x.toNat < 2 ^ 8 := Nat.xor_lt_two_pow (by omega) (by omega)
    omega
  have b0 := (xor_bd (h % 256) x (by omega) (by omega) x0 (by omega)).1
  rw [show h % 256 % 256 = h % 256 by omega] at r
  omega
/-- a byte turned -/
theorem set_turn (l : List Int) (hl : Bytes l) (k : Nat) (hk : k < l.length) (y : Int) (y0 : 0 ≤ y) (y1 : y ≤ 255) (h : Int) (h0 : 0 ≤ h) (h1 : h < 4294967296) : fnvL h (l.set k y) = fnvL h l ↔ y = l.getD k 0 := by
  have e : l.getD k 0 = l[k] := by simp [List.getD, List.getElem?_eq_getElem hk]
  have hx := hl l[k] (List.getElem_mem hk)
  have e1 : l.set k y = l.take k ++ y :: l.drop (k + 1) := by
    rw [List.set_eq_take_append_cons_drop, if_pos hk]
  have e2 : l = l.take k ++ l[k] :: l.drop (k + 1) := by
    rw [← List.drop_eq_getElem_cons hk, List.take_append_drop]
  rw [e, e1]
  conv => lhs; rhs; rw [e2]
  rw [fnvL_append, fnvL_append]
  have hb := fnvL_bd h (l.take k) h0 h1
  generalize fnvL h (l.take k) = q at hb ⊢
  show fnvL (fx q y) _ = fnvL (fx q l[k]) _ ↔ _
  rw [fnvL_inj _ (drop_byte hl _) _ _ (fx_bd _ _).1 (fx_bd _ _).2 (fx_bd _ _).1 (fx_bd _ _).2]
  exact ⟨fun e => fx_right q _ _ hb.1 hb.2 y0 y1 hx.1 hx.2 e, fun e => by rw [e]⟩
theorem xor8 (x y : Int) (x0 : 0 ≤ x) (x1 : x ≤ 255) (y0 : 0 ≤ y) (y1 : y ≤ 255) : 0 ≤ bits .xor .u8 x y ∧ bits .xor .u8 x y ≤ 255 ∧ (bits .xor .u8 x y = x ↔ y = 0) := by
  rw [u8_xor x y x0 (by omega) y0 (by omega)]
  have b : x.toNat ^^^ y.toNat < 2 ^ 8 := Nat.xor_lt_two_pow (by omega) (by omega)
  refine ⟨by omega, by omega, ?_⟩
  have i : x.toNat ^^^ y.toNat = x.toNat ↔ y.toNat = 0 := by
    refine ⟨fun e => nat_xor_right (c := x.toNat) (by rw [e, Nat.xor_zero]), fun e => by rw [e, Nat.xor_zero]⟩
  omega
/-- a sum's four bytes -/
theorem b4_inj (g h : Int) (g0 : 0 ≤ g) (g1 : g < 4294967296) (h0 : 0 ≤ h) (h1 : h < 4294967296) : b4 g = b4 h ↔ g = h := by
  refine ⟨fun e => ?_, fun e => by rw [e]⟩
  simp [b4] at e
  omega
theorem numV_b4 (h : Int) (h0 : 0 ≤ h) (h1 : h < 4294967296) : numV (b4 h) = h := by
  simp only [b4, numV]; omega
theorem b4_pow (h : Int) (k : Nat) (hk : k < 4) (h0 : 0 ≤ h) (h1 : h < 4294967296) : (b4 h).getD k 0 = h / 256 ^ k % 256 := by
  obtain rfl | rfl | rfl | rfl : k = 0 ∨ k = 1 ∨ k = 2 ∨ k = 3 := by omega
  all_goals (simp [b4] <;> omega)
end Go.Proofs.Ytojpcijfipdiaaa.Mm
