/- The statement WordPlays, walked: any operation's result is the document's. -/
import Derived.RowKit
import Derived.Laws.BitsAllLaws
import Derived.Test.YtbgnkljeodandaaGreatRows
import Derived.WalkKit
import Derived.ProofKit
import Derived.OpenShut
import Derived.Lib.Hide
namespace Go.Proofs.YtbgnkljeodandaaGreat
open Go.RowKit
open Go.ChangeShapes Go.WideShapes Go.ChangeAt Go.RowKit
set_option linter.unusedVariables false
set_option maxRecDepth 10000

def doK (op b : Int) : Bool := decide (3 ≤ op ∧ op ≤ 14) && !((op == 6 || op == 7) && b == 0)
def doV (op a b : Int) : Int :=
 if op = 3 then (a + b) % 4294967296
 else if op = 4 then (a - b) % 4294967296
 else if op = 5 then (a * b) % 4294967296
 else if op = 6 then (if b = 0 then 0 else (wrap32 a).tdiv (wrap32 b) % 4294967296)
 else if op = 7 then (if b = 0 then 0 else (wrap32 a).tmod (wrap32 b) % 4294967296)
 else if op = 8 then ((a.toNat &&& b.toNat : Nat) : Int)
 else if op = 9 then ((a.toNat ||| b.toNat : Nat) : Int)
 else if op = 10 then ((a.toNat ^^^ b.toNat : Nat) : Int)
 else if op = 11 then a * 2 ^ (b % 32).toNat % 4294967296
 else if op = 12 then a / 2 ^ (b % 32).toNat
 else if op = 13 then (if wrap32 a < wrap32 b then 1 else 0)
 else if op = 14 then (if a = b then 1 else 0)
 else 0
theorem wrap32_mod (n : Int) : wrap32 n % 4294967296 = n % 4294967296 := by unfold wrap32; omega
theorem wrap32_bd (n : Int) : -2147483648 ≤ wrap32 n ∧ wrap32 n ≤ 2147483647 := by unfold wrap32; omega
theorem wrap32_lo (a : Int) (h0 : 0 ≤ a) (h1 : a < 2147483648) : wrap32 a = a := by unfold wrap32; omega
theorem wrap32_hi (a : Int) (h0 : 2147483648 ≤ a) (h1 : a < 4294967296) : wrap32 a = a - 4294967296 := by unfold wrap32; omega
theorem wrap32_zero (b : Int) (h0 : 0 ≤ b) (h1 : b < 4294967296) : wrap32 b = 0 ↔ b = 0 := by unfold wrap32; omega
theorem wrap64_wrap32 (n : Int) : wrap64 (wrap32 n) = wrap32 n := by unfold wrap64 wrap32; omega
theorem wrap64_in' (n : Int) (h0 : -9223372036854775808 ≤ n) (h1 : n ≤ 9223372036854775807) : wrap64 n = n := by unfold wrap64; omega
theorem rem_eq (a b : Int) : (a - wrap32 ((wrap32 a).tdiv (wrap32 b)) % 4294967296 * b % 4294967296) % 4294967296 = (wrap32 a).tmod (wrap32 b) % 4294967296 := by
 have e : (wrap32 a).tmod (wrap32 b) = wrap32 a - (wrap32 a).tdiv (wrap32 b) * wrap32 b := by
  have := Int.tmod_add_mul_tdiv (wrap32 a) (wrap32 b); rw [Int.mul_comm] at this; omega
 rw [e, wrap32_mod]
 generalize (wrap32 a).tdiv (wrap32 b) = q
 have h1 := wrap32_mod a
 have h2 := wrap32_mod b
 generalize wrap32 a = A at *
 generalize wrap32 b = B at *
 have m1 : q % 4294967296 * b % 4294967296 = q * B % 4294967296 := by
  rw [Int.mul_emod q B, h2, ← Int.mul_emod, Int.mul_emod (q % 4294967296) b, Int.emod_emod_of_dvd q (Int.dvd_refl _), ← Int.mul_emod]
 rw [m1]
 rw [Int.sub_emod a, Int.emod_emod_of_dvd _ (Int.dvd_refl _), ← h1, ← Int.sub_emod]
theorem tdiv_bd (x y : Int) (hx : -2147483648 ≤ x ∧ x ≤ 2147483647) : -2147483648 ≤ x.tdiv y ∧ x.tdiv y ≤ 2147483648 := by
 have h : (x.tdiv y).natAbs = x.natAbs / y.natAbs := Int.natAbs_tdiv x y
 have h2 := Nat.div_le_self x.natAbs y.natAbs
 rw [← h] at h2
 generalize x.tdiv y = q at *
 omega
theorem ite_bd {c : Prop} [Decidable c] {x y : Int} (h1 : 0 ≤ x ∧ x < 4294967296) (h2 : 0 ≤ y ∧ y < 4294967296) : 0 ≤ (if c then x else y) ∧ (if c then x else y) < 4294967296 := by
 by_cases h : c
 · rw [if_pos h]; exact h1
 · rw [if_neg h]; exact h2
theorem mod_bd (x : Int) : 0 ≤ x % 4294967296 ∧ x % 4294967296 < 4294967296 := ⟨Int.emod_nonneg _ (by decide), Int.emod_lt_of_pos _ (by decide)⟩
theorem doV_bd (op a b : Int) (h0 : 0 ≤ a) (h1 : a < 4294967296) (h2 : 0 ≤ b) (h3 : b < 4294967296) : 0 ≤ doV op a b ∧ doV op a b < 4294967296 := by
 have ha : a.toNat < 2 ^ 32 := by omega
 have hb : b.toNat < 2 ^ 32 := by omega
 have e1 : a.toNat &&& b.toNat < 4294967296 := Nat.and_lt_two_pow (n := 32) a.toNat hb
 have e2 : a.toNat ||| b.toNat < 4294967296 := Nat.or_lt_two_pow (n := 32) ha hb
 have e3 : a.toNat ^^^ b.toNat < 4294967296 := Nat.xor_lt_two_pow (n := 32) ha hb
 have e4 : 0 ≤ a / 2 ^ (b % 32).toNat ∧ a / 2 ^ (b % 32).toNat < 4294967296 := by
  have hp : (0 : Int) < 2 ^ (b % 32).toNat := Int.pow_pos (by decide)
  exact ⟨Int.ediv_nonneg h0 (Int.le_of_lt hp), Int.lt_of_le_of_lt (Int.ediv_le_self _ h0) h1⟩
 unfold doV
 refine ite_bd (mod_bd _) (ite_bd (mod_bd _) (ite_bd (mod_bd _) (ite_bd (ite_bd ⟨by decide, by decide⟩ (mod_bd _)) (ite_bd (ite_bd ⟨by decide, by decide⟩ (mod_bd _)) (ite_bd ⟨by omega, by omega⟩ (ite_bd ⟨by omega, by omega⟩ (ite_bd ⟨by omega, by omega⟩ (ite_bd (mod_bd _) (ite_bd e4 (ite_bd (ite_bd ⟨by decide, by decide⟩ ⟨by decide, by decide⟩) (ite_bd (ite_bd ⟨by decide, by decide⟩ ⟨by decide, by decide⟩) ⟨by decide, by decide⟩)))))))))))
theorem doV_none (op a b : Int) (h : op < 3 ∨ 14 < op) : doV op a b = 0 := by
 unfold doV
 repeat rw [if_neg (by omega)]
theorem doK_none (op b : Int) (h : op < 3 ∨ 14 < op) : doK op b = false := by
 have : decide (3 ≤ op ∧ op ≤ 14) = false := decide_eq_false (by omega)
 simp only [doK, this, Bool.false_and]
theorem doV_e3 (a b : Int) : doV 3 a b = (a + b) % 4294967296 := by unfold doV; repeat (first | rw [if_neg (by decide)] | rw [if_pos rfl])
theorem doV_e4 (a b : Int) : doV 4 a b = (a - b) % 4294967296 := by unfold doV; repeat (first | rw [if_neg (by decide)] | rw [if_pos rfl])
theorem doV_e5 (a b : Int) : doV 5 a b = (a * b) % 4294967296 := by unfold doV; repeat (first | rw [if_neg (by decide)] | rw [if_pos rfl])
theorem doV_e8 (a b : Int) : doV 8 a b = ((a.toNat &&& b.toNat : Nat) : Int) := by unfold doV; repeat (first | rw [if_neg (by decide)] | rw [if_pos rfl])
theorem doV_e9 (a b : Int) : doV 9 a b = ((a.toNat ||| b.toNat : Nat) : Int) := by unfold doV; repeat (first | rw [if_neg (by decide)] | rw [if_pos rfl])
theorem doV_e10 (a b : Int) : doV 10 a b = ((a.toNat ^^^ b.toNat : Nat) : Int) := by unfold doV; repeat (first | rw [if_neg (by decide)] | rw [if_pos rfl])
theorem doV_e11 (a b : Int) : doV 11 a b = a * 2 ^ (b % 32).toNat % 4294967296 := by unfold doV; repeat (first | rw [if_neg (by decide)] | rw [if_pos rfl])
theorem doV_e12 (a b : Int) : doV 12 a b = a / 2 ^ (b % 32).toNat := by unfold doV; repeat (first | rw [if_neg (by decide)] | rw [if_pos rfl])
theorem doV_e6 (a b : Int) (hb : b ≠ 0) : doV 6 a b = (wrap32 a).tdiv (wrap32 b) % 4294967296 := by unfold doV; (repeat (first | rw [if_neg (by decide)] | rw [if_pos rfl])); rw [if_neg hb]
theorem doV_e7 (a b : Int) (hb : b ≠ 0) : doV 7 a b = (wrap32 a).tmod (wrap32 b) % 4294967296 := by unfold doV; (repeat (first | rw [if_neg (by decide)] | rw [if_pos rfl])); rw [if_neg hb]
theorem doV_e13 (a b : Int) : doV 13 a b = if wrap32 a < wrap32 b then 1 else 0 := by unfold doV; repeat (first | rw [if_neg (by decide)] | rw [if_pos rfl])
theorem doV_e14 (a b : Int) : doV 14 a b = if a = b then 1 else 0 := by unfold doV; repeat (first | rw [if_neg (by decide)] | rw [if_pos rfl])
theorem doV_e6z (a : Int) : doV 6 a 0 = 0 := by unfold doV; repeat (first | rw [if_neg (by decide)] | rw [if_pos rfl])
theorem doV_e7z (a : Int) : doV 7 a 0 = 0 := by unfold doV; repeat (first | rw [if_neg (by decide)] | rw [if_pos rfl])
theorem doK_e (op b : Int) (h : op = 3 ∨ op = 4 ∨ op = 5 ∨ op = 8 ∨ op = 9 ∨ op = 10 ∨ op = 11 ∨ op = 12 ∨ op = 13 ∨ op = 14) : doK op b = true := by
 rcases h with rfl | rfl | rfl | rfl | rfl | rfl | rfl | rfl | rfl | rfl <;> rfl
theorem doK_e6 (op b : Int) (h : op = 6 ∨ op = 7) (hb : b ≠ 0) : doK op b = true := by
 rcases h with rfl | rfl <;> simp [doK, hb]
theorem doK_e6z (op : Int) (h : op = 6 ∨ op = 7) : doK op 0 = false := by
 rcases h with rfl | rfl <;> rfl
theorem ret_int {k : IntKind} {a b : Int} (h : a = b) : Ending.returned (.int k a) = .returned (.int k b) := by rw [h]
theorem ret_bool {a b : Bool} (h : a = b) : Ending.returned (.bool a) = .returned (.bool b) := by rw [h]
theorem ret_ib {k : IntKind} {a b : Int} {c d : Bool} (h : a = b) (h' : c = d) : Ending.returned (.tuple #[.int k a, .bool c]) = .returned (.tuple #[.int k b, .bool d]) := by rw [h, h']
theorem truth_any (b : Bool) (w : World) : Calls Tryz.prog 108 #[.bool b] w fun e w' => e = .returned (.int .u32 (if b then 1 else 0)) ∧ w = w' := by
  cases b
  · go_enter Tryz.func108, Tryz.ntmps108
    go_wp2
    go_ret
    exact ⟨rfl, rfl⟩
  · go_enter Tryz.func108, Tryz.ntmps108
    go_wp2
    go_ret
    exact ⟨rfl, rfl⟩
theorem sign_any (a : Int) (w : World) : Calls Tryz.prog 120 #[.int .u32 a] w fun e w' => e = .returned (.int .i64 (wrap32 a)) ∧ w = w' := by
 go_enter Tryz.func120, Tryz.ntmps120
 go_wp2
 go_ret
 exact ⟨ret_int (wrap64_wrap32 a), rfl⟩
theorem divide_zero (a : Int) (q : Bool) (w : World) : Calls Tryz.prog 107 #[.int .u32 a, .int .u32 0, .bool q] w fun e w' => e = .returned (.tuple #[.int .u32 0, .bool false]) ∧ w = w' := by
 go_enter Tryz.func107, Tryz.ntmps107
 go_wp2
 go_ret2
 exact ⟨rfl, rfl⟩
theorem divide_quo (a b : Int) (hb : (b == 0) = false) (hw : ¬ wrap32 b = 0) (w : World) : Calls Tryz.prog 107 #[.int .u32 a, .int .u32 b, .bool true] w fun e w' => e = .returned (.tuple #[.int .u32 ((wrap32 a).tdiv (wrap32 b) % 4294967296), .bool true]) ∧ w = w' := by
 go_enter Tryz.func107, Tryz.ntmps107
 go_wp2
 go_ret2
 exact ⟨ret_ib (wrap32_mod _) rfl, rfl⟩
theorem divide_rem (a b : Int) (hb : (b == 0) = false) (hw : ¬ wrap32 b = 0) (w : World) : Calls Tryz.prog 107 #[.int .u32 a, .int .u32 b, .bool false] w fun e w' => e = .returned (.tuple #[.int .u32 ((wrap32 a).tmod (wrap32 b) % 4294967296), .bool true]) ∧ w = w' := by
 go_enter Tryz.func107, Tryz.ntmps107
 go_wp2
 go_ret2
 exact ⟨ret_ib (rem_eq a b) rfl, rfl⟩
theorem do_3 (a b : Int) (h0 : 0 ≤ a) (h1 : a < 4294967296) (h2 : 0 ≤ b) (h3 : b < 4294967296) (w : World) :
  Calls Tryz.prog 96 #[.int .i64 3, .int .u32 a, .int .u32 b] w fun e w' => e = .returned (.tuple #[.int .u32 ((a + b) % 4294967296), .bool true]) ∧ w = w' := by
 go_enter Tryz.func96, Tryz.ntmps96
 go_wp2
 go_ret2
 exact ⟨rfl, rfl⟩
theorem do_4 (a b : Int) (h0 : 0 ≤ a) (h1 : a < 4294967296) (h2 : 0 ≤ b) (h3 : b < 4294967296) (w : World) :
  Calls Tryz.prog 96 #[.int .i64 4, .int .u32 a, .int .u32 b] w fun e w' => e = .returned (.tuple #[.int .u32 ((a - b) % 4294967296), .bool true]) ∧ w = w' := by
 go_enter Tryz.func96, Tryz.ntmps96
 go_wp2
 go_ret2
 exact ⟨rfl, rfl⟩
theorem do_5 (a b : Int) (h0 : 0 ≤ a) (h1 : a < 4294967296) (h2 : 0 ≤ b) (h3 : b < 4294967296) (w : World) :
  Calls Tryz.prog 96 #[.int .i64 5, .int .u32 a, .int .u32 b] w fun e w' => e = .returned (.tuple #[.int .u32 ((a * b) % 4294967296), .bool true]) ∧ w = w' := by
 go_enter Tryz.func96, Tryz.ntmps96
 go_wp2
 go_ret2
 exact ⟨rfl, rfl⟩
theorem do_6z (a : Int) (h0 : 0 ≤ a) (h1 : a < 4294967296) (w : World) :
  Calls Tryz.prog 96 #[.int .i64 6, .int .u32 a, .int .u32 0] w fun e w' => e = .returned (.tuple #[.int .u32 0, .bool false]) ∧ w = w' := by
 go_enter Tryz.func96, Tryz.ntmps96
 go_wp2_with (go_at_call 107; refine (divide_zero _ _ _).mono ?_; rintro e w' ⟨rfl, rfl⟩)
 go_ret2
 exact ⟨rfl, rfl⟩
theorem do_6 (a b : Int) (h0 : 0 ≤ a) (h1 : a < 4294967296) (h2 : 0 ≤ b) (h3 : b < 4294967296) (hb : (b == 0) = false) (hw : ¬ wrap32 b = 0) (w : World) :
  Calls Tryz.prog 96 #[.int .i64 6, .int .u32 a, .int .u32 b] w fun e w' => e = .returned (.tuple #[.int .u32 ((wrap32 a).tdiv (wrap32 b) % 4294967296), .bool true]) ∧ w = w' := by
 go_enter Tryz.func96, Tryz.ntmps96
 go_wp2_with (go_at_call 107; refine (divide_quo _ _ hb hw _).mono ?_; rintro e w' ⟨rfl, rfl⟩)
 go_ret2
 exact ⟨rfl, rfl⟩
theorem do_7z (a : Int) (h0 : 0 ≤ a) (h1 : a < 4294967296) (w : World) :
  Calls Tryz.prog 96 #[.int .i64 7, .int .u32 a, .int .u32 0] w fun e w' => e = .returned (.tuple #[.int .u32 0, .bool false]) ∧ w = w' := by
 go_enter Tryz.func96, Tryz.ntmps96
 go_wp2_with (go_at_call 107; refine (divide_zero _ _ _).mono ?_; rintro e w' ⟨rfl, rfl⟩)
 go_ret2
 exact ⟨rfl, rfl⟩
theorem do_7 (a b : Int) (h0 : 0 ≤ a) (h1 : a < 4294967296) (h2 : 0 ≤ b) (h3 : b < 4294967296) (hb : (b == 0) = false) (hw : ¬ wrap32 b = 0) (w : World) :
  Calls Tryz.prog 96 #[.int .i64 7, .int .u32 a, .int .u32 b] w fun e w' => e = .returned (.tuple #[.int .u32 ((wrap32 a).tmod (wrap32 b) % 4294967296), .bool true]) ∧ w = w' := by
 go_enter Tryz.func96, Tryz.ntmps96
 go_wp2_with (go_at_call 107; refine (divide_rem _ _ hb hw _).mono ?_; rintro e w' ⟨rfl, rfl⟩)
 go_ret2
 exact ⟨rfl, rfl⟩
theorem do_8 (a b : Int) (h0 : 0 ≤ a) (h1 : a < 4294967296) (h2 : 0 ≤ b) (h3 : b < 4294967296) (w : World) :
  Calls Tryz.prog 96 #[.int .i64 8, .int .u32 a, .int .u32 b] w fun e w' => e = .returned (.tuple #[.int .u32 (bits .and .u32 a b), .bool true]) ∧ w = w' := by
 go_enter Tryz.func96, Tryz.ntmps96
 go_wp2
 go_ret2
 exact ⟨rfl, rfl⟩
theorem do_9 (a b : Int) (h0 : 0 ≤ a) (h1 : a < 4294967296) (h2 : 0 ≤ b) (h3 : b < 4294967296) (w : World) :
  Calls Tryz.prog 96 #[.int .i64 9, .int .u32 a, .int .u32 b] w fun e w' => e = .returned (.tuple #[.int .u32 (bits .or .u32 a b), .bool true]) ∧ w = w' := by
 go_enter Tryz.func96, Tryz.ntmps96
 go_wp2
 go_ret2
 exact ⟨rfl, rfl⟩
theorem do_10 (a b : Int) (h0 : 0 ≤ a) (h1 : a < 4294967296) (h2 : 0 ≤ b) (h3 : b < 4294967296) (w : World) :
  Calls Tryz.prog 96 #[.int .i64 10, .int .u32 a, .int .u32 b] w fun e w' => e = .returned (.tuple #[.int .u32 (bits .xor .u32 a b), .bool true]) ∧ w = w' := by
 go_enter Tryz.func96, Tryz.ntmps96
 go_wp2
 go_ret2
 exact ⟨rfl, rfl⟩
theorem do_11 (a b : Int) (h0 : 0 ≤ a) (h1 : a < 4294967296) (h2 : 0 ≤ b) (h3 : b < 4294967296) (w : World) :
  Calls Tryz.prog 96 #[.int .i64 11, .int .u32 a, .int .u32 b] w fun e w' => e = .returned (.tuple #[.int .u32 (a * 2 ^ (b % 32).toNat % 4294967296), .bool true]) ∧ w = w' := by
 go_enter Tryz.func96, Tryz.ntmps96
 go_wp2
 go_ret2
 exact ⟨rfl, rfl⟩
theorem do_12 (a b : Int) (h0 : 0 ≤ a) (h1 : a < 4294967296) (h2 : 0 ≤ b) (h3 : b < 4294967296) (w : World) :
  Calls Tryz.prog 96 #[.int .i64 12, .int .u32 a, .int .u32 b] w fun e w' => e = .returned (.tuple #[.int .u32 (a / 2 ^ (b % 32).toNat), .bool true]) ∧ w = w' := by
 go_enter Tryz.func96, Tryz.ntmps96
 go_wp2
 go_ret2
 exact ⟨rfl, rfl⟩
theorem do_13y (a b : Int) (h0 : 0 ≤ a) (h1 : a < 4294967296) (h2 : 0 ≤ b) (h3 : b < 4294967296) (hl : wrap32 a < wrap32 b) (w : World) :
  Calls Tryz.prog 96 #[.int .i64 13, .int .u32 a, .int .u32 b] w fun e w' => e = .returned (.tuple #[.int .u32 (1), .bool true]) ∧ w = w' := by
 go_enter Tryz.func96, Tryz.ntmps96
 go_wp2_with (go_at_call 108; refine (truth_any _ _).mono ?_; rintro e w' ⟨rfl, rfl⟩)
 go_ret2
 exact ⟨rfl, rfl⟩
theorem do_13n (a b : Int) (h0 : 0 ≤ a) (h1 : a < 4294967296) (h2 : 0 ≤ b) (h3 : b < 4294967296) (hl : wrap32 b ≤ wrap32 a) (w : World) :
  Calls Tryz.prog 96 #[.int .i64 13, .int .u32 a, .int .u32 b] w fun e w' => e = .returned (.tuple #[.int .u32 (0), .bool true]) ∧ w = w' := by
 go_enter Tryz.func96, Tryz.ntmps96
 go_wp2_with (go_at_call 108; refine (truth_any _ _).mono ?_; rintro e w' ⟨rfl, rfl⟩)
 go_ret2
 exact ⟨rfl, rfl⟩
theorem do_14n (a b : Int) (h0 : 0 ≤ a) (h1 : a < 4294967296) (h2 : 0 ≤ b) (h3 : b < 4294967296) (hl : (a == b) = false) (w : World) :
  Calls Tryz.prog 96 #[.int .i64 14, .int .u32 a, .int .u32 b] w fun e w' => e = .returned (.tuple #[.int .u32 (0), .bool true]) ∧ w = w' := by
 go_enter Tryz.func96, Tryz.ntmps96
 go_wp2_with (go_at_call 108; refine (truth_any _ _).mono ?_; rintro e w' ⟨rfl, rfl⟩)
 go_ret2
 exact ⟨rfl, rfl⟩
theorem do_14y (a : Int) (h0 : 0 ≤ a) (h1 : a < 4294967296) (w : World) :
  Calls Tryz.prog 96 #[.int .i64 14, .int .u32 a, .int .u32 a] w fun e w' => e = .returned (.tuple #[.int .u32 1, .bool true]) ∧ w = w' := by
 go_enter Tryz.func96, Tryz.ntmps96
 go_wp2_with (go_at_call 108; refine (truth_any _ _).mono ?_; rintro e w' ⟨rfl, rfl⟩)
 go_ret2
 exact ⟨rfl, rfl⟩
theorem do_none (op a b : Int) (h : op < 3 ∨ 14 < op) (w : World) :
  Calls Tryz.prog 96 #[.int .i64 op, .int .u32 a, .int .u32 b] w fun e w' => e = .returned (.tuple #[.int .u32 0, .bool false]) ∧ w = w' := by
 go_enter Tryz.func96, Tryz.ntmps96
 go_wp2
 go_ret2
 exact ⟨rfl, rfl⟩
theorem do_any (op a b : Int) (h0 : 0 ≤ a) (h1 : a < 4294967296) (h2 : 0 ≤ b) (h3 : b < 4294967296) (w : World) :
    Calls Tryz.prog 96 #[.int .i64 op, .int .u32 a, .int .u32 b] w fun e w' => e = .returned (.tuple #[.int .u32 (doV op a b), .bool (doK op b)]) ∧ w = w' := by
  by_cases hr : op < 3 ∨ 14 < op
  · refine (do_none op a b hr w).mono ?_
    rintro e w' ⟨rfl, rfl⟩
    exact ⟨ret_ib (doV_none op a b hr).symm (doK_none op b hr).symm, rfl⟩
  have hop : op = 3 ∨ op = 4 ∨ op = 5 ∨ op = 6 ∨ op = 7 ∨ op = 8 ∨ op = 9 ∨ op = 10 ∨ op = 11 ∨ op = 12 ∨ op = 13 ∨ op = 14 := by omega
  clear hr
  rcases hop with rfl | rfl | rfl | rfl | rfl | rfl | rfl | rfl | rfl | rfl | rfl | rfl
  · refine (do_3 a b h0 h1 h2 h3 w).mono ?_; rintro e w' ⟨rfl, rfl⟩; exact ⟨ret_ib ((doV_e3 _ _).symm) (doK_e _ _ (by omega)).symm, rfl⟩
  · refine (do_4 a b h0 h1 h2 h3 w).mono ?_; rintro e w' ⟨rfl, rfl⟩; exact ⟨ret_ib ((doV_e4 _ _).symm) (doK_e _ _ (by omega)).symm, rfl⟩
  · refine (do_5 a b h0 h1 h2 h3 w).mono ?_; rintro e w' ⟨rfl, rfl⟩; exact ⟨ret_ib ((doV_e5 _ _).symm) (doK_e _ _ (by omega)).symm, rfl⟩
  · by_cases hb : b = 0
    · subst hb; refine (do_6z a h0 h1 w).mono ?_; rintro e w' ⟨rfl, rfl⟩; exact ⟨ret_ib (doV_e6z _).symm (doK_e6z _ (by omega)).symm, rfl⟩
    · refine (do_6 a b h0 h1 h2 h3 (beq_eq_false_iff_ne.2 hb) (fun h => hb ((wrap32_zero b h2 h3).1 h)) w).mono ?_; rintro e w' ⟨rfl, rfl⟩
      exact ⟨ret_ib (doV_e6 _ _ hb).symm (doK_e6 _ _ (by omega) hb).symm, rfl⟩
  · by_cases hb : b = 0
    · subst hb; refine (do_7z a h0 h1 w).mono ?_; rintro e w' ⟨rfl, rfl⟩; exact ⟨ret_ib (doV_e7z _).symm (doK_e6z _ (by omega)).symm, rfl⟩
    · refine (do_7 a b h0 h1 h2 h3 (beq_eq_false_iff_ne.2 hb) (fun h => hb ((wrap32_zero b h2 h3).1 h)) w).mono ?_; rintro e w' ⟨rfl, rfl⟩
      exact ⟨ret_ib (doV_e7 _ _ hb).symm (doK_e6 _ _ (by omega) hb).symm, rfl⟩
  · refine (do_8 a b h0 h1 h2 h3 w).mono ?_; rintro e w' ⟨rfl, rfl⟩; exact ⟨ret_ib ((u32_and a b h0 h1 h2 h3).trans (doV_e8 _ _).symm) (doK_e _ _ (by omega)).symm, rfl⟩
  · refine (do_9 a b h0 h1 h2 h3 w).mono ?_; rintro e w' ⟨rfl, rfl⟩; exact ⟨ret_ib ((u32_or a b h0 h1 h2 h3).trans (doV_e9 _ _).symm) (doK_e _ _ (by omega)).symm, rfl⟩
  · refine (do_10 a b h0 h1 h2 h3 w).mono ?_; rintro e w' ⟨rfl, rfl⟩; exact ⟨ret_ib ((u32_xor a b h0 h1 h2 h3).trans (doV_e10 _ _).symm) (doK_e _ _ (by omega)).symm, rfl⟩
  · refine (do_11 a b h0 h1 h2 h3 w).mono ?_; rintro e w' ⟨rfl, rfl⟩; exact ⟨ret_ib ((doV_e11 _ _).symm) (doK_e _ _ (by omega)).symm, rfl⟩
  · refine (do_12 a b h0 h1 h2 h3 w).mono ?_; rintro e w' ⟨rfl, rfl⟩; exact ⟨ret_ib ((doV_e12 _ _).symm) (doK_e _ _ (by omega)).symm, rfl⟩
  · by_cases hl : wrap32 a < wrap32 b
    · refine (do_13y a b h0 h1 h2 h3 hl w).mono ?_; rintro e w' ⟨rfl, rfl⟩; exact ⟨ret_ib (by rw [doV_e13, if_pos hl]) (doK_e _ _ (by omega)).symm, rfl⟩
    · refine (do_13n a b h0 h1 h2 h3 (by omega) w).mono ?_; rintro e w' ⟨rfl, rfl⟩; exact ⟨ret_ib (by rw [doV_e13, if_neg hl]) (doK_e _ _ (by omega)).symm, rfl⟩
  · by_cases hl : a = b
    · subst hl; refine (do_14y a h0 h1 w).mono ?_; rintro e w' ⟨rfl, rfl⟩; exact ⟨ret_ib (by rw [doV_e14, if_pos rfl]) (doK_e _ _ (by omega)).symm, rfl⟩
    · refine (do_14n a b h0 h1 h2 h3 (beq_eq_false_iff_ne.2 hl) w).mono ?_; rintro e w' ⟨rfl, rfl⟩; exact ⟨ret_ib (by rw [doV_e14, if_neg hl]) (doK_e _ _ (by omega)).symm, rfl⟩
theorem rsign_any (a : Int) (h0 : 0 ≤ a) (h1 : a < 4294967296) (w : World) : Calls Tryz.prog 61 #[.int .u32 a] w fun e w' => e = .returned (.int .i64 (wrap32 a)) ∧ w = w' := by
  by_cases h : 2147483648 ≤ a
  · have e := wrap32_hi a h h1
    have E := Lib.hid e; clear e
    go_enter Tryz.func61, Tryz.ntmps61
    go_wp2
    go_ret
    exact ⟨ret_int E.out.symm, rfl⟩
  · have e := wrap32_lo a h0 (by omega)
    have E := Lib.hid e; clear e
    go_enter Tryz.func61, Tryz.ntmps61
    go_wp2
    go_ret
    exact ⟨ret_int E.out.symm, rfl⟩
theorem tmod_bd (n : Int) : -4294967296 < n.tmod 4294967296 ∧ n.tmod 4294967296 < 4294967296 := by
 constructor
 · exact Int.lt_tmod_of_pos n (by decide)
 · exact Int.tmod_lt_of_pos n (by decide)
theorem tmod_eq (n : Int) : n % 4294967296 = if n.tmod 4294967296 < 0 then n.tmod 4294967296 + 4294967296 else n.tmod 4294967296 := by
 have e := Int.tmod_add_mul_tdiv n 4294967296
 have b := tmod_bd n
 generalize n.tmod 4294967296 = r at *
 generalize n.tdiv 4294967296 = q at *
 by_cases h : r < 0
 · rw [if_pos h]; omega
 · rw [if_neg h]; omega
theorem rof_any (n : Int) (w : World) : Calls Tryz.prog 67 #[.int .i64 n] w fun e w' => e = .returned (.int .u32 (n % 4294967296)) ∧ w = w' := by
  have b := tmod_bd n
  have E := Lib.hid (tmod_eq n)
  by_cases h0 : 0 ≤ n
  · go_enter Tryz.func67, Tryz.ntmps67
    go_wp2
    go_ret
    exact ⟨ret_int (by omega), rfl⟩
  · by_cases h1 : n.tmod 4294967296 < 0
    · go_enter Tryz.func67, Tryz.ntmps67
      go_wp2
      go_ret
      exact ⟨ret_int (by rw [E.out, if_pos h1]), rfl⟩
    · go_enter Tryz.func67, Tryz.ntmps67
      go_wp2
      go_ret
      exact ⟨ret_int (by rw [E.out, if_neg (by omega)]), rfl⟩
theorem half_cast (x j : Nat) : ((x / 2 ^ j : Nat) : Int) / 2 = ((x / 2 ^ (j + 1) : Nat) : Int) := by
 rw [Nat.pow_succ, ← Nat.div_div_eq_div_mul]; simp
theorem v_int {k : IntKind} {a b : Int} (h : a = b) : Value.int k a = .int k b := by rw [h]
theorem rbit_any (x m : Nat) (hx : x < 4294967296) (hm : m < 32) (w : World) : Calls Tryz.prog 84 #[.int .u32 x, .int .i64 m] w fun e w' => e = .returned (.int .i64 ((x / 2 ^ m % 2 : Nat) : Int)) ∧ w = w' := by
  go_enter Tryz.func84, Tryz.ntmps84
  go_wp2
  go_loop [5, 6] (fun n k => ∃ j : Nat, j ≤ m ∧ k = .int .i64 j ∧ n = .int .i64 ((x / 2 ^ j : Nat) : Int)) (fun _ k => m - (intOf k).toNat)
  case atStart => exact ⟨0, Nat.zero_le _, rfl, v_int (by simp)⟩
  case round =>
    obtain ⟨j, hj, rfl, rfl⟩ := hrel
    have H := Lib.hid (half_cast x j)
    have hb : x / 2 ^ j < 4294967296 := Nat.lt_of_le_of_lt (Nat.div_le_self _ _) hx
    by_cases hlt : j < m
    · generalize x / 2 ^ j = y at *
      go_wp2
      go_round
      case rel => exact ⟨j + 1, by omega, by go_num, v_int H.out⟩
      case measure => simp [intOf]; omega
    · obtain rfl : m = j := by omega
      go_wp2
      go_ret
      exact ⟨ret_int (by rfl), rfl⟩
theorem rbit_is (x m : Nat) (v : Int) (hv : ((x / 2 ^ m % 2 : Nat) : Int) = v) (hx : x < 4294967296) (hm : m < 32) (w : World) : Calls Tryz.prog 84 #[.int .u32 x, .int .i64 m] w fun e w' => e = .returned (.int .i64 v) ∧ w = w' := by
 subst hv; exact rbit_any x m hx hm w
theorem bits_step (F j : Nat) : ((F / 2 ^ j : Nat) : Int) = 2 * ((F / 2 ^ (j + 1) : Nat) : Int) + ((F / 2 ^ j % 2 : Nat) : Int) := by
 have : F / 2 ^ (j + 1) = F / 2 ^ j / 2 := by rw [Nat.pow_succ, ← Nat.div_div_eq_div_mul]
 rw [this]; omega
theorem and_bit (x y j : Nat) : (x &&& y) / 2 ^ j % 2 = if x / 2 ^ j % 2 = 1 ∧ y / 2 ^ j % 2 = 1 then 1 else 0 := by
 rw [← Nat.toNat_testBit, Nat.testBit_and, Nat.testBit_eq_decide_div_mod_eq, Nat.testBit_eq_decide_div_mod_eq]
 by_cases h1 : x / 2 ^ j % 2 = 1 <;> by_cases h2 : y / 2 ^ j % 2 = 1 <;> simp [h1, h2]
theorem or_bit (x y j : Nat) : (x ||| y) / 2 ^ j % 2 = if x / 2 ^ j % 2 = 1 ∨ y / 2 ^ j % 2 = 1 then 1 else 0 := by
 rw [← Nat.toNat_testBit, Nat.testBit_or, Nat.testBit_eq_decide_div_mod_eq, Nat.testBit_eq_decide_div_mod_eq]
 by_cases h1 : x / 2 ^ j % 2 = 1 <;> by_cases h2 : y / 2 ^ j % 2 = 1 <;> simp [h1, h2]
theorem xor_bit (x y j : Nat) : (x ^^^ y) / 2 ^ j % 2 = if (x / 2 ^ j % 2 = 1) ↔ (y / 2 ^ j % 2 = 1) then 0 else 1 := by
 rw [← Nat.toNat_testBit, Nat.testBit_xor, Nat.testBit_eq_decide_div_mod_eq, Nat.testBit_eq_decide_div_mod_eq]
 by_cases h1 : x / 2 ^ j % 2 = 1 <;> by_cases h2 : y / 2 ^ j % 2 = 1 <;> simp [h1, h2]
theorem rbits_8 (x y : Nat) (hx : x < 4294967296) (hy : y < 4294967296) (w : World) : Calls Tryz.prog 68 #[.int .i64 8, .int .u32 x, .int .u32 y] w fun e w' => e = .returned (.int .u32 ((x &&& y : Nat) : Int)) ∧ w = w' := by
  have hF : (x &&& y) < 2 ^ 32 := Nat.and_lt_two_pow (n := 32) x hy
  have hbit := and_bit x y
  generalize (x &&& y) = F at *
  have HB := Lib.hid hbit; clear hbit
  go_enter Tryz.func68, Tryz.ntmps68
  go_wp2
  go_loop [7, 8] (fun n i => ∃ j : Nat, j ≤ 32 ∧ i = .int .i64 ((j : Int) - 1) ∧ n = .int .i64 ((F / 2 ^ j : Nat) : Int)) (fun _ i => (intOf i + 1).toNat)
  case atStart => exact ⟨32, Nat.le_refl _, rfl, v_int (by rw [Nat.div_eq_of_lt hF]; rfl)⟩
  case round =>
    obtain ⟨j, hj, rfl, rfl⟩ := hrel
    by_cases h0 : j = 0
    · subst h0
      have e : F / 2 ^ 0 = F := by simp
      rw [e]; clear e
      go_wp2
      go_ret
      exact ⟨ret_int (by omega), rfl⟩
    · obtain ⟨i, rfl⟩ : ∃ i, j = i + 1 := ⟨j - 1, by omega⟩
      have e : (((i + 1 : Nat) : Int) - 1) = (i : Int) := by omega
      rw [e]; clear e
      have hst := bits_step F i
      have hbt := HB.out i
      have hlt : F / 2 ^ (i + 1) < 4294967296 := Nat.lt_of_le_of_lt (Nat.div_le_self _ _) hF
      have HS := Lib.hid hst; clear hst
      generalize hG : F / 2 ^ (i + 1) = G at *
      have HG := Lib.hid hG; clear hG
      have hp : x / 2 ^ i % 2 = 0 ∨ x / 2 ^ i % 2 = 1 := by omega
      have hq : y / 2 ^ i % 2 = 0 ∨ y / 2 ^ i % 2 = 1 := by omega
      rcases hp with hp | hp <;> rcases hq with hq | hq
      all_goals
        have bx := rbit_is x i _ (congrArg (fun n : Nat => (n : Int)) hp) hx (by omega)
        have bY := rbit_is y i _ (congrArg (fun n : Nat => (n : Int)) hq) hy (by omega)
        rw [hp, hq] at hbt
        have HT := Lib.hid hbt; clear hbt hp hq
        have BX := Lib.hid bx; clear bx
        have BY := Lib.hid bY; clear bY
        go_wp2_with fail
        refine (BX.out _).mono ?_; rintro e w' ⟨rfl, rfl⟩
        go_wp2_with fail
        refine (BY.out _).mono ?_; rintro e w' ⟨rfl, rfl⟩
        go_wp2_with fail
        go_round
        case rel => exact ⟨i, by omega, rfl, v_int (by rw [HS.out, HT.out]; simp)⟩
        case measure => simp [intOf]
theorem rbits_9 (x y : Nat) (hx : x < 4294967296) (hy : y < 4294967296) (w : World) : Calls Tryz.prog 68 #[.int .i64 9, .int .u32 x, .int .u32 y] w fun e w' => e = .returned (.int .u32 ((x ||| y : Nat) : Int)) ∧ w = w' := by
  have hF : (x ||| y) < 2 ^ 32 := Nat.or_lt_two_pow (n := 32) hx hy
  have hbit := or_bit x y
  generalize (x ||| y) = F at *
  have HB := Lib.hid hbit; clear hbit
  go_enter Tryz.func68, Tryz.ntmps68
  go_wp2
  go_loop [7, 8] (fun n i => ∃ j : Nat, j ≤ 32 ∧ i = .int .i64 ((j : Int) - 1) ∧ n = .int .i64 ((F / 2 ^ j : Nat) : Int)) (fun _ i => (intOf i + 1).toNat)
  case atStart => exact ⟨32, Nat.le_refl _, rfl, v_int (by rw [Nat.div_eq_of_lt hF]; rfl)⟩
  case round =>
    obtain ⟨j, hj, rfl, rfl⟩ := hrel
    by_cases h0 : j = 0
    · subst h0
      have e : F / 2 ^ 0 = F := by simp
      rw [e]; clear e
      go_wp2
      go_ret
      exact ⟨ret_int (by omega), rfl⟩
    · obtain ⟨i, rfl⟩ : ∃ i, j = i + 1 := ⟨j - 1, by omega⟩
      have e : (((i + 1 : Nat) : Int) - 1) = (i : Int) := by omega
      rw [e]; clear e
      have hst := bits_step F i
      have hbt := HB.out i
      have hlt : F / 2 ^ (i + 1) < 4294967296 := Nat.lt_of_le_of_lt (Nat.div_le_self _ _) hF
      have HS := Lib.hid hst; clear hst
      generalize hG : F / 2 ^ (i + 1) = G at *
      have HG := Lib.hid hG; clear hG
      have hp : x / 2 ^ i % 2 = 0 ∨ x / 2 ^ i % 2 = 1 := by omega
      have hq : y / 2 ^ i % 2 = 0 ∨ y / 2 ^ i % 2 = 1 := by omega
      rcases hp with hp | hp <;> rcases hq with hq | hq
      all_goals
        have bx := rbit_is x i _ (congrArg (fun n : Nat => (n : Int)) hp) hx (by omega)
        have bY := rbit_is y i _ (congrArg (fun n : Nat => (n : Int)) hq) hy (by omega)
        rw [hp, hq] at hbt
        have HT := Lib.hid hbt; clear hbt hp hq
        have BX := Lib.hid bx; clear bx
        have BY := Lib.hid bY; clear bY
        go_wp2_with fail
        refine (BX.out _).mono ?_; rintro e w' ⟨rfl, rfl⟩
        go_wp2_with fail
        refine (BY.out _).mono ?_; rintro e w' ⟨rfl, rfl⟩
        go_wp2_with fail
        go_round
        case rel => exact ⟨i, by omega, rfl, v_int (by rw [HS.out, HT.out]; simp)⟩
        case measure => simp [intOf]
theorem rbits_10 (x y : Nat) (hx : x < 4294967296) (hy : y < 4294967296) (w : World) : Calls Tryz.prog 68 #[.int .i64 10, .int .u32 x, .int .u32 y] w fun e w' => e = .returned (.int .u32 ((x ^^^ y : Nat) : Int)) ∧ w = w' := by
  have hF : (x ^^^ y) < 2 ^ 32 := Nat.xor_lt_two_pow (n := 32) hx hy
  have hbit := xor_bit x y
  generalize (x ^^^ y) = F at *
  have HB := Lib.hid hbit; clear hbit
  go_enter Tryz.func68, Tryz.ntmps68
  go_wp2
  go_loop [7, 8] (fun n i => ∃ j : Nat, j ≤ 32 ∧ i = .int .i64 ((j : Int) - 1) ∧ n = .int .i64 ((F / 2 ^ j : Nat) : Int)) (fun _ i => (intOf i + 1).toNat)
  case atStart => exact ⟨32, Nat.le_refl _, rfl, v_int (by rw [Nat.div_eq_of_lt hF]; rfl)⟩
  case round =>
    obtain ⟨j, hj, rfl, rfl⟩ := hrel
    by_cases h0 : j = 0
    · subst h0
      have e : F / 2 ^ 0 = F := by simp
      rw [e]; clear e
      go_wp2
      go_ret
      exact ⟨ret_int (by omega), rfl⟩
    · obtain ⟨i, rfl⟩ : ∃ i, j = i + 1 := ⟨j - 1, by omega⟩
      have e : (((i + 1 : Nat) : Int) - 1) = (i : Int) := by omega
      rw [e]; clear e
      have hst := bits_step F i
      have hbt := HB.out i
      have hlt : F / 2 ^ (i + 1) < 4294967296 := Nat.lt_of_le_of_lt (Nat.div_le_self _ _) hF
      have HS := Lib.hid hst; clear hst
      generalize hG : F / 2 ^ (i + 1) = G at *
      have HG := Lib.hid hG; clear hG
      have hp : x / 2 ^ i % 2 = 0 ∨ x / 2 ^ i % 2 = 1 := by omega
      have hq : y / 2 ^ i % 2 = 0 ∨ y / 2 ^ i % 2 = 1 := by omega
      rcases hp with hp | hp <;> rcases hq with hq | hq
      all_goals
        have bx := rbit_is x i _ (congrArg (fun n : Nat => (n : Int)) hp) hx (by omega)
        have bY := rbit_is y i _ (congrArg (fun n : Nat => (n : Int)) hq) hy (by omega)
        rw [hp, hq] at hbt
        have HT := Lib.hid hbt; clear hbt hp hq
        have BX := Lib.hid bx; clear bx
        have BY := Lib.hid bY; clear bY
        go_wp2_with fail
        refine (BX.out _).mono ?_; rintro e w' ⟨rfl, rfl⟩
        go_wp2_with fail
        refine (BY.out _).mono ?_; rintro e w' ⟨rfl, rfl⟩
        go_wp2_with fail
        go_round
        case rel => exact ⟨i, by omega, rfl, v_int (by rw [HS.out, HT.out]; simp)⟩
        case measure => simp [intOf]
theorem rdo_3 (a b : Int) (h0 : 0 ≤ a) (h1 : a < 4294967296) (h2 : 0 ≤ b) (h3 : b < 4294967296) (w : World) :
  Calls Tryz.prog 48 #[.int .i64 3, .int .u32 a, .int .u32 b] w fun e w' => e = .returned (.tuple #[.int .u32 ((a + b) % 4294967296), .bool true]) ∧ w = w' := by
 have ba := wrap32_bd a
 have bb := wrap32_bd b
 go_enter Tryz.func48, Tryz.ntmps48
 go_wp2_with (first | (go_at_call 61; refine (rsign_any _ (by omega) (by omega) _).mono ?_; rintro e w' ⟨rfl, rfl⟩) | (go_at_call 67; refine (rof_any _ _).mono ?_; rintro e w' ⟨rfl, rfl⟩))
 go_ret2
 exact ⟨rfl, rfl⟩
theorem rdo_4 (a b : Int) (h0 : 0 ≤ a) (h1 : a < 4294967296) (h2 : 0 ≤ b) (h3 : b < 4294967296) (w : World) :
  Calls Tryz.prog 48 #[.int .i64 4, .int .u32 a, .int .u32 b] w fun e w' => e = .returned (.tuple #[.int .u32 ((a - b) % 4294967296), .bool true]) ∧ w = w' := by
 have ba := wrap32_bd a
 have bb := wrap32_bd b
 go_enter Tryz.func48, Tryz.ntmps48
 go_wp2_with (first | (go_at_call 61; refine (rsign_any _ (by omega) (by omega) _).mono ?_; rintro e w' ⟨rfl, rfl⟩) | (go_at_call 67; refine (rof_any _ _).mono ?_; rintro e w' ⟨rfl, rfl⟩))
 go_ret2
 exact ⟨rfl, rfl⟩
theorem rdo_5 (a b : Int) (h0 : 0 ≤ a) (h1 : a < 4294967296) (h2 : 0 ≤ b) (h3 : b < 4294967296) (w : World) :
  Calls Tryz.prog 48 #[.int .i64 5, .int .u32 a, .int .u32 b] w fun e w' => e = .returned (.tuple #[.int .u32 (wrap64 (wrap32 a * wrap32 b) % 4294967296), .bool true]) ∧ w = w' := by
 have ba := wrap32_bd a
 have bb := wrap32_bd b
 go_enter Tryz.func48, Tryz.ntmps48
 go_wp2_with (first | (go_at_call 61; refine (rsign_any _ (by omega) (by omega) _).mono ?_; rintro e w' ⟨rfl, rfl⟩) | (go_at_call 67; refine (rof_any _ _).mono ?_; rintro e w' ⟨rfl, rfl⟩))
 go_ret2
 exact ⟨rfl, rfl⟩
theorem mul_bd (x y : Int) (hx : -2147483648 ≤ x ∧ x ≤ 2147483647) (hy : -2147483648 ≤ y ∧ y ≤ 2147483647) : -4611686018427387904 ≤ x * y ∧ x * y ≤ 4611686018427387904 := by
 have h : (x * y).natAbs ≤ 2147483648 * 2147483648 := by
  rw [Int.natAbs_mul]; exact Nat.mul_le_mul (by omega) (by omega)
 omega
theorem mul_eq (a b : Int) : wrap64 (wrap32 a * wrap32 b) % 4294967296 = (a * b) % 4294967296 := by
 have h := mul_bd _ _ (wrap32_bd a) (wrap32_bd b)
 rw [wrap64_in' _ (by omega) (by omega), Int.mul_emod, wrap32_mod, wrap32_mod, ← Int.mul_emod]
theorem rdo_6 (a b : Int) (h0 : 0 ≤ a) (h1 : a < 4294967296) (h2 : 0 ≤ b) (h3 : b < 4294967296) (hb : (b == 0) = false) (hw : ¬ wrap32 b = 0) (w : World) :
  Calls Tryz.prog 48 #[.int .i64 6, .int .u32 a, .int .u32 b] w fun e w' => e = .returned (.tuple #[.int .u32 (wrap64 ((wrap32 a).tdiv (wrap32 b)) % 4294967296), .bool true]) ∧ w = w' := by
 have ba := wrap32_bd a
 have bb := wrap32_bd b
 go_enter Tryz.func48, Tryz.ntmps48
 go_wp2_with (first | (go_at_call 61; refine (rsign_any _ (by omega) (by omega) _).mono ?_; rintro e w' ⟨rfl, rfl⟩) | (go_at_call 67; refine (rof_any _ _).mono ?_; rintro e w' ⟨rfl, rfl⟩))
 go_ret2
 exact ⟨rfl, rfl⟩
theorem rdo_6z (a : Int) (h0 : 0 ≤ a) (h1 : a < 4294967296) (w : World) :
  Calls Tryz.prog 48 #[.int .i64 6, .int .u32 a, .int .u32 0] w fun e w' => e = .returned (.tuple #[.int .u32 0, .bool false]) ∧ w = w' := by
 have ba := wrap32_bd a
 go_enter Tryz.func48, Tryz.ntmps48
 go_wp2_with (first | (go_at_call 61; refine (rsign_any _ (by omega) (by omega) _).mono ?_; rintro e w' ⟨rfl, rfl⟩))
 go_ret2
 exact ⟨rfl, rfl⟩
theorem rdo_7 (a b : Int) (h0 : 0 ≤ a) (h1 : a < 4294967296) (h2 : 0 ≤ b) (h3 : b < 4294967296) (hb : (b == 0) = false) (hw : ¬ wrap32 b = 0) (w : World) :
  Calls Tryz.prog 48 #[.int .i64 7, .int .u32 a, .int .u32 b] w fun e w' => e = .returned (.tuple #[.int .u32 (wrap64 (wrap32 a - wrap64 (wrap64 ((wrap32 a).tdiv (wrap32 b)) * wrap32 b)) % 4294967296), .bool true]) ∧ w = w' := by
 have ba := wrap32_bd a
 have bb := wrap32_bd b
 go_enter Tryz.func48, Tryz.ntmps48
 go_wp2_with (first | (go_at_call 61; refine (rsign_any _ (by omega) (by omega) _).mono ?_; rintro e w' ⟨rfl, rfl⟩) | (go_at_call 67; refine (rof_any _ _).mono ?_; rintro e w' ⟨rfl, rfl⟩))
 go_ret2
 exact ⟨rfl, rfl⟩
theorem rdo_7z (a : Int) (h0 : 0 ≤ a) (h1 : a < 4294967296) (w : World) :
  Calls Tryz.prog 48 #[.int .i64 7, .int .u32 a, .int .u32 0] w fun e w' => e = .returned (.tuple #[.int .u32 0, .bool false]) ∧ w = w' := by
 have ba := wrap32_bd a
 go_enter Tryz.func48, Tryz.ntmps48
 go_wp2_with (first | (go_at_call 61; refine (rsign_any _ (by omega) (by omega) _).mono ?_; rintro e w' ⟨rfl, rfl⟩))
 go_ret2
 exact ⟨rfl, rfl⟩
theorem rdo_8 (x y : Nat) (hx : x < 4294967296) (hy : y < 4294967296) (w : World) :
  Calls Tryz.prog 48 #[.int .i64 8, .int .u32 x, .int .u32 y] w fun e w' => e = .returned (.tuple #[.int .u32 ((x &&& y : Nat) : Int), .bool true]) ∧ w = w' := by
 go_enter Tryz.func48, Tryz.ntmps48
 go_wp2_with (first | (go_at_call 61; refine (rsign_any _ (by omega) (by omega) _).mono ?_; rintro e w' ⟨rfl, rfl⟩) | (go_at_call 68; refine (rbits_8 x y hx hy _).mono ?_; rintro e w' ⟨rfl, rfl⟩))
 go_ret2
 exact ⟨rfl, rfl⟩
theorem rdo_9 (x y : Nat) (hx : x < 4294967296) (hy : y < 4294967296) (w : World) :
  Calls Tryz.prog 48 #[.int .i64 9, .int .u32 x, .int .u32 y] w fun e w' => e = .returned (.tuple #[.int .u32 ((x ||| y : Nat) : Int), .bool true]) ∧ w = w' := by
 go_enter Tryz.func48, Tryz.ntmps48
 go_wp2_with (first | (go_at_call 61; refine (rsign_any _ (by omega) (by omega) _).mono ?_; rintro e w' ⟨rfl, rfl⟩) | (go_at_call 68; refine (rbits_9 x y hx hy _).mono ?_; rintro e w' ⟨rfl, rfl⟩))
 go_ret2
 exact ⟨rfl, rfl⟩
theorem rdo_10 (x y : Nat) (hx : x < 4294967296) (hy : y < 4294967296) (w : World) :
  Calls Tryz.prog 48 #[.int .i64 10, .int .u32 x, .int .u32 y] w fun e w' => e = .returned (.tuple #[.int .u32 ((x ^^^ y : Nat) : Int), .bool true]) ∧ w = w' := by
 go_enter Tryz.func48, Tryz.ntmps48
 go_wp2_with (first | (go_at_call 61; refine (rsign_any _ (by omega) (by omega) _).mono ?_; rintro e w' ⟨rfl, rfl⟩) | (go_at_call 68; refine (rbits_10 x y hx hy _).mono ?_; rintro e w' ⟨rfl, rfl⟩))
 go_ret2
 exact ⟨rfl, rfl⟩
theorem rdo_13y (a b : Int) (h0 : 0 ≤ a) (h1 : a < 4294967296) (h2 : 0 ≤ b) (h3 : b < 4294967296) (hl : wrap32 a < wrap32 b) (w : World) :
  Calls Tryz.prog 48 #[.int .i64 13, .int .u32 a, .int .u32 b] w fun e w' => e = .returned (.tuple #[.int .u32 (1), .bool true]) ∧ w = w' := by
 have ba := wrap32_bd a
 have bb := wrap32_bd b
 go_enter Tryz.func48, Tryz.ntmps48
 go_wp2_with (first | (go_at_call 61; refine (rsign_any _ (by omega) (by omega) _).mono ?_; rintro e w' ⟨rfl, rfl⟩) | (go_at_call 67; refine (rof_any _ _).mono ?_; rintro e w' ⟨rfl, rfl⟩))
 go_ret2
 exact ⟨rfl, rfl⟩
theorem rdo_13n (a b : Int) (h0 : 0 ≤ a) (h1 : a < 4294967296) (h2 : 0 ≤ b) (h3 : b < 4294967296) (hl : wrap32 b ≤ wrap32 a) (w : World) :
  Calls Tryz.prog 48 #[.int .i64 13, .int .u32 a, .int .u32 b] w fun e w' => e = .returned (.tuple #[.int .u32 (0), .bool true]) ∧ w = w' := by
 have ba := wrap32_bd a
 have bb := wrap32_bd b
 go_enter Tryz.func48, Tryz.ntmps48
 go_wp2_with (first | (go_at_call 61; refine (rsign_any _ (by omega) (by omega) _).mono ?_; rintro e w' ⟨rfl, rfl⟩) | (go_at_call 67; refine (rof_any _ _).mono ?_; rintro e w' ⟨rfl, rfl⟩))
 go_ret2
 exact ⟨rfl, rfl⟩
theorem rdo_14n (a b : Int) (h0 : 0 ≤ a) (h1 : a < 4294967296) (h2 : 0 ≤ b) (h3 : b < 4294967296) (hl : (a == b) = false) (w : World) :
  Calls Tryz.prog 48 #[.int .i64 14, .int .u32 a, .int .u32 b] w fun e w' => e = .returned (.tuple #[.int .u32 (0), .bool true]) ∧ w = w' := by
 have ba := wrap32_bd a
 have bb := wrap32_bd b
 go_enter Tryz.func48, Tryz.ntmps48
 go_wp2_with (first | (go_at_call 61; refine (rsign_any _ (by omega) (by omega) _).mono ?_; rintro e w' ⟨rfl, rfl⟩) | (go_at_call 67; refine (rof_any _ _).mono ?_; rintro e w' ⟨rfl, rfl⟩))
 go_ret2
 exact ⟨rfl, rfl⟩
theorem rdo_14y (a : Int) (h0 : 0 ≤ a) (h1 : a < 4294967296) (w : World) :
  Calls Tryz.prog 48 #[.int .i64 14, .int .u32 a, .int .u32 a] w fun e w' => e = .returned (.tuple #[.int .u32 1, .bool true]) ∧ w = w' := by
 go_enter Tryz.func48, Tryz.ntmps48
 go_wp2_with (first | (go_at_call 61; refine (rsign_any _ (by omega) (by omega) _).mono ?_; rintro e w' ⟨rfl, rfl⟩))
 go_ret2
 exact ⟨rfl, rfl⟩
theorem rdo_none (op a b : Int) (h0 : 0 ≤ a) (h1 : a < 4294967296) (h2 : 0 ≤ b) (h3 : b < 4294967296) (h : op < 3 ∨ 14 < op) (w : World) :
    Calls Tryz.prog 48 #[.int .i64 op, .int .u32 a, .int .u32 b] w fun e w' => e = .returned (.tuple #[.int .u32 0, .bool false]) ∧ w = w' := by
  have e3 : (op == 3) = false := by rw [beq_eq_false_iff_ne]; omega
  have e4 : (op == 4) = false := by rw [beq_eq_false_iff_ne]; omega
  have e5 : (op == 5) = false := by rw [beq_eq_false_iff_ne]; omega
  have e6 : (op == 6) = false := by rw [beq_eq_false_iff_ne]; omega
  have e7 : (op == 7) = false := by rw [beq_eq_false_iff_ne]; omega
  have e11 : (op == 11) = false := by rw [beq_eq_false_iff_ne]; omega
  have e12 : (op == 12) = false := by rw [beq_eq_false_iff_ne]; omega
  have e13 : (op == 13) = false := by rw [beq_eq_false_iff_ne]; omega
  have e14 : (op == 14) = false := by rw [beq_eq_false_iff_ne]; omega
  rcases h with h | h
  · have e8 : decide (8 ≤ op) = false := decide_eq_false (by omega)
    go_enter Tryz.func48, Tryz.ntmps48
    go_wp2_with (first | (go_at_call 61; refine (rsign_any _ (by omega) (by omega) _).mono ?_; rintro e w' ⟨rfl, rfl⟩))
    go_ret2
    exact ⟨rfl, rfl⟩
  · have e8 : decide (8 ≤ op) = true := decide_eq_true (by omega)
    have e10 : decide (op ≤ 10) = false := decide_eq_false (by omega)
    go_enter Tryz.func48, Tryz.ntmps48
    go_wp2_with (first | (go_at_call 61; refine (rsign_any _ (by omega) (by omega) _).mono ?_; rintro e w' ⟨rfl, rfl⟩))
    go_ret2
    exact ⟨rfl, rfl⟩
theorem shl_step (x j : Nat) : ((x * 2 ^ j % 4294967296 : Nat) + (x * 2 ^ j % 4294967296 : Nat) : Int) % 4294967296 = ((x * 2 ^ (j + 1) % 4294967296 : Nat) : Int) := by
 have : x * 2 ^ (j + 1) = 2 * (x * 2 ^ j) := by rw [Nat.pow_succ, ← Nat.mul_assoc, Nat.mul_comm]
 rw [this]; omega
theorem rdo_11 (x : Nat) (b : Int) (hx : x < 4294967296) (h2 : 0 ≤ b) (h3 : b < 4294967296) (w : World) :
    Calls Tryz.prog 48 #[.int .i64 11, .int .u32 x, .int .u32 b] w fun e w' => e = .returned (.tuple #[.int .u32 ((x * 2 ^ (b % 32).toNat % 4294967296 : Nat) : Int), .bool true]) ∧ w = w' := by
  go_enter Tryz.func48, Tryz.ntmps48
  go_wp2_with (first | (go_at_call 61; refine (rsign_any _ (by omega) (by omega) _).mono ?_; rintro e w' ⟨rfl, rfl⟩))
  go_loop [10, 11] (fun n i => ∃ j : Nat, j ≤ (b % 32).toNat ∧ i = .int .i64 (j : Int) ∧ n = .int .u32 ((x * 2 ^ j % 4294967296 : Nat) : Int)) (fun _ i => (b % 32).toNat - (intOf i).toNat)
  case atStart => exact ⟨0, Nat.zero_le _, rfl, v_int (by simp; omega)⟩
  case round =>
    obtain ⟨j, hj, rfl, rfl⟩ := hrel
    have H := Lib.hid (shl_step x j)
    have hlt : x * 2 ^ j % 4294967296 < 4294967296 := Nat.mod_lt _ (by decide)
    by_cases hl : j < (b % 32).toNat
    · generalize x * 2 ^ j % 4294967296 = y at *
      go_wp2
      go_round
      case rel => exact ⟨j + 1, by omega, by go_num, v_int H.out⟩
      case measure => simp [intOf]; omega
    · have e : (b % 32).toNat = j := by omega
      have E := Lib.hid e; clear e
      go_wp2
      go_ret2
      exact ⟨ret_ib (by rw [E.out]) rfl, rfl⟩
theorem rdo_12 (x : Nat) (b : Int) (hx : x < 4294967296) (h2 : 0 ≤ b) (h3 : b < 4294967296) (w : World) :
    Calls Tryz.prog 48 #[.int .i64 12, .int .u32 x, .int .u32 b] w fun e w' => e = .returned (.tuple #[.int .u32 ((x / 2 ^ (b % 32).toNat : Nat) : Int), .bool true]) ∧ w = w' := by
  go_enter Tryz.func48, Tryz.ntmps48
  go_wp2_with (first | (go_at_call 61; refine (rsign_any _ (by omega) (by omega) _).mono ?_; rintro e w' ⟨rfl, rfl⟩))
  go_loop [12, 13] (fun n i => ∃ j : Nat, j ≤ (b % 32).toNat ∧ i = .int .i64 (j : Int) ∧ n = .int .u32 ((x / 2 ^ j : Nat) : Int)) (fun _ i => (b % 32).toNat - (intOf i).toNat)
  case atStart => exact ⟨0, Nat.zero_le _, rfl, v_int (by simp)⟩
  case round =>
    obtain ⟨j, hj, rfl, rfl⟩ := hrel
    have H := Lib.hid (half_cast x j)
    have hlt : x / 2 ^ j < 4294967296 := Nat.lt_of_le_of_lt (Nat.div_le_self _ _) hx
    by_cases hl : j < (b % 32).toNat
    · generalize x / 2 ^ j = y at *
      go_wp2
      go_round
      case rel => exact ⟨j + 1, by omega, by go_num, v_int H.out⟩
      case measure => simp [intOf]; omega
    · have e : (b % 32).toNat = j := by omega
      have E := Lib.hid e; clear e
      go_wp2
      go_ret2
      exact ⟨ret_ib (by rw [E.out]) rfl, rfl⟩
theorem mul_bd' (x y : Int) (hx : -2147483648 ≤ x ∧ x ≤ 2147483648) (hy : -2147483648 ≤ y ∧ y ≤ 2147483648) : -4611686018427387904 ≤ x * y ∧ x * y ≤ 4611686018427387904 := by
 have h : (x * y).natAbs ≤ 2147483648 * 2147483648 := by
  rw [Int.natAbs_mul]; exact Nat.mul_le_mul (by omega) (by omega)
 omega
theorem quo_eq (a b : Int) : wrap64 ((wrap32 a).tdiv (wrap32 b)) = (wrap32 a).tdiv (wrap32 b) := by
 have h := tdiv_bd (wrap32 a) (wrap32 b) (wrap32_bd a)
 exact wrap64_in' _ (by omega) (by omega)
theorem left_eq (a b : Int) : wrap64 (wrap32 a - wrap64 (wrap64 ((wrap32 a).tdiv (wrap32 b)) * wrap32 b)) = (wrap32 a).tmod (wrap32 b) := by
 have hq := tdiv_bd (wrap32 a) (wrap32 b) (wrap32_bd a)
 have hA := wrap32_bd a
 have hB := wrap32_bd b
 have hm := mul_bd' ((wrap32 a).tdiv (wrap32 b)) (wrap32 b) hq (by omega)
 have e := Int.tmod_add_mul_tdiv (wrap32 a) (wrap32 b)
 rw [Int.mul_comm] at e
 rw [quo_eq, wrap64_in' ((wrap32 a).tdiv (wrap32 b) * wrap32 b) (by omega) (by omega), wrap64_in' _ (by omega) (by omega)]
 omega
theorem rdo_any (op a b : Int) (h0 : 0 ≤ a) (h1 : a < 4294967296) (h2 : 0 ≤ b) (h3 : b < 4294967296) (w : World) :
    Calls Tryz.prog 48 #[.int .i64 op, .int .u32 a, .int .u32 b] w fun e w' => e = .returned (.tuple #[.int .u32 (doV op a b), .bool (doK op b)]) ∧ w = w' := by
  by_cases hr : op < 3 ∨ 14 < op
  · refine (rdo_none op a b h0 h1 h2 h3 hr w).mono ?_
    rintro e w' ⟨rfl, rfl⟩
    exact ⟨ret_ib (doV_none op a b hr).symm (doK_none op b hr).symm, rfl⟩
  have hop : op = 3 ∨ op = 4 ∨ op = 5 ∨ op = 6 ∨ op = 7 ∨ op = 8 ∨ op = 9 ∨ op = 10 ∨ op = 11 ∨ op = 12 ∨ op = 13 ∨ op = 14 := by omega
  clear hr
  obtain ⟨x, rfl⟩ := Int.eq_ofNat_of_zero_le h0
  obtain ⟨y, rfl⟩ := Int.eq_ofNat_of_zero_le h2
  have hx : x < 4294967296 := by omega
  have hy : y < 4294967296 := by omega
  rcases hop with rfl | rfl | rfl | rfl | rfl | rfl | rfl | rfl | rfl | rfl | rfl | rfl
  · refine (rdo_3 x y h0 h1 h2 h3 w).mono ?_; rintro e w' ⟨rfl, rfl⟩; exact ⟨ret_ib ((doV_e3 _ _).symm) (doK_e _ _ (by omega)).symm, rfl⟩
  · refine (rdo_4 x y h0 h1 h2 h3 w).mono ?_; rintro e w' ⟨rfl, rfl⟩; exact ⟨ret_ib ((doV_e4 _ _).symm) (doK_e _ _ (by omega)).symm, rfl⟩
  · refine (rdo_5 x y h0 h1 h2 h3 w).mono ?_; rintro e w' ⟨rfl, rfl⟩; exact ⟨ret_ib ((mul_eq _ _).trans (doV_e5 _ _).symm) (doK_e _ _ (by omega)).symm, rfl⟩
  · by_cases hb : (y : Int) = 0
    · rw [hb]; refine (rdo_6z x h0 h1 w).mono ?_; rintro e w' ⟨rfl, rfl⟩; exact ⟨ret_ib (doV_e6z _).symm (doK_e6z _ (by omega)).symm, rfl⟩
    · refine (rdo_6 x y h0 h1 h2 h3 (beq_eq_false_iff_ne.2 hb) (fun h => hb ((wrap32_zero y h2 h3).1 h)) w).mono ?_; rintro e w' ⟨rfl, rfl⟩
      exact ⟨ret_ib (by rw [quo_eq, doV_e6 _ _ hb]) (doK_e6 _ _ (by omega) hb).symm, rfl⟩
  · by_cases hb : (y : Int) = 0
    · rw [hb]; refine (rdo_7z x h0 h1 w).mono ?_; rintro e w' ⟨rfl, rfl⟩; exact ⟨ret_ib (doV_e7z _).symm (doK_e6z _ (by omega)).symm, rfl⟩
    · refine (rdo_7 x y h0 h1 h2 h3 (beq_eq_false_iff_ne.2 hb) (fun h => hb ((wrap32_zero y h2 h3).1 h)) w).mono ?_; rintro e w' ⟨rfl, rfl⟩
      exact ⟨ret_ib (by rw [left_eq, doV_e7 _ _ hb]) (doK_e6 _ _ (by omega) hb).symm, rfl⟩
  · refine (rdo_8 x y hx hy w).mono ?_; rintro e w' ⟨rfl, rfl⟩; exact ⟨ret_ib (by rw [doV_e8, Int.toNat_natCast, Int.toNat_natCast]) (doK_e _ _ (by omega)).symm, rfl⟩
  · refine (rdo_9 x y hx hy w).mono ?_; rintro e w' ⟨rfl, rfl⟩; exact ⟨ret_ib (by rw [doV_e9, Int.toNat_natCast, Int.toNat_natCast]) (doK_e _ _ (by omega)).symm, rfl⟩
  · refine (rdo_10 x y hx hy w).mono ?_; rintro e w' ⟨rfl, rfl⟩; exact ⟨ret_ib (by rw [doV_e10, Int.toNat_natCast, Int.toNat_natCast]) (doK_e _ _ (by omega)).symm, rfl⟩
  · refine (rdo_11 x y hx h2 h3 w).mono ?_; rintro e w' ⟨rfl, rfl⟩; exact ⟨ret_ib (by rw [doV_e11]; simp) (doK_e _ _ (by omega)).symm, rfl⟩
  · refine (rdo_12 x y hx h2 h3 w).mono ?_; rintro e w' ⟨rfl, rfl⟩; exact ⟨ret_ib (by rw [doV_e12]; simp) (doK_e _ _ (by omega)).symm, rfl⟩
  · by_cases hl : wrap32 x < wrap32 y
    · refine (rdo_13y x y h0 h1 h2 h3 hl w).mono ?_; rintro e w' ⟨rfl, rfl⟩; exact ⟨ret_ib (by rw [doV_e13, if_pos hl]) (doK_e _ _ (by omega)).symm, rfl⟩
    · refine (rdo_13n x y h0 h1 h2 h3 (by omega) w).mono ?_; rintro e w' ⟨rfl, rfl⟩; exact ⟨ret_ib (by rw [doV_e13, if_neg hl]) (doK_e _ _ (by omega)).symm, rfl⟩
  · by_cases hl : (x : Int) = y
    · rw [← hl]; refine (rdo_14y x h0 h1 w).mono ?_; rintro e w' ⟨rfl, rfl⟩; exact ⟨ret_ib (by rw [doV_e14, if_pos rfl]) (doK_e _ _ (by omega)).symm, rfl⟩
    · refine (rdo_14n x y h0 h1 h2 h3 (beq_eq_false_iff_ne.2 hl) w).mono ?_; rintro e w' ⟨rfl, rfl⟩; exact ⟨ret_ib (by rw [doV_e14, if_neg hl]) (doK_e _ _ (by omega)).symm, rfl⟩
end Go.Proofs.YtbgnkljeodandaaGreat
