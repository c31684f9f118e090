/- What the calls of the document's own answers for layer 1 come to (Sign, Of, bit, Bits, Do). -/
import Derived.Test.YtbgnkljeodandaaGreatKWordWalks
import Derived.Lib.Hide
namespace Go.Proofs.YtbgnkljeodandaaGreat
open Go.ChangeShapes Go.WideShapes Go.ChangeAt Go.RowKit
set_option linter.unusedVariables false
set_option maxRecDepth 10000

theorem rsign_any (a : Int) (h0 : 0 ≤ a) (h1 : a < 4294967296) (w : World) : Calls Tryz.prog 61 #[.int .u32 a] w fun e w' => e = .returned (.int .i64 (wrap32 a)) ∧ w = w' := by
  by_cases h : 2147483648 ≤ a
  · have e := wrap32_hi a h h1
    have E := Lib.hid e; clear e
    go_enter Tryz.func61, Tryz.ntmps61
    go_wp2
    go_ret
    exact ⟨ret_int E.out.symm, rfl⟩
  · have e := wrap32_lo a h0 (by omega)
    have E := Lib.hid e; clear e
    go_enter Tryz.func61, Tryz.ntmps61
    go_wp2
    go_ret
    exact ⟨ret_int E.out.symm, rfl⟩

theorem tmod_bd (n : Int) : -4294967296 < n.tmod 4294967296 ∧ n.tmod 4294967296 < 4294967296 := by
  constructor
  · exact Int.lt_tmod_of_pos n (by decide)
  · exact Int.tmod_lt_of_pos n (by decide)
theorem tmod_eq (n : Int) : n % 4294967296 = if n.tmod 4294967296 < 0 then n.tmod 4294967296 + 4294967296 else n.tmod 4294967296 := by
  have e := Int.tmod_add_mul_tdiv n 4294967296
  have b := tmod_bd n
  generalize n.tmod 4294967296 = r at *
  generalize n.tdiv 4294967296 = q at *
  by_cases h : r < 0
  · rw [if_pos h]; omega
  · rw [if_neg h]; omega

theorem rof_any (n : Int) (w : World) : Calls Tryz.prog 67 #[.int .i64 n] w fun e w' => e = .returned (.int .u32 (n % 4294967296)) ∧ w = w' := by
  have b := tmod_bd n
  have E := Lib.hid (tmod_eq n)
  by_cases h0 : 0 ≤ n
  · go_enter Tryz.func67, Tryz.ntmps67
    go_wp2
    go_ret
    exact ⟨ret_int (by omega), rfl⟩
  · by_cases h1 : n.tmod 4294967296 < 0
    · go_enter Tryz.func67, Tryz.ntmps67
      go_wp2
      go_ret
      exact ⟨ret_int (by rw [E.out, if_pos h1]), rfl⟩
    · go_enter Tryz.func67, Tryz.ntmps67
      go_wp2
      go_ret
      exact ⟨ret_int (by rw [E.out, if_neg (by omega)]), rfl⟩

theorem half_cast (x j : Nat) : ((x / 2 ^ j : Nat) : Int) / 2 = ((x / 2 ^ (j + 1) : Nat) : Int) := by
  rw [Nat.pow_succ, ← Nat.div_div_eq_div_mul]; simp
theorem v_int {k : IntKind} {a b : Int} (h : a = b) : Value.int k a = .int k b := by rw [h]

theorem rbit_any (x m : Nat) (hx : x < 4294967296) (hm : m < 32) (w : World) : Calls Tryz.prog 84 #[.int .u32 x, .int .i64 m] w fun e w' => e = .returned (.int .i64 ((x / 2 ^ m % 2 : Nat) : Int)) ∧ w = w' := by
  go_enter Tryz.func84, Tryz.ntmps84
  go_wp2
  go_loop [5, 6] (fun n k => ∃ j : Nat, j ≤ m ∧ k = .int .i64 j ∧ n = .int .i64 ((x / 2 ^ j : Nat) : Int)) (fun _ k => m - (intOf k).toNat)
  case atStart => exact ⟨0, Nat.zero_le _, rfl, v_int (by simp)⟩
  case round =>
    obtain ⟨j, hj, rfl, rfl⟩ := hrel
    have H := Lib.hid (half_cast x j)
    have hb : x / 2 ^ j < 4294967296 := Nat.lt_of_le_of_lt (Nat.div_le_self _ _) hx
    by_cases hlt : j < m
    · generalize x / 2 ^ j = y at *
      go_wp2
      go_round
      case rel => exact ⟨j + 1, by omega, by go_num, v_int H.out⟩
      case measure => simp [intOf]; omega
    · obtain rfl : m = j := by omega
      go_wp2
      go_ret
      exact ⟨ret_int (by rfl), rfl⟩

theorem rbit_is (x m : Nat) (v : Int) (hv : ((x / 2 ^ m % 2 : Nat) : Int) = v) (hx : x < 4294967296) (hm : m < 32) (w : World) : Calls Tryz.prog 84 #[.int .u32 x, .int .i64 m] w fun e w' => e = .returned (.int .i64 v) ∧ w = w' := by
  subst hv; exact rbit_any x m hx hm w

/-- one round of Bits: the next bit -/
theorem bits_step (F j : Nat) : ((F / 2 ^ j : Nat) : Int) = 2 * ((F / 2 ^ (j + 1) : Nat) : Int) + ((F / 2 ^ j % 2 : Nat) : Int) := by
  have : F / 2 ^ (j + 1) = F / 2 ^ j / 2 := by rw [Nat.pow_succ, ← Nat.div_div_eq_div_mul]
  rw [this]; omega
theorem and_bit (x y j : Nat) : (x &&& y) / 2 ^ j % 2 = if x / 2 ^ j % 2 = 1 ∧ y / 2 ^ j % 2 = 1 then 1 else 0 := by
  rw [← Nat.toNat_testBit, Nat.testBit_and, Nat.testBit_eq_decide_div_mod_eq, Nat.testBit_eq_decide_div_mod_eq]
  by_cases h1 : x / 2 ^ j % 2 = 1 <;> by_cases h2 : y / 2 ^ j % 2 = 1 <;> simp [h1, h2]
theorem or_bit (x y j : Nat) : (x ||| y) / 2 ^ j % 2 = if x / 2 ^ j % 2 = 1 ∨ y / 2 ^ j % 2 = 1 then 1 else 0 := by
  rw [← Nat.toNat_testBit, Nat.testBit_or, Nat.testBit_eq_decide_div_mod_eq, Nat.testBit_eq_decide_div_mod_eq]
  by_cases h1 : x / 2 ^ j % 2 = 1 <;> by_cases h2 : y / 2 ^ j % 2 = 1 <;> simp [h1, h2]
theorem xor_bit (x y j : Nat) : (x ^^^ y) / 2 ^ j % 2 = if (x / 2 ^ j % 2 = 1) ↔ (y / 2 ^ j % 2 = 1) then 0 else 1 := by
  rw [← Nat.toNat_testBit, Nat.testBit_xor, Nat.testBit_eq_decide_div_mod_eq, Nat.testBit_eq_decide_div_mod_eq]
  by_cases h1 : x / 2 ^ j % 2 = 1 <;> by_cases h2 : y / 2 ^ j % 2 = 1 <;> simp [h1, h2]

theorem rbits_8 (x y : Nat) (hx : x < 4294967296) (hy : y < 4294967296) (w : World) : Calls Tryz.prog 68 #[.int .i64 8, .int .u32 x, .int .u32 y] w fun e w' => e = .returned (.int .u32 ((x &&& y : Nat) : Int)) ∧ w = w' := by
  have hF : (x &&& y) < 2 ^ 32 := Nat.and_lt_two_pow (n := 32) x hy
  have hbit := and_bit x y
  generalize (x &&& y) = F at *
  have HB := Lib.hid hbit; clear hbit
  go_enter Tryz.func68, Tryz.ntmps68
  go_wp2
  go_loop [7, 8] (fun n i => ∃ j : Nat, j ≤ 32 ∧ i = .int .i64 ((j : Int) - 1) ∧ n = .int .i64 ((F / 2 ^ j : Nat) : Int)) (fun _ i => (intOf i + 1).toNat)
  case atStart => exact ⟨32, Nat.le_refl _, rfl, v_int (by rw [Nat.div_eq_of_lt hF]; rfl)⟩
  case round =>
    obtain ⟨j, hj, rfl, rfl⟩ := hrel
    by_cases h0 : j = 0
    · subst h0
      have e : F / 2 ^ 0 = F := by simp
      rw [e]; clear e
      go_wp2
      go_ret
      exact ⟨ret_int (by omega), rfl⟩
    · obtain ⟨i, rfl⟩ : ∃ i, j = i + 1 := ⟨j - 1, by omega⟩
      have e : (((i + 1 : Nat) : Int) - 1) = (i : Int) := by omega
      rw [e]; clear e
      have hst := bits_step F i
      have hbt := HB.out i
      have hlt : F / 2 ^ (i + 1) < 4294967296 := Nat.lt_of_le_of_lt (Nat.div_le_self _ _) hF
      have HS := Lib.hid hst; clear hst
      generalize hG : F / 2 ^ (i + 1) = G at *
      have HG := Lib.hid hG; clear hG
      have hp : x / 2 ^ i % 2 = 0 ∨ x / 2 ^ i % 2 = 1 := by omega
      have hq : y / 2 ^ i % 2 = 0 ∨ y / 2 ^ i % 2 = 1 := by omega
      rcases hp with hp | hp <;> rcases hq with hq | hq
      all_goals
        have bx := rbit_is x i _ (congrArg (fun n : Nat => (n : Int)) hp) hx (by omega)
        have bY := rbit_is y i _ (congrArg (fun n : Nat => (n : Int)) hq) hy (by omega)
        rw [hp, hq] at hbt
        have HT := Lib.hid hbt; clear hbt hp hq
        have BX := Lib.hid bx; clear bx
        have BY := Lib.hid bY; clear bY
        go_wp2_with fail
        refine (BX.out _).mono ?_; rintro e w' ⟨rfl, rfl⟩
        go_wp2_with fail
        refine (BY.out _).mono ?_; rintro e w' ⟨rfl, rfl⟩
        go_wp2_with fail
        go_round
        case rel => exact ⟨i, by omega, rfl, v_int (by rw [HS.out, HT.out]; simp)⟩
        case measure => simp [intOf]

theorem rbits_9 (x y : Nat) (hx : x < 4294967296) (hy : y < 4294967296) (w : World) : Calls Tryz.prog 68 #[.int .i64 9, .int .u32 x, .int .u32 y] w fun e w' => e = .returned (.int .u32 ((x ||| y : Nat) : Int)) ∧ w = w' := by
  have hF : (x ||| y) < 2 ^ 32 := Nat.or_lt_two_pow (n := 32) hx hy
  have hbit := or_bit x y
  generalize (x ||| y) = F at *
  have HB := Lib.hid hbit; clear hbit
  go_enter Tryz.func68, Tryz.ntmps68
  go_wp2
  go_loop [7, 8] (fun n i => ∃ j : Nat, j ≤ 32 ∧ i = .int .i64 ((j : Int) - 1) ∧ n = .int .i64 ((F / 2 ^ j : Nat) : Int)) (fun _ i => (intOf i + 1).toNat)
  case atStart => exact ⟨32, Nat.le_refl _, rfl, v_int (by rw [Nat.div_eq_of_lt hF]; rfl)⟩
  case round =>
    obtain ⟨j, hj, rfl, rfl⟩ := hrel
    by_cases h0 : j = 0
    · subst h0
      have e : F / 2 ^ 0 = F := by simp
      rw [e]; clear e
      go_wp2
      go_ret
      exact ⟨ret_int (by omega), rfl⟩
    · obtain ⟨i, rfl⟩ : ∃ i, j = i + 1 := ⟨j - 1, by omega⟩
      have e : (((i + 1 : Nat) : Int) - 1) = (i : Int) := by omega
      rw [e]; clear e
      have hst := bits_step F i
      have hbt := HB.out i
      have hlt : F / 2 ^ (i + 1) < 4294967296 := Nat.lt_of_le_of_lt (Nat.div_le_self _ _) hF
      have HS := Lib.hid hst; clear hst
      generalize hG : F / 2 ^ (i + 1) = G at *
      have HG := Lib.hid hG; clear hG
      have hp : x / 2 ^ i % 2 = 0 ∨ x / 2 ^ i % 2 = 1 := by omega
      have hq : y / 2 ^ i % 2 = 0 ∨ y / 2 ^ i % 2 = 1 := by omega
      rcases hp with hp | hp <;> rcases hq with hq | hq
      all_goals
        have bx := rbit_is x i _ (congrArg (fun n : Nat => (n : Int)) hp) hx (by omega)
        have bY := rbit_is y i _ (congrArg (fun n : Nat => (n : Int)) hq) hy (by omega)
        rw [hp, hq] at hbt
        have HT := Lib.hid hbt; clear hbt hp hq
        have BX := Lib.hid bx; clear bx
        have BY := Lib.hid bY; clear bY
        go_wp2_with fail
        refine (BX.out _).mono ?_; rintro e w' ⟨rfl, rfl⟩
        go_wp2_with fail
        refine (BY.out _).mono ?_; rintro e w' ⟨rfl, rfl⟩
        go_wp2_with fail
        go_round
        case rel => exact ⟨i, by omega, rfl, v_int (by rw [HS.out, HT.out]; simp)⟩
        case measure => simp [intOf]

theorem rbits_10 (x y : Nat) (hx : x < 4294967296) (hy : y < 4294967296) (w : World) : Calls Tryz.prog 68 #[.int .i64 10, .int .u32 x, .int .u32 y] w fun e w' => e = .returned (.int .u32 ((x ^^^ y : Nat) : Int)) ∧ w = w' := by
  have hF : (x ^^^ y) < 2 ^ 32 := Nat.xor_lt_two_pow (n := 32) hx hy
  have hbit := xor_bit x y
  generalize (x ^^^ y) = F at *
  have HB := Lib.hid hbit; clear hbit
  go_enter Tryz.func68, Tryz.ntmps68
  go_wp2
  go_loop [7, 8] (fun n i => ∃ j : Nat, j ≤ 32 ∧ i = .int .i64 ((j : Int) - 1) ∧ n = .int .i64 ((F / 2 ^ j : Nat) : Int)) (fun _ i => (intOf i + 1).toNat)
  case atStart => exact ⟨32, Nat.le_refl _, rfl, v_int (by rw [Nat.div_eq_of_lt hF]; rfl)⟩
  case round =>
    obtain ⟨j, hj, rfl, rfl⟩ := hrel
    by_cases h0 : j = 0
    · subst h0
      have e : F / 2 ^ 0 = F := by simp
      rw [e]; clear e
      go_wp2
      go_ret
      exact ⟨ret_int (by omega), rfl⟩
    · obtain ⟨i, rfl⟩ : ∃ i, j = i + 1 := ⟨j - 1, by omega⟩
      have e : (((i + 1 : Nat) : Int) - 1) = (i : Int) := by omega
      rw [e]; clear e
      have hst := bits_step F i
      have hbt := HB.out i
      have hlt : F / 2 ^ (i + 1) < 4294967296 := Nat.lt_of_le_of_lt (Nat.div_le_self _ _) hF
      have HS := Lib.hid hst; clear hst
      generalize hG : F / 2 ^ (i + 1) = G at *
      have HG := Lib.hid hG; clear hG
      have hp : x / 2 ^ i % 2 = 0 ∨ x / 2 ^ i % 2 = 1 := by omega
      have hq : y / 2 ^ i % 2 = 0 ∨ y / 2 ^ i % 2 = 1 := by omega
      rcases hp with hp | hp <;> rcases hq with hq | hq
      all_goals
        have bx := rbit_is x i _ (congrArg (fun n : Nat => (n : Int)) hp) hx (by omega)
        have bY := rbit_is y i _ (congrArg (fun n : Nat => (n : Int)) hq) hy (by omega)
        rw [hp, hq] at hbt
        have HT := Lib.hid hbt; clear hbt hp hq
        have BX := Lib.hid bx; clear bx
        have BY := Lib.hid bY; clear bY
        go_wp2_with fail
        refine (BX.out _).mono ?_; rintro e w' ⟨rfl, rfl⟩
        go_wp2_with fail
        refine (BY.out _).mono ?_; rintro e w' ⟨rfl, rfl⟩
        go_wp2_with fail
        go_round
        case rel => exact ⟨i, by omega, rfl, v_int (by rw [HS.out, HT.out]; simp)⟩
        case measure => simp [intOf]

theorem rdo_3 (a b : Int) (h0 : 0 ≤ a) (h1 : a < 4294967296) (h2 : 0 ≤ b) (h3 : b < 4294967296) (w : World) :
    Calls Tryz.prog 48 #[.int .i64 3, .int .u32 a, .int .u32 b] w fun e w' => e = .returned (.tuple #[.int .u32 ((a + b) % 4294967296), .bool true]) ∧ w = w' := by
  have ba := wrap32_bd a
  have bb := wrap32_bd b
  go_enter Tryz.func48, Tryz.ntmps48
  go_wp2_with (first | (go_at_call 61; refine (rsign_any _ (by omega) (by omega) _).mono ?_; rintro e w' ⟨rfl, rfl⟩) | (go_at_call 67; refine (rof_any _ _).mono ?_; rintro e w' ⟨rfl, rfl⟩))
  go_ret2
  exact ⟨rfl, rfl⟩

theorem rdo_4 (a b : Int) (h0 : 0 ≤ a) (h1 : a < 4294967296) (h2 : 0 ≤ b) (h3 : b < 4294967296) (w : World) :
    Calls Tryz.prog 48 #[.int .i64 4, .int .u32 a, .int .u32 b] w fun e w' => e = .returned (.tuple #[.int .u32 ((a - b) % 4294967296), .bool true]) ∧ w = w' := by
  have ba := wrap32_bd a
  have bb := wrap32_bd b
  go_enter Tryz.func48, Tryz.ntmps48
  go_wp2_with (first | (go_at_call 61; refine (rsign_any _ (by omega) (by omega) _).mono ?_; rintro e w' ⟨rfl, rfl⟩) | (go_at_call 67; refine (rof_any _ _).mono ?_; rintro e w' ⟨rfl, rfl⟩))
  go_ret2
  exact ⟨rfl, rfl⟩

theorem rdo_5 (a b : Int) (h0 : 0 ≤ a) (h1 : a < 4294967296) (h2 : 0 ≤ b) (h3 : b < 4294967296) (w : World) :
    Calls Tryz.prog 48 #[.int .i64 5, .int .u32 a, .int .u32 b] w fun e w' => e = .returned (.tuple #[.int .u32 (wrap64 (wrap32 a * wrap32 b) % 4294967296), .bool true]) ∧ w = w' := by
  have ba := wrap32_bd a
  have bb := wrap32_bd b
  go_enter Tryz.func48, Tryz.ntmps48
  go_wp2_with (first | (go_at_call 61; refine (rsign_any _ (by omega) (by omega) _).mono ?_; rintro e w' ⟨rfl, rfl⟩) | (go_at_call 67; refine (rof_any _ _).mono ?_; rintro e w' ⟨rfl, rfl⟩))
  go_ret2
  exact ⟨rfl, rfl⟩

theorem mul_bd (x y : Int) (hx : -2147483648 ≤ x ∧ x ≤ 2147483647) (hy : -2147483648 ≤ y ∧ y ≤ 2147483647) : -4611686018427387904 ≤ x * y ∧ x * y ≤ 4611686018427387904 := by
  have h : (x * y).natAbs ≤ 2147483648 * 2147483648 := by
    rw [Int.natAbs_mul]; exact Nat.mul_le_mul (by omega) (by omega)
  omega
theorem mul_eq (a b : Int) : wrap64 (wrap32 a * wrap32 b) % 4294967296 = (a * b) % 4294967296 := by
  have h := mul_bd _ _ (wrap32_bd a) (wrap32_bd b)
  rw [wrap64_in' _ (by omega) (by omega), Int.mul_emod, wrap32_mod, wrap32_mod, ← Int.mul_emod]

theorem rdo_6 (a b : Int) (h0 : 0 ≤ a) (h1 : a < 4294967296) (h2 : 0 ≤ b) (h3 : b < 4294967296) (hb : (b == 0) = false) (hw : ¬ wrap32 b = 0) (w : World) :
    Calls Tryz.prog 48 #[.int .i64 6, .int .u32 a, .int .u32 b] w fun e w' => e = .returned (.tuple #[.int .u32 (wrap64 ((wrap32 a).tdiv (wrap32 b)) % 4294967296), .bool true]) ∧ w = w' := by
  have ba := wrap32_bd a
  have bb := wrap32_bd b
  go_enter Tryz.func48, Tryz.ntmps48
  go_wp2_with (first | (go_at_call 61; refine (rsign_any _ (by omega) (by omega) _).mono ?_; rintro e w' ⟨rfl, rfl⟩) | (go_at_call 67; refine (rof_any _ _).mono ?_; rintro e w' ⟨rfl, rfl⟩))
  go_ret2
  exact ⟨rfl, rfl⟩

theorem rdo_6z (a : Int) (h0 : 0 ≤ a) (h1 : a < 4294967296) (w : World) :
    Calls Tryz.prog 48 #[.int .i64 6, .int .u32 a, .int .u32 0] w fun e w' => e = .returned (.tuple #[.int .u32 0, .bool false]) ∧ w = w' := by
  have ba := wrap32_bd a
  go_enter Tryz.func48, Tryz.ntmps48
  go_wp2_with (first | (go_at_call 61; refine (rsign_any _ (by omega) (by omega) _).mono ?_; rintro e w' ⟨rfl, rfl⟩))
  go_ret2
  exact ⟨rfl, rfl⟩

theorem rdo_7 (a b : Int) (h0 : 0 ≤ a) (h1 : a < 4294967296) (h2 : 0 ≤ b) (h3 : b < 4294967296) (hb : (b == 0) = false) (hw : ¬ wrap32 b = 0) (w : World) :
    Calls Tryz.prog 48 #[.int .i64 7, .int .u32 a, .int .u32 b] w fun e w' => e = .returned (.tuple #[.int .u32 (wrap64 (wrap32 a - wrap64 (wrap64 ((wrap32 a).tdiv (wrap32 b)) * wrap32 b)) % 4294967296), .bool true]) ∧ w = w' := by
  have ba := wrap32_bd a
  have bb := wrap32_bd b
  go_enter Tryz.func48, Tryz.ntmps48
  go_wp2_with (first | (go_at_call 61; refine (rsign_any _ (by omega) (by omega) _).mono ?_; rintro e w' ⟨rfl, rfl⟩) | (go_at_call 67; refine (rof_any _ _).mono ?_; rintro e w' ⟨rfl, rfl⟩))
  go_ret2
  exact ⟨rfl, rfl⟩

theorem rdo_7z (a : Int) (h0 : 0 ≤ a) (h1 : a < 4294967296) (w : World) :
    Calls Tryz.prog 48 #[.int .i64 7, .int .u32 a, .int .u32 0] w fun e w' => e = .returned (.tuple #[.int .u32 0, .bool false]) ∧ w = w' := by
  have ba := wrap32_bd a
  go_enter Tryz.func48, Tryz.ntmps48
  go_wp2_with (first | (go_at_call 61; refine (rsign_any _ (by omega) (by omega) _).mono ?_; rintro e w' ⟨rfl, rfl⟩))
  go_ret2
  exact ⟨rfl, rfl⟩

theorem rdo_8 (x y : Nat) (hx : x < 4294967296) (hy : y < 4294967296) (w : World) :
    Calls Tryz.prog 48 #[.int .i64 8, .int .u32 x, .int .u32 y] w fun e w' => e = .returned (.tuple #[.int .u32 ((x &&& y : Nat) : Int), .bool true]) ∧ w = w' := by
  go_enter Tryz.func48, Tryz.ntmps48
  go_wp2_with (first | (go_at_call 61; refine (rsign_any _ (by omega) (by omega) _).mono ?_; rintro e w' ⟨rfl, rfl⟩) | (go_at_call 68; refine (rbits_8 x y hx hy _).mono ?_; rintro e w' ⟨rfl, rfl⟩))
  go_ret2
  exact ⟨rfl, rfl⟩

theorem rdo_9 (x y : Nat) (hx : x < 4294967296) (hy : y < 4294967296) (w : World) :
    Calls Tryz.prog 48 #[.int .i64 9, .int .u32 x, .int .u32 y] w fun e w' => e = .returned (.tuple #[.int .u32 ((x ||| y : Nat) : Int), .bool true]) ∧ w = w' := by
  go_enter Tryz.func48, Tryz.ntmps48
  go_wp2_with (first | (go_at_call 61; refine (rsign_any _ (by omega) (by omega) _).mono ?_; rintro e w' ⟨rfl, rfl⟩) | (go_at_call 68; refine (rbits_9 x y hx hy _).mono ?_; rintro e w' ⟨rfl, rfl⟩))
  go_ret2
  exact ⟨rfl, rfl⟩

theorem rdo_10 (x y : Nat) (hx : x < 4294967296) (hy : y < 4294967296) (w : World) :
    Calls Tryz.prog 48 #[.int .i64 10, .int .u32 x, .int .u32 y] w fun e w' => e = .returned (.tuple #[.int .u32 ((x ^^^ y : Nat) : Int), .bool true]) ∧ w = w' := by
  go_enter Tryz.func48, Tryz.ntmps48
  go_wp2_with (first | (go_at_call 61; refine (rsign_any _ (by omega) (by omega) _).mono ?_; rintro e w' ⟨rfl, rfl⟩) | (go_at_call 68; refine (rbits_10 x y hx hy _).mono ?_; rintro e w' ⟨rfl, rfl⟩))
  go_ret2
  exact ⟨rfl, rfl⟩

theorem rdo_13y (a b : Int) (h0 : 0 ≤ a) (h1 : a < 4294967296) (h2 : 0 ≤ b) (h3 : b < 4294967296) (hl : wrap32 a < wrap32 b) (w : World) :
    Calls Tryz.prog 48 #[.int .i64 13, .int .u32 a, .int .u32 b] w fun e w' => e = .returned (.tuple #[.int .u32 (1), .bool true]) ∧ w = w' := by
  have ba := wrap32_bd a
  have bb := wrap32_bd b
  go_enter Tryz.func48, Tryz.ntmps48
  go_wp2_with (first | (go_at_call 61; refine (rsign_any _ (by omega) (by omega) _).mono ?_; rintro e w' ⟨rfl, rfl⟩) | (go_at_call 67; refine (rof_any _ _).mono ?_; rintro e w' ⟨rfl, rfl⟩))
  go_ret2
  exact ⟨rfl, rfl⟩

theorem rdo_13n (a b : Int) (h0 : 0 ≤ a) (h1 : a < 4294967296) (h2 : 0 ≤ b) (h3 : b < 4294967296) (hl : wrap32 b ≤ wrap32 a) (w : World) :
    Calls Tryz.prog 48 #[.int .i64 13, .int .u32 a, .int .u32 b] w fun e w' => e = .returned (.tuple #[.int .u32 (0), .bool true]) ∧ w = w' := by
  have ba := wrap32_bd a
  have bb := wrap32_bd b
  go_enter Tryz.func48, Tryz.ntmps48
  go_wp2_with (first | (go_at_call 61; refine (rsign_any _ (by omega) (by omega) _).mono ?_; rintro e w' ⟨rfl, rfl⟩) | (go_at_call 67; refine (rof_any _ _).mono ?_; rintro e w' ⟨rfl, rfl⟩))
  go_ret2
  exact ⟨rfl, rfl⟩

theorem rdo_14n (a b : Int) (h0 : 0 ≤ a) (h1 : a < 4294967296) (h2 : 0 ≤ b) (h3 : b < 4294967296) (hl : (a == b) = false) (w : World) :
    Calls Tryz.prog 48 #[.int .i64 14, .int .u32 a, .int .u32 b] w fun e w' => e = .returned (.tuple #[.int .u32 (0), .bool true]) ∧ w = w' := by
  have ba := wrap32_bd a
  have bb := wrap32_bd b
  go_enter Tryz.func48, Tryz.ntmps48
  go_wp2_with (first | (go_at_call 61; refine (rsign_any _ (by omega) (by omega) _).mono ?_; rintro e w' ⟨rfl, rfl⟩) | (go_at_call 67; refine (rof_any _ _).mono ?_; rintro e w' ⟨rfl, rfl⟩))
  go_ret2
  exact ⟨rfl, rfl⟩

theorem rdo_14y (a : Int) (h0 : 0 ≤ a) (h1 : a < 4294967296) (w : World) :
    Calls Tryz.prog 48 #[.int .i64 14, .int .u32 a, .int .u32 a] w fun e w' => e = .returned (.tuple #[.int .u32 1, .bool true]) ∧ w = w' := by
  go_enter Tryz.func48, Tryz.ntmps48
  go_wp2_with (first | (go_at_call 61; refine (rsign_any _ (by omega) (by omega) _).mono ?_; rintro e w' ⟨rfl, rfl⟩))
  go_ret2
  exact ⟨rfl, rfl⟩
theorem rdo_none (op a b : Int) (h0 : 0 ≤ a) (h1 : a < 4294967296) (h2 : 0 ≤ b) (h3 : b < 4294967296) (h : op < 3 ∨ 14 < op) (w : World) :
    Calls Tryz.prog 48 #[.int .i64 op, .int .u32 a, .int .u32 b] w fun e w' => e = .returned (.tuple #[.int .u32 0, .bool false]) ∧ w = w' := by
  have e3 : (op == 3) = false := by rw [beq_eq_false_iff_ne]; omega
  have e4 : (op == 4) = false := by rw [beq_eq_false_iff_ne]; omega
  have e5 : (op == 5) = false := by rw [beq_eq_false_iff_ne]; omega
  have e6 : (op == 6) = false := by rw [beq_eq_false_iff_ne]; omega
  have e7 : (op == 7) = false := by rw [beq_eq_false_iff_ne]; omega
  have e11 : (op == 11) = false := by rw [beq_eq_false_iff_ne]; omega
  have e12 : (op == 12) = false := by rw [beq_eq_false_iff_ne]; omega
  have e13 : (op == 13) = false := by rw [beq_eq_false_iff_ne]; omega
  have e14 : (op == 14) = false := by rw [beq_eq_false_iff_ne]; omega
  rcases h with h | h
  · have e8 : decide (8 ≤ op) = false := decide_eq_false (by omega)
    go_enter Tryz.func48, Tryz.ntmps48
    go_wp2_with (first | (go_at_call 61; refine (rsign_any _ (by omega) (by omega) _).mono ?_; rintro e w' ⟨rfl, rfl⟩))
    go_ret2
    exact ⟨rfl, rfl⟩
  · have e8 : decide (8 ≤ op) = true := decide_eq_true (by omega)
    have e10 : decide (op ≤ 10) = false := decide_eq_false (by omega)
    go_enter Tryz.func48, Tryz.ntmps48
    go_wp2_with (first | (go_at_call 61; refine (rsign_any _ (by omega) (by omega) _).mono ?_; rintro e w' ⟨rfl, rfl⟩))
    go_ret2
    exact ⟨rfl, rfl⟩


theorem shl_step (x j : Nat) : ((x * 2 ^ j % 4294967296 : Nat) + (x * 2 ^ j % 4294967296 : Nat) : Int) % 4294967296 = ((x * 2 ^ (j + 1) % 4294967296 : Nat) : Int) := by
  have : x * 2 ^ (j + 1) = 2 * (x * 2 ^ j) := by rw [Nat.pow_succ, ← Nat.mul_assoc, Nat.mul_comm]
  rw [this]; omega
theorem rdo_11 (x : Nat) (b : Int) (hx : x < 4294967296) (h2 : 0 ≤ b) (h3 : b < 4294967296) (w : World) :
    Calls Tryz.prog 48 #[.int .i64 11, .int .u32 x, .int .u32 b] w fun e w' => e = .returned (.tuple #[.int .u32 ((x * 2 ^ (b % 32).toNat % 4294967296 : Nat) : Int), .bool true]) ∧ w = w' := by
  go_enter Tryz.func48, Tryz.ntmps48
  go_wp2_with (first | (go_at_call 61; refine (rsign_any _ (by omega) (by omega) _).mono ?_; rintro e w' ⟨rfl, rfl⟩))
  go_loop [10, 11] (fun n i => ∃ j : Nat, j ≤ (b % 32).toNat ∧ i = .int .i64 (j : Int) ∧ n = .int .u32 ((x * 2 ^ j % 4294967296 : Nat) : Int)) (fun _ i => (b % 32).toNat - (intOf i).toNat)
  case atStart => exact ⟨0, Nat.zero_le _, rfl, v_int (by simp; omega)⟩
  case round =>
    obtain ⟨j, hj, rfl, rfl⟩ := hrel
    have H := Lib.hid (shl_step x j)
    have hlt : x * 2 ^ j % 4294967296 < 4294967296 := Nat.mod_lt _ (by decide)
    by_cases hl : j < (b % 32).toNat
    · generalize x * 2 ^ j % 4294967296 = y at *
      go_wp2
      go_round
      case rel => exact ⟨j + 1, by omega, by go_num, v_int H.out⟩
      case measure => simp [intOf]; omega
    · have e : (b % 32).toNat = j := by omega
      have E := Lib.hid e; clear e
      go_wp2
      go_ret2
      exact ⟨ret_ib (by rw [E.out]) rfl, rfl⟩
theorem rdo_12 (x : Nat) (b : Int) (hx : x < 4294967296) (h2 : 0 ≤ b) (h3 : b < 4294967296) (w : World) :
    Calls Tryz.prog 48 #[.int .i64 12, .int .u32 x, .int .u32 b] w fun e w' => e = .returned (.tuple #[.int .u32 ((x / 2 ^ (b % 32).toNat : Nat) : Int), .bool true]) ∧ w = w' := by
  go_enter Tryz.func48, Tryz.ntmps48
  go_wp2_with (first | (go_at_call 61; refine (rsign_any _ (by omega) (by omega) _).mono ?_; rintro e w' ⟨rfl, rfl⟩))
  go_loop [12, 13] (fun n i => ∃ j : Nat, j ≤ (b % 32).toNat ∧ i = .int .i64 (j : Int) ∧ n = .int .u32 ((x / 2 ^ j : Nat) : Int)) (fun _ i => (b % 32).toNat - (intOf i).toNat)
  case atStart => exact ⟨0, Nat.zero_le _, rfl, v_int (by simp)⟩
  case round =>
    obtain ⟨j, hj, rfl, rfl⟩ := hrel
    have H := Lib.hid (half_cast x j)
    have hlt : x / 2 ^ j < 4294967296 := Nat.lt_of_le_of_lt (Nat.div_le_self _ _) hx
    by_cases hl : j < (b % 32).toNat
    · generalize x / 2 ^ j = y at *
      go_wp2
      go_round
      case rel => exact ⟨j + 1, by omega, by go_num, v_int H.out⟩
      case measure => simp [intOf]; omega
    · have e : (b % 32).toNat = j := by omega
      have E := Lib.hid e; clear e
      go_wp2
      go_ret2
      exact ⟨ret_ib (by rw [E.out]) rfl, rfl⟩
end Go.Proofs.YtbgnkljeodandaaGreat
