/- The document's own machine: which bytes are there, its masks. -/
import Derived.Test.YtjcggpaiminecaaStepMade
namespace Go.Proofs.Ytjcggpaiminecaa.Mm
open Go.ChangeShapes Go.WideShapes Go.ChangeAt Go.RowKit
set_option linter.unusedVariables false

theorem U4_all (i : Nat) : U4.getD i false = decide (i < 192) := by
  by_cases h : i < 256
  · exact U4_get i h
  · rw [decide_eq_false (by omega)]
    simp [List.getD, List.getElem?_eq_none (by rw [U4_len]; omega : U4.length ≤ i)]
theorem allU (a n : Nat) (hn : 1 ≤ n) : allB U4 a n = decide (a + n ≤ 192) := by
  rw [Bool.eq_iff_iff, allB_iff, decide_eq_true_iff]
  constructor
  · intro h
    have := h (n - 1) (by omega)
    rw [U4_all, decide_eq_true_iff] at this
    omega
  · intro h i hi
    rw [U4_all, decide_eq_true_iff]
    omega
theorem wholeT (a n : Nat) (hn : 1 ≤ n) : wholeB T4 a n = decide (a + n ≤ 192) := by
  by_cases h : a + n ≤ 192
  · rw [T4_yes a n h, decide_eq_true h]
  · rw [decide_eq_false h]
    have : ¬ wholeB T4 a n = true := fun hw => by
      unfold wholeB at hw
      rw [Bool.and_eq_true, thr_iff] at hw
      have := hw.2 (n - 1) (by rw [Int.toNat_natCast]; omega)
      rw [T4_get, decide_eq_true_iff, Int.toNat_natCast] at this
      omega
    simpa using this
theorem fet4 (pc : Nat) : fet T4 pc 6 = min 6 (192 - pc) := by
  have h := fun n (hn : 1 ≤ n) => wholeT pc n hn
  simp only [fet]
  rw [h _ (by omega), h _ (by omega), h _ (by omega), h _ (by omega), h _ (by omega), h _ (by omega)]
  by_cases c6 : pc + 6 ≤ 192
  · rw [decide_eq_true (by omega), if_pos rfl]; omega
  rw [decide_eq_false (by omega), if_neg (by decide)]
  by_cases c5 : pc + 5 ≤ 192
  · rw [decide_eq_true (by omega), if_pos rfl]; omega
  rw [decide_eq_false (by omega), if_neg (by decide)]
  by_cases c4 : pc + 4 ≤ 192
  · rw [decide_eq_true (by omega), if_pos rfl]; omega
  rw [decide_eq_false (by omega), if_neg (by decide)]
  by_cases c3 : pc + 3 ≤ 192
  · rw [decide_eq_true (by omega), if_pos rfl]; omega
  rw [decide_eq_false (by omega), if_neg (by decide)]
  by_cases c2 : pc + 2 ≤ 192
  · rw [decide_eq_true (by omega), if_pos rfl]; omega
  rw [decide_eq_false (by omega), if_neg (by decide)]
  by_cases c1 : pc + 1 ≤ 192
  · rw [decide_eq_true (by omega), if_pos rfl]; omega
  rw [decide_eq_false (by omega), if_neg (by decide)]
  omega
theorem code4 (B : List Int) (pc : Nat) : codeL B T4 pc = (B.drop pc).take (min 6 (192 - pc)) := by
  unfold codeL
  rw [fet4, Int.toNat_natCast]

theorem rAll_far (x y : Addr) (N a n cB cU : Nat) (ha : N ≤ a) (ha' : a ≤ 8589934592) (hn : 1 ≤ n) (hn' : n ≤ 65536) (w : World) :
    Calls Try.prog 12 #[.agg #[.slice (some x) N cB, .slice (some y) N cU], .int .i64 a, .int .i64 n] w fun e w' => e = .returned (.bool false) ∧ Below w.heap.size w w' := by
  go_enter Try.func12, Try.ntmps12
  go_wp2_with fail
  go_loop [7] (fun i => i = .int .i64 a) (fun _ => 0)
  case atStart => rfl
  case round =>
    subst hrel
    go_wp2_with fail
    go_ret
    exact ⟨rfl, bel_al (Below.refl _ _) _⟩
theorem all4 (x : Addr) (yb a n cB cU : Nat) (ha' : a ≤ 8589934592) (hn : 1 ≤ n) (hn' : n ≤ 65536) (w : World) (hb : BlAt w (some ⟨yb, 0, none⟩) cU U4) :
    Calls Try.prog 12 #[.agg #[.slice (some x) 256 cB, .slice (some ⟨yb, 0, none⟩) 256 cU], .int .i64 a, .int .i64 n] w fun e w' => e = .returned (.bool (decide (a + n ≤ 192))) ∧ Below w.heap.size w w' := by
  by_cases h : a ≤ 65536
  · rw [← allU a n hn]
    exact rAll_any x ⟨yb, 0, none⟩ 256 a n cB cU U4 U4_len (by decide) h hn' w hb
  · rw [decide_eq_false (by omega)]
    exact rAll_far x ⟨yb, 0, none⟩ 256 a n cB cU (by omega) ha' hn hn' w

theorem rData_any (v0 v1 v2 v3 v4 v5 v6 v7 v8 : Value) (v b s : Int) (hb : 0 ≤ b) (hb' : b < 4294967296) (hs : 0 ≤ s) (hs' : s < 4294967296) (hv : 0 ≤ v) (hv' : v < 4294967296) (w : World) :
    Calls Try.prog 34 #[.agg #[v0, v1, v2, v3, v4, v5, v6, v7, v8, .int .u32 b, .int .u32 s], .int .u32 v] w fun e w' => e = .returned (.int .u32 (dataV b s v)) ∧ Below w.heap.size w w' := by
  have HN := (HasB.new w 54 [v0, v1, v2, v3, v4, v5, v6, v7, v8, .int .u32 b, .int .u32 s])
  have c9 := HN.cell 9
  have c10 := HN.cell 10
  simp only [List.getElem?_cons_succ, List.getElem?_cons_zero] at c9 c10
  clear HN
  by_cases h0 : s / 2 = 0
  · have h0' : (s / 2 == 0) = true := by simp [h0]
    have E := Lib.hid (show dataV b s v = b by unfold dataV restV; rw [if_pos h0, h0]; show ((0 + b) % 4294967296 + 0) % 4294967296 = b; omega)
    go_enter Try.func34, Try.ntmps34
    go_wp2_with fail
    go_ret
    exact ⟨ret_int E.out.symm, bel_al (Below.refl _ _) _⟩
  · have h0' : (s / 2 == 0) = false := by simpa using h0
    have h1 : 0 < s / 2 := by omega
    have E := Lib.hid (show dataV b s v = ((b + s / 2) % 4294967296 + v % (s / 2)) % 4294967296 by
      unfold dataV restV; rw [if_neg h0]
      show ((v % (s / 2) + b) % 4294967296 + s / 2) % 4294967296 = _
      generalize v % (s / 2) = r
      omega)
    go_enter Try.func34, Try.ntmps34
    go_wp2_with fail
    go_quiet (fail)
    go_wp2_with fail
    trace_state
    go_ret
    exact ⟨ret_int E.out.symm, below_drewN (bel_al (Below.refl _ _) _) _⟩
theorem rCode_any (v0 v1 v2 v3 v4 v5 v6 v7 v8 : Value) (v b s : Int) (hb : 0 ≤ b) (hb' : b < 4294967296) (hs : 0 ≤ s) (hs' : s < 4294967296) (hv : 0 ≤ v) (hv' : v < 4294967296) (w : World) :
    Calls Try.prog 35 #[.agg #[v0, v1, v2, v3, v4, v5, v6, v7, v8, .int .u32 b, .int .u32 s], .int .u32 v] w fun e w' => e = .returned (.int .u32 (codeV b s v)) ∧ Below w.heap.size w w' := by
  have HN := (HasB.new w 54 [v0, v1, v2, v3, v4, v5, v6, v7, v8, .int .u32 b, .int .u32 s])
  have c9 := HN.cell 9
  have c10 := HN.cell 10
  simp only [List.getElem?_cons_succ, List.getElem?_cons_zero] at c9 c10
  clear HN
  by_cases h0 : s / 2 = 0
  · have h0' : (s / 2 == 0) = true := by simp [h0]
    have E := Lib.hid (show codeV b s v = b by unfold codeV restV; rw [if_pos h0]; show (0 - 0 % 32 + b) % 4294967296 = b; omega)
    go_enter Try.func35, Try.ntmps35
    go_wp2_with fail
    go_ret
    exact ⟨ret_int E.out.symm, bel_al (Below.refl _ _) _⟩
  · have h0' : (s / 2 == 0) = false := by simpa using h0
    have h1 : 0 < s / 2 := by omega
    have r0 := Int.emod_nonneg v h0
    have r1 := Int.emod_lt_of_pos v h1
    have E := Lib.hid (show codeV b s v = (b + v % (s / 2) / 32 * 32) % 4294967296 by
      unfold codeV restV; rw [if_neg h0]
      show (v % (s / 2) - v % (s / 2) % 32 + b) % 4294967296 = _
      generalize v % (s / 2) = r
      omega)
    go_enter Try.func35, Try.ntmps35
    go_wp2_with fail
    go_quiet (fail)
    go_wp2_with fail
    go_ret
    exact ⟨ret_int E.out.symm, below_drewN (bel_al (Below.refl _ _) _) _⟩
end Go.Proofs.Ytjcggpaiminecaa.Mm
