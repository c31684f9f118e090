/- The document's own step: an instruction is read. -/
import Derived.Test.YtbgnkljeodandaaGreatLBxA
import Derived.Test.YtbgnkljeodandaaGreatLMeR
import Derived.Test.YtbgnkljeodandaaGreatLIsR
namespace Go.Proofs.YtbgnkljeodandaaGreat.Mm
open Go.ChangeShapes Go.WideShapes Go.ChangeAt Go.RowKit
set_option linter.unusedVariables false

def U22 : List Bool := List.replicate 1024 false ++ (List.replicate 1024 true ++ List.replicate 152 false)
def T22 : List Bool := splice (List.replicate 64 false) 16 (List.replicate 16 true)
theorem U22_len : U22.length = 2200 := by unfold U22; simp only [List.length_append, List.length_replicate]
theorem repG (n i : Nat) (b : Bool) : (List.replicate n b).getD i false = (decide (i < n) && b) := by
 by_cases h : i < n
 · rw [decide_eq_true h]; simp [List.getD, h]
 · rw [decide_eq_false h]; simp [List.getD, h]
theorem appG (A B : List Bool) (i : Nat) : (A ++ B).getD i false = if i < A.length then A.getD i false else B.getD (i - A.length) false := by
 split
 · rename_i h; simp only [List.getD, List.getElem?_append_left h]
 · rename_i h; simp only [List.getD, List.getElem?_append_right (Nat.le_of_not_lt h)]
theorem U22_all (i : Nat) : U22.getD i false = decide (1024 ≤ i ∧ i < 2048) := by
  unfold U22
  rw [appG, appG, repG, repG, repG, List.length_replicate, List.length_replicate]
  by_cases h1 : i < 1024
  · rw [if_pos h1, decide_eq_false (by omega : ¬ (1024 ≤ i ∧ i < 2048)), Bool.and_false]
  · rw [if_neg h1]
    by_cases h2 : i < 2048
    · rw [if_pos (by omega), decide_eq_true (by omega : 1024 ≤ i ∧ i < 2048), decide_eq_true (by omega)]; rfl
    · rw [if_neg (by omega), decide_eq_false (by omega : ¬ (1024 ≤ i ∧ i < 2048)), Bool.and_false]
theorem allU (a n : Nat) (hn : 1 ≤ n) : allB U22 a n = decide (1024 ≤ a ∧ a + n ≤ 2048) := by
  rw [Bool.eq_iff_iff, allB_iff, decide_eq_true_iff]
  constructor
  · intro h
    have h1 := h (n - 1) (by omega)
    have h0 := h 0 (by omega)
    rw [U22_all, decide_eq_true_iff] at h1 h0
    omega
  · intro h i hi
    rw [U22_all, decide_eq_true_iff]
    omega
theorem T22_rg : RgT T22 1024 2048 := rgT_of 64 16 16 (by omega)
theorem wholeT (a n : Nat) (hn : 1 ≤ n) : wholeB T22 a n = decide (1024 ≤ a ∧ a + n ≤ 2048) := by
 rw [T22_rg.wh a n hn]
 congr 1
 apply propext
 omega
def kf22 (pc : Nat) : Nat := if 1024 ≤ pc then min 6 (2048 - pc) else 0
theorem fet22 (pc : Nat) : fet T22 pc 6 = kf22 pc := by
  have h := fun n (hn : 1 ≤ n) => wholeT pc n hn
  unfold kf22
  simp only [fet]
  rw [h _ (by omega), h _ (by omega), h _ (by omega), h _ (by omega), h _ (by omega), h _ (by omega)]
  by_cases c0 : 1024 ≤ pc
  · rw [if_pos c0]
    by_cases c6 : pc + 6 ≤ 2048
    · rw [decide_eq_true (by omega), if_pos rfl]; omega
    rw [decide_eq_false (by omega), if_neg (by decide)]
    by_cases c5 : pc + 5 ≤ 2048
    · rw [decide_eq_true (by omega), if_pos rfl]; omega
    rw [decide_eq_false (by omega), if_neg (by decide)]
    by_cases c4 : pc + 4 ≤ 2048
    · rw [decide_eq_true (by omega), if_pos rfl]; omega
    rw [decide_eq_false (by omega), if_neg (by decide)]
    by_cases c3 : pc + 3 ≤ 2048
    · rw [decide_eq_true (by omega), if_pos rfl]; omega
    rw [decide_eq_false (by omega), if_neg (by decide)]
    by_cases c2 : pc + 2 ≤ 2048
    · rw [decide_eq_true (by omega), if_pos rfl]; omega
    rw [decide_eq_false (by omega), if_neg (by decide)]
    by_cases c1 : pc + 1 ≤ 2048
    · rw [decide_eq_true (by omega), if_pos rfl]; omega
    rw [decide_eq_false (by omega), if_neg (by decide)]
    omega
  · rw [if_neg c0]
    rw [decide_eq_false (by omega), if_neg (by decide), decide_eq_false (by omega), if_neg (by decide), decide_eq_false (by omega), if_neg (by decide), decide_eq_false (by omega), if_neg (by decide), decide_eq_false (by omega), if_neg (by decide), decide_eq_false (by omega), if_neg (by decide)]
theorem code22 (B : List Int) (pc : Nat) : codeL B T22 pc = (B.drop pc).take (kf22 pc) := by
 unfold codeL
 rw [fet22, Int.toNat_natCast]
theorem rAll_far (x y : Addr) (N a n cB cU : Nat) (ha : N ≤ a) (ha' : a ≤ 8589934592) (hn : 1 ≤ n) (hn' : n ≤ 65536) (w : World) :
  Calls Tryz.prog 46 #[.agg #[.slice (some x) N cB, .slice (some y) N cU], .int .i64 a, .int .i64 n] w fun e w' => e = .returned (.bool false) ∧ Below w.heap.size w w' := by
 go_enter Tryz.func46, Tryz.ntmps46
 go_wp2_with fail
 go_loop [7] (fun i => i = .int .i64 a) (fun _ => 0)
 case atStart => rfl
 case round =>
  subst hrel
  go_wp2_with fail
  go_ret
  exact ⟨rfl, bel_al (Below.refl _ _) _⟩
theorem all22 (x : Addr) (yb a n cB cU : Nat) (ha' : a ≤ 8589934592) (hn : 1 ≤ n) (hn' : n ≤ 65536) (w : World) (hb : BlAt w (some ⟨yb, 0, none⟩) cU U22) :
    Calls Tryz.prog 46 #[.agg #[.slice (some x) 2200 cB, .slice (some ⟨yb, 0, none⟩) 2200 cU], .int .i64 a, .int .i64 n] w fun e w' => e = .returned (.bool (decide (1024 ≤ a ∧ a + n ≤ 2048))) ∧ Below w.heap.size w w' := by
  by_cases h : a ≤ 65536
  · rw [← allU a n hn]
    exact rAll_any x ⟨yb, 0, none⟩ 2200 a n cB cU U22 U22_len (by decide) h hn' w hb
  · rw [decide_eq_false (by omega)]
    exact rAll_far x ⟨yb, 0, none⟩ 2200 a n cB cU (by omega) ha' hn hn' w
theorem rDataV_any (v0 v1 v2 v3 v4 v5 v6 v7 v8 : Value) (v b s : Int) (hb : 0 ≤ b) (hb' : b < 4294967296) (hs : 0 ≤ s) (hs' : s < 4294967296) (hv : 0 ≤ v) (hv' : v < 4294967296) (w : World) :
    Calls Tryz.prog 51 #[.agg #[v0, v1, v2, v3, v4, v5, v6, v7, v8, .int .u32 b, .int .u32 s], .int .u32 v] w fun e w' => e = .returned (.int .u32 (dataV b s v)) ∧ Below w.heap.size w w' := by
  have HN := (HasB.new w 47 [v0, v1, v2, v3, v4, v5, v6, v7, v8, .int .u32 b, .int .u32 s])
  have c9 := HN.cell 9
  have c10 := HN.cell 10
  simp only [List.getElem?_cons_succ, List.getElem?_cons_zero] at c9 c10
  clear HN
  by_cases h0 : s / 2 = 0
  · have h0' : (s / 2 == 0) = true := by simp [h0]
    have E := Lib.hid (show dataV b s v = b by unfold dataV restV; rw [if_pos h0, h0]; show ((0 + b) % 4294967296 + 0) % 4294967296 = b; omega)
    go_enter Tryz.func51, Tryz.ntmps51
    go_wp2_with fail
    go_ret
    exact ⟨ret_int E.out.symm, bel_al (Below.refl _ _) _⟩
  · have h0' : (s / 2 == 0) = false := by simpa using h0
    have h1 : 0 < s / 2 := by omega
    have E := Lib.hid (show dataV b s v = ((b + s / 2) % 4294967296 + v % (s / 2)) % 4294967296 by
      unfold dataV restV; rw [if_neg h0]
      show ((v % (s / 2) + b) % 4294967296 + s / 2) % 4294967296 = _
      generalize v % (s / 2) = r
      omega)
    go_enter Tryz.func51, Tryz.ntmps51
    go_wp2_with fail
    go_quiet (fail)
    go_wp2_with fail
    go_ret
    exact ⟨ret_int E.out.symm, below_drewN (bel_al (Below.refl _ _) _) _⟩
theorem rCodeV_any (v0 v1 v2 v3 v4 v5 v6 v7 v8 : Value) (v b s : Int) (hb : 0 ≤ b) (hb' : b < 4294967296) (hs : 0 ≤ s) (hs' : s < 4294967296) (hv : 0 ≤ v) (hv' : v < 4294967296) (w : World) :
    Calls Tryz.prog 52 #[.agg #[v0, v1, v2, v3, v4, v5, v6, v7, v8, .int .u32 b, .int .u32 s], .int .u32 v] w fun e w' => e = .returned (.int .u32 (codeV b s v)) ∧ Below w.heap.size w w' := by
  have HN := (HasB.new w 47 [v0, v1, v2, v3, v4, v5, v6, v7, v8, .int .u32 b, .int .u32 s])
  have c9 := HN.cell 9
  have c10 := HN.cell 10
  simp only [List.getElem?_cons_succ, List.getElem?_cons_zero] at c9 c10
  clear HN
  by_cases h0 : s / 2 = 0
  · have h0' : (s / 2 == 0) = true := by simp [h0]
    have E := Lib.hid (show codeV b s v = b by unfold codeV restV; rw [if_pos h0]; show (0 - 0 % 32 + b) % 4294967296 = b; omega)
    go_enter Tryz.func52, Tryz.ntmps52
    go_wp2_with fail
    go_ret
    exact ⟨ret_int E.out.symm, bel_al (Below.refl _ _) _⟩
  · have h0' : (s / 2 == 0) = false := by simpa using h0
    have h1 : 0 < s / 2 := by omega
    have r0 := Int.emod_nonneg v h0
    have r1 := Int.emod_lt_of_pos v h1
    have E := Lib.hid (show codeV b s v = (b + v % (s / 2) / 32 * 32) % 4294967296 by
      unfold codeV restV; rw [if_neg h0]
      show (v % (s / 2) - v % (s / 2) % 32 + b) % 4294967296 = _
      generalize v % (s / 2) = r
      omega)
    go_enter Tryz.func52, Tryz.ntmps52
    go_wp2_with fail
    go_quiet (fail)
    go_wp2_with fail
    go_ret
    exact ⟨ret_int E.out.symm, below_drewN (bel_al (Below.refl _ _) _) _⟩
structure RDoS (w : World) (pc r0 r1 r2 r3 r4 r5 r6 r7 b s : Int) (M0 M1 : Value) (W : World) : Prop where
 c : HasB W w.heap.size 47 [.int .u32 pc, .int .u32 r0, .int .u32 r1, .int .u32 r2, .int .u32 r3, .int .u32 r4, .int .u32 r5, .int .u32 r6, .int .u32 r7, .int .u32 b, .int .u32 s]
 m : HasB W (w.heap.size + 1) 50 [M0, M1]
 d : HasB W (w.heap.size + 1 + 1) 47 [.int .u32 0, .int .u32 0, .int .u32 0, .int .u32 0, .int .u32 0, .int .u32 0, .int .u32 0, .int .u32 0, .int .u32 0, .int .u32 0, .int .u32 0]
 o : HasB W (w.heap.size + 1 + 1 + 1) 50 [.slice none 0 0, .slice none 0 0]
 bel : Below w.heap.size w W
theorem RDoS.below {w W W' : World} {pc r0 r1 r2 r3 r4 r5 r6 r7 b s : Int} {M0 M1 : Value} (k : RDoS w pc r0 r1 r2 r3 r4 r5 r6 r7 b s M0 M1 W) (hb : Below W.heap.size W W') : RDoS w pc r0 r1 r2 r3 r4 r5 r6 r7 b s M0 M1 W' :=
 ⟨k.c.below hb, k.m.below hb, k.d.below hb, k.o.below hb, bel_then k.bel hb⟩
theorem RDoS.new (w : World) (pc r0 r1 r2 r3 r4 r5 r6 r7 b s : Int) (M0 M1 : Value) :
  ∃ W, ((((w.alloc (.cells #[.int .u32 pc, .int .u32 r0, .int .u32 r1, .int .u32 r2, .int .u32 r3, .int .u32 r4, .int .u32 r5, .int .u32 r6, .int .u32 r7, .int .u32 b, .int .u32 s] 47)).alloc (.cells #[M0, M1] 50)).alloc (.cells #[.int .u32 0, .int .u32 0, .int .u32 0, .int .u32 0, .int .u32 0, .int .u32 0, .int .u32 0, .int .u32 0, .int .u32 0, .int .u32 0, .int .u32 0] 47)).alloc (.cells #[.slice none 0 0, .slice none 0 0] 50)) = W ∧ RDoS w pc r0 r1 r2 r3 r4 r5 r6 r7 b s M0 M1 W ∧ W.heap.size = w.heap.size + 1 + 1 + 1 + 1 := by
 refine ⟨_, rfl, ⟨?_, ?_, ?_, ?_, bel_al (bel_al (bel_al (bel_al (Below.refl _ _) _) _) _) _⟩, by simp⟩
 · exact ((((HasB.newAt w _ _ _ rfl).al _).al _).al _)
 · exact (((HasB.newAt _ _ _ _ (by simp)).al _).al _)
 · exact ((HasB.newAt _ _ _ _ (by simp)).al _)
 · exact HasB.newAt _ _ _ _ (by simp)
theorem RDoS.chg {w W W' : World} {pc r0 r1 r2 r3 r4 r5 r6 r7 b s : Int} {M0 M1 : Value} {N : Nat} (k : RDoS w pc r0 r1 r2 r3 r4 r5 r6 r7 b s M0 M1 W) (hgt : w.heap.size + 1 + 1 + 1 < N) (c : Chg N N W W') : RDoS w pc r0 r1 r2 r3 r4 r5 r6 r7 b s M0 M1 W' :=
 ⟨k.c.chg c (by omega) (by omega), k.m.chg c (by omega) (by omega), k.d.chg c (by omega) (by omega), k.o.chg c (by omega) (by omega), c.below k.bel k.bel.size (by omega) (by omega)⟩
theorem own_belowR {w w' : World} {base n : Nat} {v : Value} {xs : List Value} (h : w.ownsRow base 5 1 v n xs) (b : Below w.heap.size w w') : w'.ownsRow base 5 1 v n xs :=
 h.kept (row := none) ⟨b.os, b.tape, b.output, b.size, fun k hk _ => b.block k hk⟩ (by cases hv : v.ownBlock <;> simp)
theorem row_cell {w : World} {xb cap : Nat} {l : List Int} (h : RowAt w (some ⟨xb, 0, none⟩) cap l) (i : Nat) (hi : i < l.length) : w.cell? ⟨xb, i, none⟩ = some (.int .u8 (l.getD i 0)) := by
 obtain ⟨x, hx, _, hc⟩ := h.2.2.2 (by intro e; subst e; simp at hi)
 injection hx with hx; subst hx
 have := hc i hi
 rwa [addr_add, Nat.zero_add] at this
def RGet (W0 : World) (K pc : Nat) (B : List Int) (v i : Value) (w' : World) : Prop :=
 ∃ k : Nat, k ≤ K ∧ i = .int .i64 ((pc : Int) + (k : Int)) ∧ w'.ownsRow W0.heap.size 5 1 v k ((((B.drop pc).take K).take k).map (Value.int .u8)) ∧ Below W0.heap.size W0 w'
theorem get_take {B : List Int} {K pc k : Nat} (hk : k < K) (hB : pc + K ≤ B.length) : ((B.drop pc).take K).take (k + 1) = ((B.drop pc).take K).take k ++ [B.getD (pc + k) 0] := by
 have h1 : k < ((B.drop pc).take K).length := by rw [List.length_take, List.length_drop]; omega
 rw [List.take_succ_eq_append_getElem h1]
 have e : ((B.drop pc).take K)[k] = B.getD (pc + k) 0 := by
  simp [List.getD, List.getElem?_eq_getElem (show pc + k < B.length by omega)]
 rw [e]
theorem rst13 {w W : World} (bel : Below w.heap.size w W) (v0 v1 v2 v3 v4 v5 v6 v7 v8 v9 v10 u0 u1 : Value) :
  let w' := (((((((((((((W.setCell ⟨w.heap.size + 1 + 1, 0, none⟩ v0).setCell ⟨w.heap.size + 1 + 1, 1, none⟩ v1).setCell ⟨w.heap.size + 1 + 1, 2, none⟩ v2).setCell ⟨w.heap.size + 1 + 1, 3, none⟩ v3).setCell ⟨w.heap.size + 1 + 1, 4, none⟩ v4).setCell ⟨w.heap.size + 1 + 1, 5, none⟩ v5).setCell ⟨w.heap.size + 1 + 1, 6, none⟩ v6).setCell ⟨w.heap.size + 1 + 1, 7, none⟩ v7).setCell ⟨w.heap.size + 1 + 1, 8, none⟩ v8).setCell ⟨w.heap.size + 1 + 1, 9, none⟩ v9).setCell ⟨w.heap.size + 1 + 1, 10, none⟩ v10).setCell ⟨w.heap.size + 1 + 1 + 1, 0, none⟩ u0).setCell ⟨w.heap.size + 1 + 1 + 1, 1, none⟩ u1)
  Chg (w.heap.size + 1 + 1) (w.heap.size + 1 + 1 + 1) W w'.drew ∧ Below w.heap.size w w'.drew := by
 intro w'
 have c1 : Chg (w.heap.size + 1 + 1) (w.heap.size + 1 + 1 + 1) W w' := chg_set (chg_set (chg_set (chg_set (chg_set (chg_set (chg_set (chg_set (chg_set (chg_set (chg_set (chg_set (chg_set (Chg.refl _ _ _) _ (.inl rfl) _ _) _ (.inl rfl) _ _) _ (.inl rfl) _ _) _ (.inl rfl) _ _) _ (.inl rfl) _ _) _ (.inl rfl) _ _) _ (.inl rfl) _ _) _ (.inl rfl) _ _) _ (.inl rfl) _ _) _ (.inl rfl) _ _) _ (.inl rfl) _ _) _ (.inr rfl) _ _) _ (.inr rfl) _ _
 have c2 := chg_drew c1
 exact ⟨c2, c2.below bel bel.size (by omega) (by omega)⟩
theorem RDoS.ins {w W : World} {I : Nat} {pc r0 r1 r2 r3 r4 r5 r6 r7 b s : Int} {M0 M1 : Value} (k : RDoS w pc r0 r1 r2 r3 r4 r5 r6 r7 b s M0 M1 W) (hgt : w.heap.size + 1 + 1 + 1 < I) (v0 v1 v2 v3 : Value) :
  RDoS w pc r0 r1 r2 r3 r4 r5 r6 r7 b s M0 M1 ((((W.setCell ⟨I, 0, none⟩ v0).setCell ⟨I, 1, none⟩ v1).setCell ⟨I, 2, none⟩ v2).setCell ⟨I, 3, none⟩ v3) ∧ Chg I I W ((((W.setCell ⟨I, 0, none⟩ v0).setCell ⟨I, 1, none⟩ v1).setCell ⟨I, 2, none⟩ v2).setCell ⟨I, 3, none⟩ v3) := by
 have c := (chg_set (chg_set (chg_set (chg_set (Chg.refl I I W) I (.inl rfl) 0 v0) I (.inl rfl) 1 v1) I (.inl rfl) 2 v2) I (.inl rfl) 3 v3)
 exact ⟨k.chg hgt c, c⟩
theorem rdo_worlds {w w2 : World} {pc r0 r1 r2 r3 r4 r5 r6 r7 b s : Int} {M0 M1 : Value} (k : RDoS w pc r0 r1 r2 r3 r4 r5 r6 r7 b s M0 M1 w2) (op x y imm pc' : Int) :
  ∃ W3 W4 W5 W6 W7, w2.alloc (.cells #[.int .i64 0, .int .i64 0, .int .i64 0, .int .u32 0] 100) = W3 ∧ ((((W3.setCell ⟨w2.heap.size, 0, none⟩ (.int .i64 op)).setCell ⟨w2.heap.size, 1, none⟩ (.int .i64 x)).setCell ⟨w2.heap.size, 2, none⟩ (.int .i64 y)).setCell ⟨w2.heap.size, 3, none⟩ (.int .u32 imm)) = W4 ∧ W4.alloc (.cells #[.int .u32 0, .int .u32 0, .int .u32 0, .int .u32 0, .int .u32 0, .int .u32 0, .int .u32 0, .int .u32 0, .int .u32 0, .int .u32 0, .int .u32 0] 47) = W5 ∧ (((((((((((W5.setCell ⟨W4.heap.size, 0, none⟩ (.int .u32 pc)).setCell ⟨W4.heap.size, 1, none⟩ (.int .u32 r0)).setCell ⟨W4.heap.size, 2, none⟩ (.int .u32 r1)).setCell ⟨W4.heap.size, 3, none⟩ (.int .u32 r2)).setCell ⟨W4.heap.size, 4, none⟩ (.int .u32 r3)).setCell ⟨W4.heap.size, 5, none⟩ (.int .u32 r4)).setCell ⟨W4.heap.size, 6, none⟩ (.int .u32 r5)).setCell ⟨W4.heap.size, 7, none⟩ (.int .u32 r6)).setCell ⟨W4.heap.size, 8, none⟩ (.int .u32 r7)).setCell ⟨W4.heap.size, 9, none⟩ (.int .u32 b)).setCell ⟨W4.heap.size, 10, none⟩ (.int .u32 s)) = W6 ∧ W6.setCell ⟨W4.heap.size, 0, none⟩ (.int .u32 pc') = W7 ∧
   HasB W3 w2.heap.size 100 [.int .i64 0, .int .i64 0, .int .i64 0, .int .u32 0] ∧ RDoS w pc r0 r1 r2 r3 r4 r5 r6 r7 b s M0 M1 W4 ∧ HasB W5 W4.heap.size 47 [.int .u32 0, .int .u32 0, .int .u32 0, .int .u32 0, .int .u32 0, .int .u32 0, .int .u32 0, .int .u32 0, .int .u32 0, .int .u32 0, .int .u32 0] ∧ RDoS w pc r0 r1 r2 r3 r4 r5 r6 r7 b s M0 M1 W6 ∧ HasB W6 W4.heap.size 47 [.int .u32 pc, .int .u32 r0, .int .u32 r1, .int .u32 r2, .int .u32 r3, .int .u32 r4, .int .u32 r5, .int .u32 r6, .int .u32 r7, .int .u32 b, .int .u32 s] ∧ RDoS w pc r0 r1 r2 r3 r4 r5 r6 r7 b s M0 M1 W7 ∧ HasB W7 w2.heap.size 100 [.int .i64 op, .int .i64 x, .int .i64 y, .int .u32 imm] ∧ HasB W7 W4.heap.size 47 [.int .u32 pc', .int .u32 r0, .int .u32 r1, .int .u32 r2, .int .u32 r3, .int .u32 r4, .int .u32 r5, .int .u32 r6, .int .u32 r7, .int .u32 b, .int .u32 s] ∧ Below w2.heap.size w2 W7 ∧ w.heap.size + 1 + 1 + 1 < w2.heap.size ∧ w2.heap.size < W4.heap.size := by
 have z0 := k.o.lt
 refine ⟨_, _, _, _, _, rfl, rfl, rfl, rfl, rfl, ?_⟩
 generalize e3 : w2.alloc (.cells #[.int .i64 0, .int .i64 0, .int .i64 0, .int .u32 0] 100) = W3
 have hI : HasB W3 w2.heap.size 100 [.int .i64 0, .int .i64 0, .int .i64 0, .int .u32 0] := by rw [← e3]; exact HasB.newAt _ _ _ _ rfl
 have b3 : Below w2.heap.size w2 W3 := by rw [← e3]; exact bel_al (Below.refl _ _) _
 have K3 := k.below b3
 generalize e4 : ((((W3.setCell ⟨w2.heap.size, 0, none⟩ (.int .i64 op)).setCell ⟨w2.heap.size, 1, none⟩ (.int .i64 x)).setCell ⟨w2.heap.size, 2, none⟩ (.int .i64 y)).setCell ⟨w2.heap.size, 3, none⟩ (.int .u32 imm)) = W4
 have hI4 : HasB W4 w2.heap.size 100 [.int .i64 op, .int .i64 x, .int .i64 y, .int .u32 imm] := by rw [← e4]; exact has_set (has_set (has_set (has_set (hI) 0 _) 1 _) 2 _) 3 _
 have c4 : Chg w2.heap.size w2.heap.size W3 W4 := by rw [← e4]; exact chg_set (chg_set (chg_set (chg_set (Chg.refl _ _ _) _ (.inl rfl) _ _) _ (.inl rfl) _ _) _ (.inl rfl) _ _) _ (.inl rfl) _ _
 have K4 := K3.chg z0 c4
 have b4 : Below w2.heap.size w2 W4 := c4.below b3 b3.size (Nat.le_refl _) (Nat.le_refl _)
 have s4 : w2.heap.size < W4.heap.size := hI4.lt
 generalize e5 : W4.alloc (.cells #[.int .u32 0, .int .u32 0, .int .u32 0, .int .u32 0, .int .u32 0, .int .u32 0, .int .u32 0, .int .u32 0, .int .u32 0, .int .u32 0, .int .u32 0] 47) = W5
 have hN : HasB W5 W4.heap.size 47 [.int .u32 0, .int .u32 0, .int .u32 0, .int .u32 0, .int .u32 0, .int .u32 0, .int .u32 0, .int .u32 0, .int .u32 0, .int .u32 0, .int .u32 0] := by rw [← e5]; exact HasB.newAt _ _ _ _ rfl
 have b5 : Below W4.heap.size W4 W5 := by rw [← e5]; exact bel_al (Below.refl _ _) _
 have K5 := K4.below b5
 have hI5 := hI4.below b5
 have b5' := bel_then b4 b5
 generalize e6 : (((((((((((W5.setCell ⟨W4.heap.size, 0, none⟩ (.int .u32 pc)).setCell ⟨W4.heap.size, 1, none⟩ (.int .u32 r0)).setCell ⟨W4.heap.size, 2, none⟩ (.int .u32 r1)).setCell ⟨W4.heap.size, 3, none⟩ (.int .u32 r2)).setCell ⟨W4.heap.size, 4, none⟩ (.int .u32 r3)).setCell ⟨W4.heap.size, 5, none⟩ (.int .u32 r4)).setCell ⟨W4.heap.size, 6, none⟩ (.int .u32 r5)).setCell ⟨W4.heap.size, 7, none⟩ (.int .u32 r6)).setCell ⟨W4.heap.size, 8, none⟩ (.int .u32 r7)).setCell ⟨W4.heap.size, 9, none⟩ (.int .u32 b)).setCell ⟨W4.heap.size, 10, none⟩ (.int .u32 s)) = W6
 have hN6 : HasB W6 W4.heap.size 47 [.int .u32 pc, .int .u32 r0, .int .u32 r1, .int .u32 r2, .int .u32 r3, .int .u32 r4, .int .u32 r5, .int .u32 r6, .int .u32 r7, .int .u32 b, .int .u32 s] := by rw [← e6]; exact has_set (has_set (has_set (has_set (has_set (has_set (has_set (has_set (has_set (has_set (has_set (hN) 0 _) 1 _) 2 _) 3 _) 4 _) 5 _) 6 _) 7 _) 8 _) 9 _) 10 _
 have c6 : Chg W4.heap.size W4.heap.size W5 W6 := by rw [← e6]; exact chg_set (chg_set (chg_set (chg_set (chg_set (chg_set (chg_set (chg_set (chg_set (chg_set (chg_set (Chg.refl _ _ _) _ (.inl rfl) _ _) _ (.inl rfl) _ _) _ (.inl rfl) _ _) _ (.inl rfl) _ _) _ (.inl rfl) _ _) _ (.inl rfl) _ _) _ (.inl rfl) _ _) _ (.inl rfl) _ _) _ (.inl rfl) _ _) _ (.inl rfl) _ _) _ (.inl rfl) _ _
 have K6 := K5.chg (by omega) c6
 have hI6 := hI5.chg c6 (by omega) (by omega)
 have b6 : Below w2.heap.size w2 W6 := c6.below b5' b5'.size (by omega) (by omega)
 have c7 : Chg W4.heap.size W4.heap.size W6 (W6.setCell ⟨W4.heap.size, 0, none⟩ (.int .u32 pc')) := chg_set (Chg.refl _ _ _) _ (.inl rfl) _ _
 exact ⟨hI, K4, hN, K6, hN6, K6.chg (by omega) c7, hI6.chg c7 (by omega) (by omega), has_set hN6 0 _, c7.below b6 b6.size (by omega) (by omega), z0, s4⟩
theorem reg_world {w W : World} {I D : Nat} {pc r0 r1 r2 r3 r4 r5 r6 r7 b s op x y imm pc' q0 q1 q2 q3 q4 q5 q6 q7 qb qs : Int} {M0 M1 : Value} (k : RDoS w pc r0 r1 r2 r3 r4 r5 r6 r7 b s M0 M1 W) (hI : HasB W I 100 [.int .i64 op, .int .i64 x, .int .i64 y, .int .u32 imm]) (hD : HasB W D 47 [.int .u32 pc', .int .u32 q0, .int .u32 q1, .int .u32 q2, .int .u32 q3, .int .u32 q4, .int .u32 q5, .int .u32 q6, .int .u32 q7, .int .u32 qb, .int .u32 qs]) (h0 : w.heap.size + 1 + 1 + 1 < D) (h1 : I < D) (i : Nat) (hi : i < 8) (v : Int) :
    ∃ W9, W.setCell ⟨D, 1 + i, none⟩ (.int .u32 v) = W9 ∧ (∃ u, W.cell? ⟨D, 1 + i, none⟩ = some u) ∧ W.frozen? ⟨D, 1 + i, none⟩ = false ∧ RDoS w pc r0 r1 r2 r3 r4 r5 r6 r7 b s M0 M1 W9 ∧ HasB W9 I 100 [.int .i64 op, .int .i64 x, .int .i64 y, .int .u32 imm] ∧ HasB W9 D 47 ((⟨pc', [q0, q1, q2, q3, q4, q5, q6, q7], qb, qs⟩ : Cp).setR i v).cs ∧ Chg D D W W9 := by
  have c : Chg D D W (W.setCell ⟨D, 1 + i, none⟩ (.int .u32 v)) := chg_set (Chg.refl _ _ _) _ (.inl rfl) _ _
  refine ⟨_, rfl, ?_, hD.frozen _, k.chg h0 c, hI.chg c (by omega) (by omega), ?_, c⟩
  · rw [hD.cell]
    exact ⟨_, List.getElem?_eq_getElem (show 1 + i < 11 by omega)⟩
  · have := has_set hD (1 + i) (.int .u32 v)
    have e : ([.int .u32 pc', .int .u32 q0, .int .u32 q1, .int .u32 q2, .int .u32 q3, .int .u32 q4, .int .u32 q5, .int .u32 q6, .int .u32 q7, .int .u32 qb, .int .u32 qs] : List Value).set (1 + i) (.int .u32 v) = ((⟨pc', [q0, q1, q2, q3, q4, q5, q6, q7], qb, qs⟩ : Cp).setR i v).cs := by
      obtain rfl | rfl | rfl | rfl | rfl | rfl | rfl | rfl : i = 0 ∨ i = 1 ∨ i = 2 ∨ i = 3 ∨ i = 4 ∨ i = 5 ∨ i = 6 ∨ i = 7 := by omega
      all_goals rfl
    rwa [e] at this
theorem pc_world {w W : World} {I D : Nat} {pc r0 r1 r2 r3 r4 r5 r6 r7 b s op x y imm pq q0 q1 q2 q3 q4 q5 q6 q7 qb qs : Int} {M0 M1 : Value} (k : RDoS w pc r0 r1 r2 r3 r4 r5 r6 r7 b s M0 M1 W) (hI : HasB W I 100 [.int .i64 op, .int .i64 x, .int .i64 y, .int .u32 imm]) (hD : HasB W D 47 [.int .u32 pq, .int .u32 q0, .int .u32 q1, .int .u32 q2, .int .u32 q3, .int .u32 q4, .int .u32 q5, .int .u32 q6, .int .u32 q7, .int .u32 qb, .int .u32 qs]) (h0 : w.heap.size + 1 + 1 + 1 < D) (h1 : I < D) (v : Int) :
  ∃ W9, W.setCell ⟨D, 0, none⟩ (.int .u32 v) = W9 ∧ W.cell? ⟨D, 0, none⟩ = some (.int .u32 pq) ∧ W.frozen? ⟨D, 0, none⟩ = false ∧ RDoS w pc r0 r1 r2 r3 r4 r5 r6 r7 b s M0 M1 W9 ∧ HasB W9 I 100 [.int .i64 op, .int .i64 x, .int .i64 y, .int .u32 imm] ∧ HasB W9 D 47 [.int .u32 v, .int .u32 q0, .int .u32 q1, .int .u32 q2, .int .u32 q3, .int .u32 q4, .int .u32 q5, .int .u32 q6, .int .u32 q7, .int .u32 qb, .int .u32 qs] ∧ Chg D D W W9 := by
 have c : Chg D D W (W.setCell ⟨D, 0, none⟩ (.int .u32 v)) := chg_set (Chg.refl _ _ _) _ (.inl rfl) _ _
 exact ⟨_, rfl, hD.cell 0, hD.frozen 0, k.chg h0 c, hI.chg c (by omega) (by omega), has_set hD 0 (.int .u32 v), c⟩
theorem mem_world {w W : World} {I D : Nat} {pc r0 r1 r2 r3 r4 r5 r6 r7 b s op x y imm : Int} {M0 M1 : Value} {ds : List Value} (k : RDoS w pc r0 r1 r2 r3 r4 r5 r6 r7 b s M0 M1 W) (hI : HasB W I 100 [.int .i64 op, .int .i64 x, .int .i64 y, .int .u32 imm]) (hD : HasB W D 47 ds) (h0 : w.heap.size + 1 + 1 + 1 < I) (h1 : I < D) (M2 M3 : Value) :
  ∃ W9, (W.setCell ⟨w.heap.size + 1, 0, none⟩ M2).setCell ⟨w.heap.size + 1, 1, none⟩ M3 = W9 ∧ (W.cell? ⟨w.heap.size + 1, 0, none⟩ = some M0 ∧ W.cell? ⟨w.heap.size + 1, 1, none⟩ = some M1) ∧ (W.frozen? ⟨w.heap.size + 1, 0, none⟩ = false ∧ W.frozen? ⟨w.heap.size + 1, 1, none⟩ = false) ∧ RDoS w pc r0 r1 r2 r3 r4 r5 r6 r7 b s M2 M3 W9 ∧ HasB W9 I 100 [.int .i64 op, .int .i64 x, .int .i64 y, .int .u32 imm] ∧ HasB W9 D 47 ds ∧ Chg (w.heap.size + 1) (w.heap.size + 1) W W9 := by
 have c : Chg (w.heap.size + 1) (w.heap.size + 1) W ((W.setCell ⟨w.heap.size + 1, 0, none⟩ M2).setCell ⟨w.heap.size + 1, 1, none⟩ M3) := chg_set (chg_set (Chg.refl _ _ _) _ (.inl rfl) _ _) _ (.inl rfl) _ _
 have h2 := has2 k.m
 exact ⟨_, rfl, h2.1, h2.2, ⟨k.c.chg c (by omega) (by omega), has_set (has_set k.m 0 M2) 1 M3, k.d.chg c (by omega) (by omega), k.o.chg c (by omega) (by omega), c.below k.bel k.bel.size (by omega) (by omega)⟩, hI.chg c (by omega) (by omega), hD.chg c (by omega) (by omega), c⟩
theorem rBytes_bel (v : Int) (v0 : 0 ≤ v) (v1 : v < 4294967296) (w : World) :
  Calls Tryz.prog 50 #[.int .u32 v] w fun e w' => ∃ q, e = .returned (.slice (some ⟨q, 0, none⟩) 4 4) ∧ RowAt w' (some ⟨q, 0, none⟩) 4 (b4 v) ∧ Below w.heap.size w w' := by
 refine (rBytes_any v v0 v1 w).mono ?_
 rintro e w' ⟨rfl, rfl⟩
 exact ⟨_, rfl, put4_row w v v0 v1, put4_bel w v⟩
def RDoP (w : World) (xb yb cU : Nat) (o : Ou) (e : Ending) (w' : World) : Prop :=
 ∃ xb' cB', e = .returned (.tuple #[o.c.val, .agg #[.slice (some ⟨xb', 0, none⟩) 2200 cB', .slice (some ⟨yb, 0, none⟩) 2200 cU], .int .i64 o.what, .int .i64 o.gate]) ∧ RowAt w' (some ⟨xb', 0, none⟩) cB' o.B ∧ Below w.heap.size w w' ∧ (xb' = xb ∨ w.heap.size ≤ xb')
set_option maxRecDepth 100000 in
set_option maxHeartbeats 8000000 in
theorem rdo_empty (xb yb cB cU : Nat) (B : List Int) (r0 r1 r2 r3 r4 r5 r6 r7 b s : Int) (pc : Nat) (hB : B.length = 2200) (hBy : Bytes B) (h1 : pc < 4294967296) (w : World) (rB : RowAt w (some ⟨xb, 0, none⟩) cB B) (rU : BlAt w (some ⟨yb, 0, none⟩) cU U22) (hc : codeL B T22 (pc : Int) = []) :
    Calls Tryz.prog 31 #[.agg #[.int .u32 pc, .int .u32 r0, .int .u32 r1, .int .u32 r2, .int .u32 r3, .int .u32 r4, .int .u32 r5, .int .u32 r6, .int .u32 r7, .int .u32 b, .int .u32 s], .agg #[.slice (some ⟨xb, 0, none⟩) 2200 cB, .slice (some ⟨yb, 0, none⟩) 2200 cU]] w (RDoP w xb yb cU ⟨⟨pc, [r0, r1, r2, r3, r4, r5, r6, r7], b, s⟩, B, 3, 0⟩) := by
  obtain ⟨W0, e1, k0, hz0⟩ := RDoS.new w pc r0 r1 r2 r3 r4 r5 r6 r7 b s (.slice (some ⟨xb, 0, none⟩) 2200 cB) (.slice (some ⟨yb, 0, none⟩) 2200 cU)
  have K0 := Lib.hid k0
  have y0 := k0.c.cell 0
  simp only [List.getElem?_cons_zero] at y0
  obtain ⟨K, hK⟩ : ∃ K, kf22 pc = K := ⟨_, rfl⟩
  have HC := Lib.hid (code22 B pc)
  rw [hK] at HC
  have hK6 : K ≤ 6 := by unfold kf22 at hK; split at hK <;> omega
  have hKB : (K = 0 ∧ (pc < 1024 ∨ 2048 ≤ pc)) ∨ (1024 ≤ pc ∧ pc + K ≤ 2048) := by unfold kf22 at hK; split at hK <;> omega
  have hKe : K = 6 ∨ 2048 ≤ pc + K ∨ pc < 1024 := by unfold kf22 at hK; split at hK <;> omega
  have hbel := k0.bel
  have HB0 := Lib.hid hbel
  have RB := Lib.hid (rB.below hbel)
  have RU := Lib.hid (rU.below hbel)
  have HXB := Lib.hid (show xb < w.heap.size by obtain ⟨x, hx, hlt, _⟩ := rB.2.2.2 (by intro e; subst e; simp at hB); injection hx with hx; subst hx; exact hlt)
  have HB := Lib.hid hB
  have HBy := Lib.hid hBy
  have HZ := Lib.hid hz0
  clear k0 hK rB rU hbel hB hBy hz0
  go_enter Tryz.func31, Tryz.ntmps31
  go_wp2_with fail
  clear y0 e1
  go_loopw [8, 9] (fun v i w' => RGet W0 K pc B v i w') (fun _ i _ => pc + 6 - (intOf i).toNat)
  case atStart => exact ⟨0, Nat.zero_le _, by go_num, World.ownsRow_nil _ _ _ _, Below.refl _ _⟩
  case round =>
    obtain ⟨k, hk, rfl, own, hb⟩ := hrel
    have KR := Lib.hid (K0.out.below hb)
    have OWN := Lib.hid own
    have HBW := Lib.hid hb
    have RBW := Lib.hid (RB.out.below hb)
    have RUW := Lib.hid (RU.out.below hb)
    clear own hb
    have y0 := KR.out.c.cell 0
    obtain ⟨⟨m0, m1⟩, _⟩ := has2 KR.out.m
    simp only [List.getElem?_cons_zero] at y0
    have n0 : (pc : Int) + (k : Int) ≤ 4294967302 := by omega
    go_upto_region 3 with fail
    go_cut [30] (fun s30 wx => s30 = .bool (decide (k < K)) ∧ Below wr.heap.size wr wx)
    case first =>
      by_cases hi6 : k < 6
      · as_aux_lemma =>
        have CA := fun W (r : BlAt W (some ⟨yb, 0, none⟩) cU U22) => all22 ⟨xb, 0, none⟩ yb (pc + k) 1 cB cU (by omega) (by decide) (by decide) W r
        rw [show decide (1024 ≤ pc + k ∧ pc + k + 1 ≤ 2048) = decide (k < K) by (congr 1; apply propext; omega), show ((pc + k : Nat) : Int) = (pc : Int) + (k : Int) by omega] at CA
        replace CA := Lib.hid CA
        have d6 : decide ((pc : Int) + (k : Int) < (pc : Int) + 6) = true := decide_eq_true (by omega)
        have i6 : (k : Int) < 6 := by omega
        obtain ⟨dk, hdk⟩ : ∃ dk, decide (k < K) = dk := ⟨_, rfl⟩
        rw [hdk] at CA
        have HD := Lib.hid hdk
        clear hdk
        go_wp2_with fail
        refine (CA.out _ RUW.out).mono ?_; rintro e w3 ⟨rfl, hb3⟩
        go_wp2_with fail
        go_meet
        exact ⟨by rw [HD.out], hb3⟩
      · as_aux_lemma =>
        have d6 : decide ((pc : Int) + (k : Int) < (pc : Int) + 6) = false := decide_eq_false (by omega)
        have i6 : 6 ≤ (k : Int) := by omega
        have hd := Lib.hid (show decide (k < K) = false from decide_eq_false (by omega))
        go_wp2_with fail
        go_meet
        exact ⟨by rw [hd.out], Below.refl _ _⟩
    case rest =>
    obtain ⟨rfl, hb3⟩ := hcut
    have KR3 := Lib.hid (KR.out.below hb3)
    have RB3 := Lib.hid (RBW.out.below hb3)
    have RU3 := Lib.hid (RUW.out.below hb3)
    have HB3 := Lib.hid (bel_then HBW.out hb3)
    have OWN3 := Lib.hid (own_belowR OWN.out hb3)
    clear hb3 y0 m0 m1 KR RBW RUW HBW OWN
    by_cases hlt : k < K
    · as_aux_lemma =>
      rw [decide_eq_true hlt]
      have hin : pc + k < 2048 := by omega
      have e2 : ((pc : Int) + (k : Int)).toNat = pc + k := by omega
      have n1 : (pc : Int) + (k : Int) < 2048 := by omega
      have HG := Lib.hid (get_take (B := B) (pc := pc) hlt (by rw [HB.out]; omega))
      have y1 := row_cell RB3.out (pc + k) (by rw [HB.out]; omega)
      have hbd := row_byte HBy.out (pc + k)
      obtain ⟨x, hx⟩ : ∃ x, B.getD (pc + k) 0 = x := ⟨_, rfl⟩
      rw [hx] at y1 hbd HG
      obtain ⟨⟨z0, z1⟩, _⟩ := has2 KR3.out.m
      clear hx
      have HX := Lib.hid (row_new wc [x] 5 1 (Nat.le_refl _) (by decide) (fun z hz => by simp at hz; subst hz; exact hbd))
      have HLL := Lib.hid (show Bytes (((B.drop pc).take K).take k) from take_byte (take_byte (drop_byte HBy.out _) _) _)
      have hsz3 := HB3.out.size
      clear hbd
      generalize ((B.drop pc).take K).take k = L at *
      go_wp2_with (first
        | (at_builtin
           refine append_row rfl (.tmp 33) (.tmp 39) rfl W0.heap.size u8 k L rfl (OWN3.out.alloc _) HLL.out _ 1 1 [x] rfl rfl 1 HX.out (k + 1) rfl (by omega) (by (try simp) <;> omega) ?_
           intro A4 c4 w4 own4 row4 bel4
           have OWN4 := Lib.hid own4
           have BEL4 := Lib.hid bel4
           clear own4 row4 bel4))
      go_roundw
      case rel => exact ⟨k + 1, hlt, by go_num, by rw [HG.out]; exact OWN4.out, (bel_al HB3.out _).trans BEL4.out⟩
      case measure => simp [intOf]; omega
    rw [decide_eq_false hlt]
    have hkK : k = K := by omega
    subst hkK
    clear hlt hk
    have hown := OWN3.out
    rw [List.take_take, Nat.min_self] at hown
    obtain ⟨LB, hLB⟩ : ∃ LB, (B.drop pc).take k = LB := ⟨_, rfl⟩
    rw [hLB] at hown HC
    have hLL : LB.length = k := by rw [← hLB, List.length_take, List.length_drop, HB.out]; omega
    have hLby : Bytes LB := by rw [← hLB]; exact take_byte (drop_byte HBy.out _) _
    obtain ⟨AB, cAB, rfl, hq, hrow⟩ := row_of_own hown hLby
    clear hq
    have RL := Lib.hid hrow
    have HLL := Lib.hid hLL
    have HLby := Lib.hid hLby
    clear hown hrow hLL hLby hLB OWN3
    have hk0 : k = 0 := by rw [← HLL.out, ← HC.out, hc]; rfl
    subst hk0
    obtain ⟨⟨c0, c1, c2, c3, c4, c5, c6, c7, c8, c9, c10⟩, _⟩ := has11 KR3.out.c
    obtain ⟨⟨m0, m1⟩, _⟩ := has2 KR3.out.m
    obtain ⟨⟨d0, d1, d2, d3, d4, d5, d6, d7, d8, d9, d10⟩, ⟨f0, f1, f2, f3, f4, f5, f6, f7, f8, f9, f10⟩⟩ := has11 KR3.out.d
    obtain ⟨⟨o0, o1⟩, ⟨q0, q1⟩⟩ := has2 KR3.out.o
    go_wp2_with fail
    go_region
    all_goals go_wp2_with fail
    all_goals refine bodyPost_ret (v := .tuple #[.agg #[.int .u32 pc, .int .u32 r0, .int .u32 r1, .int .u32 r2, .int .u32 r3, .int .u32 r4, .int .u32 r5, .int .u32 r6, .int .u32 r7, .int .u32 b, .int .u32 s], .agg #[.slice (some ⟨xb, 0, none⟩) 2200 cB, .slice (some ⟨yb, 0, none⟩) 2200 cU], .int .i64 3, .int .i64 0]) (by simp [results, Tryz.results31, go_sem, d0, d1, d2, d3, d4, d5, d6, d7, d8, d9, d10, o0, o1]) rfl ?_
    all_goals obtain ⟨x1, x2⟩ := rst13 KR3.out.bel (.int .u32 pc) (.int .u32 r0) (.int .u32 r1) (.int .u32 r2) (.int .u32 r3) (.int .u32 r4) (.int .u32 r5) (.int .u32 r6) (.int .u32 r7) (.int .u32 b) (.int .u32 s) (.slice (some ⟨xb, 0, none⟩) 2200 cB) (.slice (some ⟨yb, 0, none⟩) 2200 cU)
    all_goals exact ⟨_, _, rfl, (RB3.out).chg x1 (by have := HXB.out; omega) (by have := HXB.out; omega), x2, .inl rfl⟩
set_option maxRecDepth 100000 in
set_option maxHeartbeats 8000000 in
theorem rdo_broken (xb yb cB cU : Nat) (B : List Int) (r0 r1 r2 r3 r4 r5 r6 r7 b s : Int) (pc : Nat) (hB : B.length = 2200) (hBy : Bytes B) (h1 : pc < 4294967296) (w : World) (rB : RowAt w (some ⟨xb, 0, none⟩) cB B) (rU : BlAt w (some ⟨yb, 0, none⟩) cU U22) (hc : codeL B T22 (pc : Int) ≠ []) (hn : rdB (codeL B T22 (pc : Int)) = false) :
    Calls Tryz.prog 31 #[.agg #[.int .u32 pc, .int .u32 r0, .int .u32 r1, .int .u32 r2, .int .u32 r3, .int .u32 r4, .int .u32 r5, .int .u32 r6, .int .u32 r7, .int .u32 b, .int .u32 s], .agg #[.slice (some ⟨xb, 0, none⟩) 2200 cB, .slice (some ⟨yb, 0, none⟩) 2200 cU]] w (RDoP w xb yb cU ⟨⟨pc, [r0, r1, r2, r3, r4, r5, r6, r7], b, s⟩, B, 5, 0⟩) := by
  obtain ⟨W0, e1, k0, hz0⟩ := RDoS.new w pc r0 r1 r2 r3 r4 r5 r6 r7 b s (.slice (some ⟨xb, 0, none⟩) 2200 cB) (.slice (some ⟨yb, 0, none⟩) 2200 cU)
  have K0 := Lib.hid k0
  have y0 := k0.c.cell 0
  simp only [List.getElem?_cons_zero] at y0
  obtain ⟨K, hK⟩ : ∃ K, kf22 pc = K := ⟨_, rfl⟩
  have HC := Lib.hid (code22 B pc)
  rw [hK] at HC
  have hK6 : K ≤ 6 := by unfold kf22 at hK; split at hK <;> omega
  have hKB : (K = 0 ∧ (pc < 1024 ∨ 2048 ≤ pc)) ∨ (1024 ≤ pc ∧ pc + K ≤ 2048) := by unfold kf22 at hK; split at hK <;> omega
  have hKe : K = 6 ∨ 2048 ≤ pc + K ∨ pc < 1024 := by unfold kf22 at hK; split at hK <;> omega
  have hbel := k0.bel
  have HB0 := Lib.hid hbel
  have RB := Lib.hid (rB.below hbel)
  have RU := Lib.hid (rU.below hbel)
  have HXB := Lib.hid (show xb < w.heap.size by obtain ⟨x, hx, hlt, _⟩ := rB.2.2.2 (by intro e; subst e; simp at hB); injection hx with hx; subst hx; exact hlt)
  have HB := Lib.hid hB
  have HBy := Lib.hid hBy
  have HZ := Lib.hid hz0
  clear k0 hK rB rU hbel hB hBy hz0
  go_enter Tryz.func31, Tryz.ntmps31
  go_wp2_with fail
  clear y0 e1
  go_loopw [8, 9] (fun v i w' => RGet W0 K pc B v i w') (fun _ i _ => pc + 6 - (intOf i).toNat)
  case atStart => exact ⟨0, Nat.zero_le _, by go_num, World.ownsRow_nil _ _ _ _, Below.refl _ _⟩
  case round =>
    obtain ⟨k, hk, rfl, own, hb⟩ := hrel
    have KR := Lib.hid (K0.out.below hb)
    have OWN := Lib.hid own
    have HBW := Lib.hid hb
    have RBW := Lib.hid (RB.out.below hb)
    have RUW := Lib.hid (RU.out.below hb)
    clear own hb
    have y0 := KR.out.c.cell 0
    obtain ⟨⟨m0, m1⟩, _⟩ := has2 KR.out.m
    simp only [List.getElem?_cons_zero] at y0
    have n0 : (pc : Int) + (k : Int) ≤ 4294967302 := by omega
    go_upto_region 3 with fail
    go_cut [30] (fun s30 wx => s30 = .bool (decide (k < K)) ∧ Below wr.heap.size wr wx)
    case first =>
      by_cases hi6 : k < 6
      · as_aux_lemma =>
        have CA := fun W (r : BlAt W (some ⟨yb, 0, none⟩) cU U22) => all22 ⟨xb, 0, none⟩ yb (pc + k) 1 cB cU (by omega) (by decide) (by decide) W r
        rw [show decide (1024 ≤ pc + k ∧ pc + k + 1 ≤ 2048) = decide (k < K) by (congr 1; apply propext; omega), show ((pc + k : Nat) : Int) = (pc : Int) + (k : Int) by omega] at CA
        replace CA := Lib.hid CA
        have d6 : decide ((pc : Int) + (k : Int) < (pc : Int) + 6) = true := decide_eq_true (by omega)
        have i6 : (k : Int) < 6 := by omega
        obtain ⟨dk, hdk⟩ : ∃ dk, decide (k < K) = dk := ⟨_, rfl⟩
        rw [hdk] at CA
        have HD := Lib.hid hdk
        clear hdk
        go_wp2_with fail
        refine (CA.out _ RUW.out).mono ?_; rintro e w3 ⟨rfl, hb3⟩
        go_wp2_with fail
        go_meet
        exact ⟨by rw [HD.out], hb3⟩
      · as_aux_lemma =>
        have d6 : decide ((pc : Int) + (k : Int) < (pc : Int) + 6) = false := decide_eq_false (by omega)
        have i6 : 6 ≤ (k : Int) := by omega
        have hd := Lib.hid (show decide (k < K) = false from decide_eq_false (by omega))
        go_wp2_with fail
        go_meet
        exact ⟨by rw [hd.out], Below.refl _ _⟩
    case rest =>
    obtain ⟨rfl, hb3⟩ := hcut
    have KR3 := Lib.hid (KR.out.below hb3)
    have RB3 := Lib.hid (RBW.out.below hb3)
    have RU3 := Lib.hid (RUW.out.below hb3)
    have HB3 := Lib.hid (bel_then HBW.out hb3)
    have OWN3 := Lib.hid (own_belowR OWN.out hb3)
    clear hb3 y0 m0 m1 KR RBW RUW HBW OWN
    by_cases hlt : k < K
    · as_aux_lemma =>
      rw [decide_eq_true hlt]
      have hin : pc + k < 2048 := by omega
      have e2 : ((pc : Int) + (k : Int)).toNat = pc + k := by omega
      have n1 : (pc : Int) + (k : Int) < 2048 := by omega
      have HG := Lib.hid (get_take (B := B) (pc := pc) hlt (by rw [HB.out]; omega))
      have y1 := row_cell RB3.out (pc + k) (by rw [HB.out]; omega)
      have hbd := row_byte HBy.out (pc + k)
      obtain ⟨x, hx⟩ : ∃ x, B.getD (pc + k) 0 = x := ⟨_, rfl⟩
      rw [hx] at y1 hbd HG
      obtain ⟨⟨z0, z1⟩, _⟩ := has2 KR3.out.m
      clear hx
      have HX := Lib.hid (row_new wc [x] 5 1 (Nat.le_refl _) (by decide) (fun z hz => by simp at hz; subst hz; exact hbd))
      have HLL := Lib.hid (show Bytes (((B.drop pc).take K).take k) from take_byte (take_byte (drop_byte HBy.out _) _) _)
      have hsz3 := HB3.out.size
      clear hbd
      generalize ((B.drop pc).take K).take k = L at *
      go_wp2_with (first
        | (at_builtin
           refine append_row rfl (.tmp 33) (.tmp 39) rfl W0.heap.size u8 k L rfl (OWN3.out.alloc _) HLL.out _ 1 1 [x] rfl rfl 1 HX.out (k + 1) rfl (by omega) (by (try simp) <;> omega) ?_
           intro A4 c4 w4 own4 row4 bel4
           have OWN4 := Lib.hid own4
           have BEL4 := Lib.hid bel4
           clear own4 row4 bel4))
      go_roundw
      case rel => exact ⟨k + 1, hlt, by go_num, by rw [HG.out]; exact OWN4.out, (bel_al HB3.out _).trans BEL4.out⟩
      case measure => simp [intOf]; omega
    rw [decide_eq_false hlt]
    have hkK : k = K := by omega
    subst hkK
    clear hlt hk
    have hown := OWN3.out
    rw [List.take_take, Nat.min_self] at hown
    obtain ⟨LB, hLB⟩ : ∃ LB, (B.drop pc).take k = LB := ⟨_, rfl⟩
    rw [hLB] at hown HC
    have hLL : LB.length = k := by rw [← hLB, List.length_take, List.length_drop, HB.out]; omega
    have hLby : Bytes LB := by rw [← hLB]; exact take_byte (drop_byte HBy.out _) _
    obtain ⟨AB, cAB, rfl, hq, hrow⟩ := row_of_own hown hLby
    clear hq
    have RL := Lib.hid hrow
    have HLL := Lib.hid hLL
    have HLby := Lib.hid hLby
    clear hown hrow hLL hLby hLB OWN3
    have LNE := Lib.hid (show 0 < LB.length by rw [← HC.out]; exact List.length_pos_iff.2 hc)
    rw [HC.out] at hn
    have HN := Lib.hid hn
    clear hc hn
    have g0 : ((k : Int) == 0) = false := by rw [beq_eq_false_iff_ne]; have := HLL.out; have := LNE.out; omega
    go_wp2_with fail
    have RN := rRead_no LB AB cAB 0 (by rw [HLL.out]; omega) (.inr (.inr (by simpa using HN.out))) wc RL.out
    rw [HLL.out] at RN
    refine RN.mono ?_; rintro e w2 ⟨rfl, hb⟩
    unfold insV
    clear RN
    have K2 := Lib.hid (KR3.out.below hb)
    have RB4 := Lib.hid (RB3.out.below hb)
    have RU4 := Lib.hid (RU3.out.below hb)
    clear hb KR3 RB3 RU3 HB3 RL HLby
    obtain ⟨W3, e3⟩ : ∃ W3, w2.alloc (.cells #[.int .i64 0, .int .i64 0, .int .i64 0, .int .u32 0] 100) = W3 := ⟨_, rfl⟩
    have hI : HasB W3 w2.heap.size 100 [.int .i64 0, .int .i64 0, .int .i64 0, .int .u32 0] := by rw [← e3]; exact HasB.newAt _ _ _ _ rfl
    have hb3 : Below w2.heap.size w2 W3 := by rw [← e3]; exact bel_al (Below.refl _ _) _
    have K3 := Lib.hid (K2.out.below hb3)
    have RB5 := Lib.hid (RB4.out.below hb3)
    obtain ⟨⟨t0, t1⟩, ⟨t2, t3⟩⟩ : (W3.cell? ⟨w2.heap.size, 0, none⟩ = some (.int .i64 0) ∧ W3.cell? ⟨w2.heap.size, 1, none⟩ = some (.int .i64 0)) ∧ (W3.cell? ⟨w2.heap.size, 2, none⟩ = some (.int .i64 0) ∧ W3.cell? ⟨w2.heap.size, 3, none⟩ = some (.int .u32 0)) := ⟨⟨hI.cell 0, hI.cell 1⟩, ⟨hI.cell 2, hI.cell 3⟩⟩
    have u0 := hI.frozen 0
    have u1 := hI.frozen 1
    have u2 := hI.frozen 2
    have u3 := hI.frozen 3
    have z0 := K2.out.o.lt
    have K4 := RDoS.ins K3.out z0 (.int .i64 0) (.int .i64 0) (.int .i64 0) (.int .u32 0)
    have K5 := Lib.hid K4.1
    have RB6 := Lib.hid (RB5.out.chg K4.2 (by have := HXB.out; omega) (by have := HXB.out; omega))
    clear K4
    have n0 : ¬ w2.heap.size = w.heap.size := by omega
    have n1 : ¬ w2.heap.size = w.heap.size + 1 := by omega
    have n2 : ¬ w2.heap.size = w.heap.size + 1 + 1 := by omega
    have n3 : ¬ w2.heap.size = w.heap.size + 1 + 1 + 1 := by omega
    have n4 : ¬ w.heap.size = w2.heap.size := by omega
    have n5 : ¬ w.heap.size + 1 = w2.heap.size := by omega
    have n6 : ¬ w.heap.size + 1 + 1 = w2.heap.size := by omega
    have n7 : ¬ w.heap.size + 1 + 1 + 1 = w2.heap.size := by omega
    clear hI K2 hb3
    obtain ⟨⟨c0, c1, c2, c3, c4, c5, c6, c7, c8, c9, c10⟩, _⟩ := has11 K3.out.c
    obtain ⟨⟨m0, m1⟩, _⟩ := has2 K3.out.m
    obtain ⟨⟨d0, d1, d2, d3, d4, d5, d6, d7, d8, d9, d10⟩, ⟨f0, f1, f2, f3, f4, f5, f6, f7, f8, f9, f10⟩⟩ := has11 K3.out.d
    obtain ⟨⟨o0, o1⟩, ⟨q0, q1⟩⟩ := has2 K3.out.o
    go_wp2_with fail
    go_region
    all_goals go_wp2_with fail
    all_goals refine bodyPost_ret (v := .tuple #[.agg #[.int .u32 pc, .int .u32 r0, .int .u32 r1, .int .u32 r2, .int .u32 r3, .int .u32 r4, .int .u32 r5, .int .u32 r6, .int .u32 r7, .int .u32 b, .int .u32 s], .agg #[.slice (some ⟨xb, 0, none⟩) 2200 cB, .slice (some ⟨yb, 0, none⟩) 2200 cU], .int .i64 5, .int .i64 0]) (by simp [results, Tryz.results31, go_sem, d0, d1, d2, d3, d4, d5, d6, d7, d8, d9, d10, o0, o1]) rfl ?_
    all_goals obtain ⟨x1, x2⟩ := rst13 K5.out.bel (.int .u32 pc) (.int .u32 r0) (.int .u32 r1) (.int .u32 r2) (.int .u32 r3) (.int .u32 r4) (.int .u32 r5) (.int .u32 r6) (.int .u32 r7) (.int .u32 b) (.int .u32 s) (.slice (some ⟨xb, 0, none⟩) 2200 cB) (.slice (some ⟨yb, 0, none⟩) 2200 cU)
    all_goals exact ⟨_, _, rfl, (RB6.out).chg x1 (by have := HXB.out; omega) (by have := HXB.out; omega), x2, .inl rfl⟩
def rightC : Nat → Code → Code
 | 0, c => c
 | n + 1, .seq _ d => rightC n d
 | _, c => c
noncomputable def rdoRest : Code := rightC 9 (Tryz.f31.body.getD .skip)
set_option maxRecDepth 100000 in
set_option maxHeartbeats 8000000 in
theorem rdo_head (xb yb cB cU : Nat) (B : List Int) (r0 r1 r2 r3 r4 r5 r6 r7 b s : Int) (pc : Nat) (hB : B.length = 2200) (hBy : Bytes B) (h1 : pc < 4294967296) (w : World) (rB : RowAt w (some ⟨xb, 0, none⟩) cB B) (rU : BlAt w (some ⟨yb, 0, none⟩) cU U22) (op imm va vb : Int)  (x y n : Nat) (hx : x < 8) (hy : y < 8) (i0 : 0 ≤ imm) (i1 : imm < 4294967296) (hn : 1 ≤ n) (hn' : n ≤ 6) (hrd : Rd (codeL B T22 (pc : Int)) op x y imm n) (hva : Cp.reg ⟨pc, [r0, r1, r2, r3, r4, r5, r6, r7], b, s⟩ x = va) (hvb : Cp.reg ⟨pc, [r0, r1, r2, r3, r4, r5, r6, r7], b, s⟩ y = vb) (va0 : 0 ≤ va) (va1 : va < 4294967296) (vb0 : 0 ≤ vb) (vb1 : vb < 4294967296) (ok : Cp.Ok ⟨pc, [r0, r1, r2, r3, r4, r5, r6, r7], b, s⟩) {Post : Ending → World → Prop}
    (h : ∀ Q : Exit → Act → World → Prop, Q = bodyPost Tryz.prog Tryz.f31 Post → ∀ (I2 I4 : Nat) (W8 : World) (t8 t9 t17 t18 t19 t20 t21 t22 t23 t24 t25 t26 t27 t28 t29 t30 t31 t32 t33 t34 t35 t36 t37 t38 t39 t40 t41 t42 t43 t44 t45 t46 t47 t48 t49 t50 t51 t52 t53 t54 t55 t56 t57 t58 t59 t60 t61 t62 t63 t64 t65 t66 t67 t68 t69 t70 t71 : Value), RDoS w pc r0 r1 r2 r3 r4 r5 r6 r7 b s (.slice (some ⟨xb, 0, none⟩) 2200 cB) (.slice (some ⟨yb, 0, none⟩) 2200 cU) W8 → HasB W8 I2 100 [.int .i64 op, .int .i64 x, .int .i64 y, .int .u32 imm] → HasB W8 I4 47 [.int .u32 (((pc : Int) + (n : Int)) % 4294967296), .int .u32 r0, .int .u32 r1, .int .u32 r2, .int .u32 r3, .int .u32 r4, .int .u32 r5, .int .u32 r6, .int .u32 r7, .int .u32 b, .int .u32 s] →
      RowAt W8 (some ⟨xb, 0, none⟩) cB B → BlAt W8 (some ⟨yb, 0, none⟩) cU U22 → xb < w.heap.size → w.heap.size + 1 + 1 + 1 < I2 → I2 < I4 → Code.wp Tryz.prog rdoRest Q { tmps := #[.agg #[.int .u32 pc, .int .u32 r0, .int .u32 r1, .int .u32 r2, .int .u32 r3, .int .u32 r4, .int .u32 r5, .int .u32 r6, .int .u32 r7, .int .u32 b, .int .u32 s], .agg #[.slice (some ⟨xb, 0, none⟩) 2200 cB, .slice (some ⟨yb, 0, none⟩) 2200 cU], .pointer (some ⟨w.heap.size, 0, none⟩), .pointer (some ⟨w.heap.size + 1, 0, none⟩), .pointer (some ⟨w.heap.size + 1 + 1, 0, none⟩), .pointer (some ⟨w.heap.size + 1 + 1 + 1, 0, none⟩), .int .i64 0, .int .i64 0, t8, t9, .pointer (some ⟨I2, 0, none⟩), .int .i64 n, .pointer (some ⟨I4, 0, none⟩), .int .u32 va, .int .u32 vb, undef, undef, t17, t18, t19, t20, t21, t22, t23, t24, t25, t26, t27, t28, t29, t30, t31, t32, t33, t34, t35, t36, t37, t38, t39, t40, t41, t42, t43, t44, t45, t46, t47, t48, t49, t50, t51, t52, t53, t54, t55, t56, t57, t58, t59, t60, t61, t62, t63, t64, t65, t66, t67, t68, t69, t70, t71, undef, undef, undef, undef, undef, undef, undef, undef, undef, undef, undef, undef, undef, undef, undef, undef, undef, undef, undef, undef, undef, undef, undef, undef, undef, undef, undef, undef, undef, undef, undef, undef, undef, undef, undef, undef, undef, undef, undef, undef, undef, undef, undef, undef, undef, undef, undef, undef, undef, undef, undef, undef, undef, undef, undef, undef, undef, undef, undef, undef, undef, undef, undef, undef, undef, undef, undef, undef, undef, undef, undef, undef, undef, undef, undef, undef, undef, undef, undef, undef, undef, undef, undef, undef, undef, undef, undef, undef, undef, undef, undef, undef, undef, undef, undef, undef, undef, undef, undef, undef, undef, undef, undef, undef, undef, undef, undef, undef, undef, undef, undef, undef, undef, undef, undef, undef, undef, undef, undef, undef, undef, undef, undef, undef, undef, undef, undef, undef, undef, undef, undef, undef, undef, undef, undef, undef, undef, undef, undef, undef, undef, undef], defers := [] } W8) :
    Calls Tryz.prog 31 #[.agg #[.int .u32 pc, .int .u32 r0, .int .u32 r1, .int .u32 r2, .int .u32 r3, .int .u32 r4, .int .u32 r5, .int .u32 r6, .int .u32 r7, .int .u32 b, .int .u32 s], .agg #[.slice (some ⟨xb, 0, none⟩) 2200 cB, .slice (some ⟨yb, 0, none⟩) 2200 cU]] w Post := by
  have HH := Lib.hid (h _ rfl)
  clear h
  obtain ⟨W0, e1, k0, hz0⟩ := RDoS.new w pc r0 r1 r2 r3 r4 r5 r6 r7 b s (.slice (some ⟨xb, 0, none⟩) 2200 cB) (.slice (some ⟨yb, 0, none⟩) 2200 cU)
  have K0 := Lib.hid k0
  have y0 := k0.c.cell 0
  simp only [List.getElem?_cons_zero] at y0
  obtain ⟨K, hK⟩ : ∃ K, kf22 pc = K := ⟨_, rfl⟩
  have HC := Lib.hid (code22 B pc)
  rw [hK] at HC
  have hK6 : K ≤ 6 := by unfold kf22 at hK; split at hK <;> omega
  have hKB : (K = 0 ∧ (pc < 1024 ∨ 2048 ≤ pc)) ∨ (1024 ≤ pc ∧ pc + K ≤ 2048) := by unfold kf22 at hK; split at hK <;> omega
  have hKe : K = 6 ∨ 2048 ≤ pc + K ∨ pc < 1024 := by unfold kf22 at hK; split at hK <;> omega
  have hbel := k0.bel
  have HB0 := Lib.hid hbel
  have RB := Lib.hid (rB.below hbel)
  have RU := Lib.hid (rU.below hbel)
  have HXB := Lib.hid (show xb < w.heap.size by obtain ⟨x, hx, hlt, _⟩ := rB.2.2.2 (by intro e; subst e; simp at hB); injection hx with hx; subst hx; exact hlt)
  have HB := Lib.hid hB
  have HBy := Lib.hid hBy
  have HZ := Lib.hid hz0
  clear k0 hK rB rU hbel hB hBy hz0
  go_enter Tryz.func31, Tryz.ntmps31
  go_wp2_with fail
  clear y0 e1
  go_loopw [8, 9] (fun v i w' => RGet W0 K pc B v i w') (fun _ i _ => pc + 6 - (intOf i).toNat)
  case atStart => exact ⟨0, Nat.zero_le _, by go_num, World.ownsRow_nil _ _ _ _, Below.refl _ _⟩
  case round =>
    obtain ⟨k, hk, rfl, own, hb⟩ := hrel
    have KR := Lib.hid (K0.out.below hb)
    have OWN := Lib.hid own
    have HBW := Lib.hid hb
    have RBW := Lib.hid (RB.out.below hb)
    have RUW := Lib.hid (RU.out.below hb)
    clear own hb
    have y0 := KR.out.c.cell 0
    obtain ⟨⟨m0, m1⟩, _⟩ := has2 KR.out.m
    simp only [List.getElem?_cons_zero] at y0
    have n0 : (pc : Int) + (k : Int) ≤ 4294967302 := by omega
    go_upto_region 3 with fail
    go_cut [30] (fun s30 wx => s30 = .bool (decide (k < K)) ∧ Below wr.heap.size wr wx)
    case first =>
      by_cases hi6 : k < 6
      · as_aux_lemma =>
        have CA := fun W (r : BlAt W (some ⟨yb, 0, none⟩) cU U22) => all22 ⟨xb, 0, none⟩ yb (pc + k) 1 cB cU (by omega) (by decide) (by decide) W r
        rw [show decide (1024 ≤ pc + k ∧ pc + k + 1 ≤ 2048) = decide (k < K) by (congr 1; apply propext; omega), show ((pc + k : Nat) : Int) = (pc : Int) + (k : Int) by omega] at CA
        replace CA := Lib.hid CA
        have d6 : decide ((pc : Int) + (k : Int) < (pc : Int) + 6) = true := decide_eq_true (by omega)
        have i6 : (k : Int) < 6 := by omega
        obtain ⟨dk, hdk⟩ : ∃ dk, decide (k < K) = dk := ⟨_, rfl⟩
        rw [hdk] at CA
        have HD := Lib.hid hdk
        clear hdk
        go_wp2_with fail
        refine (CA.out _ RUW.out).mono ?_; rintro e w3 ⟨rfl, hb3⟩
        go_wp2_with fail
        go_meet
        exact ⟨by rw [HD.out], hb3⟩
      · as_aux_lemma =>
        have d6 : decide ((pc : Int) + (k : Int) < (pc : Int) + 6) = false := decide_eq_false (by omega)
        have i6 : 6 ≤ (k : Int) := by omega
        have hd := Lib.hid (show decide (k < K) = false from decide_eq_false (by omega))
        go_wp2_with fail
        go_meet
        exact ⟨by rw [hd.out], Below.refl _ _⟩
    case rest =>
    obtain ⟨rfl, hb3⟩ := hcut
    have KR3 := Lib.hid (KR.out.below hb3)
    have RB3 := Lib.hid (RBW.out.below hb3)
    have RU3 := Lib.hid (RUW.out.below hb3)
    have HB3 := Lib.hid (bel_then HBW.out hb3)
    have OWN3 := Lib.hid (own_belowR OWN.out hb3)
    clear hb3 y0 m0 m1 KR RBW RUW HBW OWN
    by_cases hlt : k < K
    · as_aux_lemma =>
      rw [decide_eq_true hlt]
      have hin : pc + k < 2048 := by omega
      have e2 : ((pc : Int) + (k : Int)).toNat = pc + k := by omega
      have n1 : (pc : Int) + (k : Int) < 2048 := by omega
      have HG := Lib.hid (get_take (B := B) (pc := pc) hlt (by rw [HB.out]; omega))
      have y1 := row_cell RB3.out (pc + k) (by rw [HB.out]; omega)
      have hbd := row_byte HBy.out (pc + k)
      obtain ⟨x, hx⟩ : ∃ x, B.getD (pc + k) 0 = x := ⟨_, rfl⟩
      rw [hx] at y1 hbd HG
      obtain ⟨⟨z0, z1⟩, _⟩ := has2 KR3.out.m
      clear hx
      have HX := Lib.hid (row_new wc [x] 5 1 (Nat.le_refl _) (by decide) (fun z hz => by simp at hz; subst hz; exact hbd))
      have HLL := Lib.hid (show Bytes (((B.drop pc).take K).take k) from take_byte (take_byte (drop_byte HBy.out _) _) _)
      have hsz3 := HB3.out.size
      clear hbd
      generalize ((B.drop pc).take K).take k = L at *
      go_wp2_with (first
        | (at_builtin
           refine append_row rfl (.tmp 33) (.tmp 39) rfl W0.heap.size u8 k L rfl (OWN3.out.alloc _) HLL.out _ 1 1 [x] rfl rfl 1 HX.out (k + 1) rfl (by omega) (by (try simp) <;> omega) ?_
           intro A4 c4 w4 own4 row4 bel4
           have OWN4 := Lib.hid own4
           have BEL4 := Lib.hid bel4
           clear own4 row4 bel4))
      go_roundw
      case rel => exact ⟨k + 1, hlt, by go_num, by rw [HG.out]; exact OWN4.out, (bel_al HB3.out _).trans BEL4.out⟩
      case measure => simp [intOf]; omega
    rw [decide_eq_false hlt]
    have hkK : k = K := by omega
    subst hkK
    clear hlt hk
    have hown := OWN3.out
    rw [List.take_take, Nat.min_self] at hown
    obtain ⟨LB, hLB⟩ : ∃ LB, (B.drop pc).take k = LB := ⟨_, rfl⟩
    rw [hLB] at hown HC
    have hLL : LB.length = k := by rw [← hLB, List.length_take, List.length_drop, HB.out]; omega
    have hLby : Bytes LB := by rw [← hLB]; exact take_byte (drop_byte HBy.out _) _
    obtain ⟨AB, cAB, rfl, hq, hrow⟩ := row_of_own hown hLby
    clear hq
    have RL := Lib.hid hrow
    have HLL := Lib.hid hLL
    have HLby := Lib.hid hLby
    clear hown hrow hLL hLby hLB OWN3
    rw [HC.out] at hrd
    have HN := Lib.hid hrd
    have LNE := Lib.hid (show 0 < LB.length by obtain ⟨_, t, e, _⟩ := hrd; rw [e]; simp)
    clear hrd
    have g0 : ((k : Int) == 0) = false := by rw [beq_eq_false_iff_ne]; have := HLL.out; have := LNE.out; omega
    go_wp2_with fail
    have RN := rRead_yes LB AB cAB 0 op x y imm n (by rw [HLL.out]; omega) HN.out wc RL.out
    rw [HLL.out] at RN
    refine RN.mono ?_; rintro e w2 ⟨rfl, hb⟩
    unfold insV
    clear RN
    have K2 := Lib.hid (KR3.out.below hb)
    have RB4 := Lib.hid (RB3.out.below hb)
    have RU4 := Lib.hid (RU3.out.below hb)
    clear hb KR3 RB3 RU3 HB3 RL HLby
    have gn : ((n : Int) == 0) = false := by rw [beq_eq_false_iff_ne]; omega
    have N0 : (1 : Int) ≤ (n : Int) := by omega
    have N1 : (n : Int) ≤ 6 := by omega
    obtain ⟨W3, W4, W5, W6, W7, e3, e4, e5, e6, e7, hI, K4, hN, K6, hN6, K7, hI7, hN7, b7, z0, z4⟩ := rdo_worlds K2.out (op) x y imm (((pc : Int) + (n : Int)) % 4294967296)
    have RB5 := Lib.hid (RB4.out.below b7)
    have RU5 := Lib.hid (RU4.out.below b7)
    obtain ⟨⟨t0, t1⟩, ⟨t2, t3⟩⟩ : (W3.cell? ⟨w2.heap.size, 0, none⟩ = some (.int .i64 0) ∧ W3.cell? ⟨w2.heap.size, 1, none⟩ = some (.int .i64 0)) ∧ (W3.cell? ⟨w2.heap.size, 2, none⟩ = some (.int .i64 0) ∧ W3.cell? ⟨w2.heap.size, 3, none⟩ = some (.int .u32 0)) := ⟨⟨hI.cell 0, hI.cell 1⟩, ⟨hI.cell 2, hI.cell 3⟩⟩
    have u0 := hI.frozen 0
    have u1 := hI.frozen 1
    have u2 := hI.frozen 2
    have u3 := hI.frozen 3
    obtain ⟨⟨c0, c1, c2, c3, c4, c5, c6, c7, c8, c9, c10⟩, _⟩ := has11 K4.c
    obtain ⟨⟨m0, m1, m2, m3, m4, m5, m6, m7, m8, m9, m10⟩, ⟨f0, f1, f2, f3, f4, f5, f6, f7, f8, f9, f10⟩⟩ := has11 hN
    have p0 := hN6.cell 0
    have p1 := hN6.frozen 0
    have p2 := K6.c.cell 0
    obtain ⟨⟨q0, q1⟩, ⟨q2, q3⟩⟩ : (W7.cell? ⟨w2.heap.size, 0, none⟩ = some (.int .i64 (op)) ∧ W7.cell? ⟨w2.heap.size, 1, none⟩ = some (.int .i64 x)) ∧ (W7.cell? ⟨w2.heap.size, 2, none⟩ = some (.int .i64 y) ∧ W7.cell? ⟨w2.heap.size, 3, none⟩ = some (.int .u32 imm)) := ⟨⟨hI7.cell 0, hI7.cell 1⟩, ⟨hI7.cell 2, hI7.cell 3⟩⟩
    simp only [List.getElem?_cons_zero] at p0 p2
    have x1 : W7.cell? ⟨w.heap.size, 1 + x, none⟩ = some (.int .u32 va) := by rw [K7.c.cell, ← hva]; exact Cp.cs_reg ok x hx
    have x2 : W7.cell? ⟨w.heap.size, 1 + y, none⟩ = some (.int .u32 vb) := by rw [K7.c.cell, ← hvb]; exact Cp.cs_reg ok y hy
    have HK7 := Lib.hid K7
    have HI7 := Lib.hid hI7
    have HN7 := Lib.hid hN7
    have HVA := Lib.hid hva
    have HVB := Lib.hid hvb
    have OK := Lib.hid ok
    have xI : (x : Int) < 8 := by omega
    have yI : (y : Int) < 8 := by omega
    clear hI K4 hN K6 hN6 K7 hI7 hN7 b7 hva hvb ok K2 RB4 RU4
    go_wp2_with fail
    go_quiet (fail)
    obtain ⟨W8, e8⟩ : ∃ W8, W7.drewN nq = W8 := ⟨_, rfl⟩
    have b8 : Below W7.heap.size W7 W8 := by rw [← e8]; exact below_drewN (Below.refl _ _) nq
    rw [e8]
    have k8 := HK7.out.below b8
    have i8 := HI7.out.below b8
    have d8 := HN7.out.below b8
    have RB8 := Lib.hid (RB5.out.below b8)
    have RU8 := Lib.hid (RU5.out.below b8)
    clear e3 e4 e5 e6 e7 t0 t1 t2 t3 u0 u1 u2 u3 c0 c1 c2 c3 c4 c5 c6 c7 c8 c9 c10 m0 m1 m2 m3 m4 m5 m6 m7 m8 m9 m10 f0 f1 f2 f3 f4 f5 f6 f7 f8 f9 f10 p0 p1 p2 q0 q1 q2 q3 x1 x2 e8 b8 HK7 HI7 HN7 RB5 RU5 HN gn g0 xI yI
    have xI : (x : Int) < 8 := by omega
    rename_i K9 h9
    show K9 _ _
    exact h9 _ _ (HH.out _ _ W8 _ _ _ _ _ _ _ _ _ _ _ _ _ _ _ _ _ _ _ _ _ _ _ _ _ _ _ _ _ _ _ _ _ _ _ _ _ _ _ _ _ _ _ _ _ _ _ _ _ _ _ _ _ _ _ _ _ k8 i8 d8 RB8.out RU8.out HXB.out z0 z4)
end Go.Proofs.YtbgnkljeodandaaGreat.Mm
