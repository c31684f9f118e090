/- A run of package step. -/
import Derived.Test.YthmcddecgdegdaaStepLaw
import Derived.ScopeJumps
import Derived.WalkMore
namespace Go.Proofs.Ythmcddecgdegdaa.Mm
open Go.ChangeShapes Go.WideShapes Go.ChangeAt Go.RowKit
set_option linter.unusedVariables false

noncomputable def stepF (x : Ou) (T : List Bool) : Ou := Classical.choose (step_or x.c x.B T)
theorem stepF_is (x : Ou) (T : List Bool) : StepIs x.c x.B T (stepF x T) := Classical.choose_spec (step_or x.c x.B T)
/-- step by step -/
noncomputable def seqF (x : Ou) (T : List Bool) : Nat → Ou
  | 0 => x
  | n + 1 => stepF (seqF x T n) T
/-- what is known of the k-th one -/
structure SeqS (x : Ou) (T : List Bool) (n : Int) (k : Nat) (y : Ou) : Prop where
  eq : seqF x T k = y
  runs : ∀ j, j < k → (seqF x T j).what = 0
  lim : (k : Int) ≤ n ∨ k = 0
  ok : y.c.Ok
/-- the blocks of a call of Run -/
structure RunS (w : World) (p g h : Nat) (T : List Bool) (pc r0 r1 r2 r3 r4 r5 r6 r7 b s : Int) (B : List Int) (wh ga : Int) (W : World) : Prop where
  m : MemAt W p g h B T
  c : HasB W w.heap.size 57 [.int .u32 pc, .int .u32 r0, .int .u32 r1, .int .u32 r2, .int .u32 r3, .int .u32 r4, .int .u32 r5, .int .u32 r6, .int .u32 r7, .int .u32 b, .int .u32 s]
  d : HasB W (w.heap.size + 1) 57 [.int .u32 0, .int .u32 0, .int .u32 0, .int .u32 0, .int .u32 0, .int .u32 0, .int .u32 0, .int .u32 0, .int .u32 0, .int .u32 0, .int .u32 0]
  o : HasB W (w.heap.size + 1 + 1) 60 [.int .i64 0, .int .i64 0]
  v : HasB W (w.heap.size + 1 + 1 + 1) 60 [.int .i64 wh, .int .i64 ga]
  chg : Chg g g w W
theorem RunS.new {w : World} {p g h : Nat} {B : List Int} {T : List Bool} (m : MemAt w p g h B T) (pc r0 r1 r2 r3 r4 r5 r6 r7 b s : Int) :
    ∃ W, (((w.alloc (.cells #[.int .u32 pc, .int .u32 r0, .int .u32 r1, .int .u32 r2, .int .u32 r3, .int .u32 r4, .int .u32 r5, .int .u32 r6, .int .u32 r7, .int .u32 b, .int .u32 s] 57)).alloc (.cells #[.int .u32 0, .int .u32 0, .int .u32 0, .int .u32 0, .int .u32 0, .int .u32 0, .int .u32 0, .int .u32 0, .int .u32 0, .int .u32 0, .int .u32 0] 57)).alloc (.cells #[.int .i64 0, .int .i64 0] 60)).alloc (.cells #[.int .i64 0, .int .i64 0] 60) = W ∧ RunS w p g h T pc r0 r1 r2 r3 r4 r5 r6 r7 b s B 0 0 W := by
  refine ⟨_, rfl, m.below (bel_al (bel_al (bel_al (bel_al (Below.refl _ _) _) _) _) _), ?_, ?_, ?_, ?_, Chg.of (bel_al (bel_al (bel_al (bel_al (Below.refl _ _) _) _) _) _)⟩
  · exact ((((HasB.newAt w _ _ _ rfl).al _).al _).al _)
  · exact (((HasB.newAt _ _ _ _ (by simp)).al _).al _)
  · exact ((HasB.newAt _ _ _ _ (by simp)).al _)
  · exact HasB.newAt _ _ _ _ (by simp)
/-- behind a step -/
theorem RunS.next {w W W1 : World} {p g h : Nat} {T : List Bool} {B B' : List Int} {pc r0 r1 r2 r3 r4 r5 r6 r7 b s wh ga : Int} (k : RunS w p g h T pc r0 r1 r2 r3 r4 r5 r6 r7 b s B wh ga W) (m : MemAt W1 p g h B' T) (c : Chg g g W W1) :
    RunS w p g h T pc r0 r1 r2 r3 r4 r5 r6 r7 b s B' wh ga W1 := by
  have a1 := k.m.bytes.ne k.c (by decide)
  have a2 := k.m.bytes.ne k.d (by decide)
  have a3 := k.m.bytes.ne k.o (by decide)
  have a4 := k.m.bytes.ne k.v (by decide)
  exact ⟨m, k.c.chg c a1.symm a1.symm, k.d.chg c a2.symm a2.symm, k.o.chg c a3.symm a3.symm, k.v.chg c a4.symm a4.symm, k.chg.trans c⟩
theorem RunS.put {w W : World} {p g h : Nat} {T : List Bool} {B : List Int} {pc r0 r1 r2 r3 r4 r5 r6 r7 b s wh ga : Int} (k : RunS w p g h T pc r0 r1 r2 r3 r4 r5 r6 r7 b s B wh ga W) (qc s0 s1 s2 s3 s4 s5 s6 s7 b1 z1 wh' ga' : Int) :
    RunS w p g h T qc s0 s1 s2 s3 s4 s5 s6 s7 b1 z1 B wh' ga' (((((((((((((W.setCell ⟨w.heap.size, 0, none⟩ (.int .u32 qc)).setCell ⟨w.heap.size, 1, none⟩ (.int .u32 s0)).setCell ⟨w.heap.size, 2, none⟩ (.int .u32 s1)).setCell ⟨w.heap.size, 3, none⟩ (.int .u32 s2)).setCell ⟨w.heap.size, 4, none⟩ (.int .u32 s3)).setCell ⟨w.heap.size, 5, none⟩ (.int .u32 s4)).setCell ⟨w.heap.size, 6, none⟩ (.int .u32 s5)).setCell ⟨w.heap.size, 7, none⟩ (.int .u32 s6)).setCell ⟨w.heap.size, 8, none⟩ (.int .u32 s7)).setCell ⟨w.heap.size, 9, none⟩ (.int .u32 b1)).setCell ⟨w.heap.size, 10, none⟩ (.int .u32 z1)).setCell ⟨w.heap.size + 1 + 1 + 1, 0, none⟩ (.int .i64 wh')).setCell ⟨w.heap.size + 1 + 1 + 1, 1, none⟩ (.int .i64 ga')) := by
  have c1 : Chg w.heap.size (w.heap.size + 1 + 1 + 1) W (((((((((((((W.setCell ⟨w.heap.size, 0, none⟩ (.int .u32 qc)).setCell ⟨w.heap.size, 1, none⟩ (.int .u32 s0)).setCell ⟨w.heap.size, 2, none⟩ (.int .u32 s1)).setCell ⟨w.heap.size, 3, none⟩ (.int .u32 s2)).setCell ⟨w.heap.size, 4, none⟩ (.int .u32 s3)).setCell ⟨w.heap.size, 5, none⟩ (.int .u32 s4)).setCell ⟨w.heap.size, 6, none⟩ (.int .u32 s5)).setCell ⟨w.heap.size, 7, none⟩ (.int .u32 s6)).setCell ⟨w.heap.size, 8, none⟩ (.int .u32 s7)).setCell ⟨w.heap.size, 9, none⟩ (.int .u32 b1)).setCell ⟨w.heap.size, 10, none⟩ (.int .u32 z1)).setCell ⟨w.heap.size + 1 + 1 + 1, 0, none⟩ (.int .i64 wh')).setCell ⟨w.heap.size + 1 + 1 + 1, 1, none⟩ (.int .i64 ga')) := chg_set (chg_set (chg_set (chg_set (chg_set (chg_set (chg_set (chg_set (chg_set (chg_set (chg_set (chg_set (chg_set (Chg.refl _ _ _) _ (.inl rfl) _ _) _ (.inl rfl) _ _) _ (.inl rfl) _ _) _ (.inl rfl) _ _) _ (.inl rfl) _ _) _ (.inl rfl) _ _) _ (.inl rfl) _ _) _ (.inl rfl) _ _) _ (.inl rfl) _ _) _ (.inl rfl) _ _) _ (.inl rfl) _ _) _ (.inr rfl) _ _) _ (.inr rfl) _ _
  have a1 := k.m.own.ne k.c (by decide)
  have a2 := k.m.bytes.ne k.c (by decide)
  have a3 := k.m.zones.ne k.c (by decide)
  have b1 := k.m.own.ne k.v (by decide)
  have b2 := k.m.bytes.ne k.v (by decide)
  have b3 := k.m.zones.ne k.v (by decide)
  have n1 : w.heap.size ≠ w.heap.size + 1 + 1 + 1 := by omega
  have n2 : w.heap.size + 1 + 1 + 1 ≠ w.heap.size := by omega
  exact ⟨k.m.chg c1 a1 b1 a2 b2 a3 b3, has_far (has_far (has_set (has_set (has_set (has_set (has_set (has_set (has_set (has_set (has_set (has_set (has_set (k.c) 0 _) 1 _) 2 _) 3 _) 4 _) 5 _) 6 _) 7 _) 8 _) 9 _) 10 _) n1 0 _) n1 1 _, k.d.chg c1 (by omega) (by omega), k.o.chg c1 (by omega) (by omega), has_set (has_set (has_far (has_far (has_far (has_far (has_far (has_far (has_far (has_far (has_far (has_far (has_far (k.v) n2 0 _) n2 1 _) n2 2 _) n2 3 _) n2 4 _) n2 5 _) n2 6 _) n2 7 _) n2 8 _) n2 9 _) n2 10 _) 0 _) 1 _, chg_new (chg_new (chg_new (chg_new (chg_new (chg_new (chg_new (chg_new (chg_new (chg_new (chg_new (chg_new (chg_new (k.chg) _ (by omega) _ _) _ (by omega) _ _) _ (by omega) _ _) _ (by omega) _ _) _ (by omega) _ _) _ (by omega) _ _) _ (by omega) _ _) _ (by omega) _ _) _ (by omega) _ _) _ (by omega) _ _) _ (by omega) _ _) _ (by omega) _ _) _ (by omega) _ _⟩
def RunP (w : World) (p g h : Nat) (x : Ou) (T : List Bool) (n : Int) (e : Ending) (w' : World) : Prop :=
  ∃ k y, SeqS x T n k y ∧ (n ≤ (k : Int) ∨ y.what ≠ 0) ∧ e = .returned (.tuple #[y.c.val, .agg #[.int .i64 y.what, .int .i64 y.gate], .int .i64 k]) ∧ MemAt w' p g h y.B T ∧ Chg g g w w'
set_option maxRecDepth 100000 in
set_option maxHeartbeats 8000000 in
theorem run_lit {w : World} {p g h : Nat} {B : List Int} {T : List Bool} (m : MemAt w p g h B T) (pc r0 r1 r2 r3 r4 r5 r6 r7 b s n : Int) (hn : n ≤ 9223372036854775807) (o : (⟨pc, [r0, r1, r2, r3, r4, r5, r6, r7], b, s⟩ : Cp).Ok) :
    Calls Try.prog 31 #[.agg #[.int .u32 pc, .int .u32 r0, .int .u32 r1, .int .u32 r2, .int .u32 r3, .int .u32 r4, .int .u32 r5, .int .u32 r6, .int .u32 r7, .int .u32 b, .int .u32 s], .pointer (some ⟨p, 0, none⟩), .int .i64 n] w (RunP w p g h ⟨⟨pc, [r0, r1, r2, r3, r4, r5, r6, r7], b, s⟩, B, 0, 0⟩ T n) := by
  obtain ⟨W, eW0, k0⟩ := RunS.new m pc r0 r1 r2 r3 r4 r5 r6 r7 b s
  have K := Lib.hid k0
  have SS : Hid (SeqS ⟨⟨pc, [r0, r1, r2, r3, r4, r5, r6, r7], b, s⟩, B, 0, 0⟩ T n 0 ⟨⟨pc, [r0, r1, r2, r3, r4, r5, r6, r7], b, s⟩, B, 0, 0⟩) := ⟨rfl, fun j hj => absurd hj (Nat.not_lt_zero _), .inr rfl, o⟩
  clear k0 m o
  go_enter Try.func31, Try.ntmps31
  go_wp2_with fail
  refine wp_scope_jumps 0 (fun a' w' => ∃ (k : Nat) (qc s0 s1 s2 s3 s4 s5 s6 s7 b1 z1 : Int) (B1 : List Int) (wh ga : Int) (u11 u12 u13 u14 u15 u16 u17 u18 u19 u20 u21 u22 u23 u24 u25 u26 u27 u28 u29 : Value), a' = { tmps := #[.agg #[.int .u32 pc, .int .u32 r0, .int .u32 r1, .int .u32 r2, .int .u32 r3, .int .u32 r4, .int .u32 r5, .int .u32 r6, .int .u32 r7, .int .u32 b, .int .u32 s], .pointer (some ⟨p, 0, none⟩), .int .i64 n, .pointer (some ⟨w.heap.size, 0, none⟩), undef, undef, .pointer (some ⟨w.heap.size + 1, 0, none⟩), .pointer (some ⟨w.heap.size + 1 + 1, 0, none⟩), .int .i64 0, .pointer (some ⟨w.heap.size + 1 + 1 + 1, 0, none⟩), .int .i64 k, u11, u12, u13, u14, u15, u16, u17, u18, u19, u20, u21, u22, u23, u24, u25, u26, u27, u28, u29], defers := [] } ∧ RunS w p g h T qc s0 s1 s2 s3 s4 s5 s6 s7 b1 z1 B1 wh ga w' ∧ SeqS ⟨⟨pc, [r0, r1, r2, r3, r4, r5, r6, r7], b, s⟩, B, 0, 0⟩ T n k ⟨⟨qc, [s0, s1, s2, s3, s4, s5, s6, s7], b1, z1⟩, B1, wh, ga⟩) (fun a' _ => (n - intOf (a'.tmps.getD 10 undef)).toNat) rfl ?_ ?_
  · go_wp2_with fail
    go_step3
    clear eW0
    obtain ⟨⟨c0, c1, c2, c3, c4, c5, c6, c7, c8, c9, c10⟩, ⟨e0, e1, e2, e3, e4, e5, e6, e7, e8, e9, e10⟩⟩ := has11 K.out.c
    obtain ⟨⟨d0, d1, d2, d3, d4, d5, d6, d7, d8, d9, d10⟩, ⟨f0, f1, f2, f3, f4, f5, f6, f7, f8, f9, f10⟩⟩ := has11 K.out.d
    obtain ⟨⟨o0, o1⟩, ⟨q0, q1⟩⟩ := has2 K.out.o
    obtain ⟨⟨v0, v1⟩, ⟨y0, y1⟩⟩ := has2 K.out.v
    by_cases hkn : n ≤ 0
    · have hk1 : decide (n ≤ 0) = true := decide_eq_true hkn
      have HKN := Lib.hid hkn
      clear hkn e0 e1 e2 e3 e4 e5 e6 e7 e8 e9 e10 y0 y1
      go_wp2_with fail
      go_region
      all_goals go_wp2_with fail
      simp only [Exit.jump]
      refine bodyPost_ret (v := .tuple #[.agg #[.int .u32 pc, .int .u32 r0, .int .u32 r1, .int .u32 r2, .int .u32 r3, .int .u32 r4, .int .u32 r5, .int .u32 r6, .int .u32 r7, .int .u32 b, .int .u32 s], .agg #[.int .i64 0, .int .i64 0], .int .i64 0]) (by simp [results, Try.results31, go_sem, d0, d1, d2, d3, d4, d5, d6, d7, d8, d9, d10, o0, o1]) rfl ⟨0, ⟨⟨pc, [r0, r1, r2, r3, r4, r5, r6, r7], b, s⟩, B, 0, 0⟩, SS.out, .inl HKN.out, rfl, ?_⟩
      obtain ⟨x1, x2⟩ := st13 K.out.m K.out.d K.out.o K.out.chg (.int .u32 pc) (.int .u32 r0) (.int .u32 r1) (.int .u32 r2) (.int .u32 r3) (.int .u32 r4) (.int .u32 r5) (.int .u32 r6) (.int .u32 r7) (.int .u32 b) (.int .u32 s) (.int .i64 0) (.int .i64 0)
      exact ⟨x1.below (Below.refl _ _).drew, chg_drew x2⟩
    have hk1 : decide (n ≤ 0) = false := decide_eq_false hkn
    have hk2 : 0 < 9223372036854775807 := by omega
    by_cases hwh : 0 = 0
    · have hw1 : (0 != 0) = false := by rw [hwh]; rfl
      have HWH := Lib.hid hwh
      have HKN := Lib.hid hkn
      have HOK := Lib.hid SS.out.ok
      clear hwh hkn d0 d1 d2 d3 d4 d5 d6 d7 d8 d9 d10 f0 f1 f2 f3 f4 f5 f6 f7 f8 f9 f10 o0 o1 q0 q1
      go_wp2_with fail
      have hd := step_any (c := ⟨pc, [r0, r1, r2, r3, r4, r5, r6, r7], b, s⟩) K.out.m HOK.out (stepF_is ⟨⟨pc, [r0, r1, r2, r3, r4, r5, r6, r7], b, s⟩, B, 0, 0⟩ T)
      rw [val_lit] at hd
      refine hd.mono ?_
      clear hd
      rintro e w1 ⟨rfl, m1, ch1⟩
      have hok := (step_ok HOK.out K.out.m.byte K.out.m.len (stepF_is ⟨⟨pc, [r0, r1, r2, r3, r4, r5, r6, r7], b, s⟩, B, 0, 0⟩ T)).1
      generalize hy : stepF ⟨⟨pc, [r0, r1, r2, r3, r4, r5, r6, r7], b, s⟩, B, 0, 0⟩ T = y at m1 hok ⊢
      have HY := Lib.hid hy
      clear hy
      obtain ⟨t0, t1, t2, t3, t4, t5, t6, t7, ht⟩ := hok.eight
      obtain ⟨⟨tc, tr, b2, z2⟩, B2, wh2, ga2⟩ := y
      simp only at ht
      subst ht
      have HOK2 := Lib.hid hok
      have K1 := Lib.hid (K.out.next m1 ch1)
      clear hok m1 ch1 K c0 c1 c2 c3 c4 c5 c6 c7 c8 c9 c10 e0 e1 e2 e3 e4 e5 e6 e7 e8 e9 e10 v0 v1 y0 y1
      obtain ⟨⟨c0, c1, c2, c3, c4, c5, c6, c7, c8, c9, c10⟩, ⟨e0, e1, e2, e3, e4, e5, e6, e7, e8, e9, e10⟩⟩ := has11 K1.out.c
      obtain ⟨⟨v0, v1⟩, ⟨y0, y1⟩⟩ := has2 K1.out.v
      obtain ⟨W2, eW⟩ : ∃ W2, (((((((((((((w1.setCell ⟨w.heap.size, 0, none⟩ (.int .u32 tc)).setCell ⟨w.heap.size, 1, none⟩ (.int .u32 t0)).setCell ⟨w.heap.size, 2, none⟩ (.int .u32 t1)).setCell ⟨w.heap.size, 3, none⟩ (.int .u32 t2)).setCell ⟨w.heap.size, 4, none⟩ (.int .u32 t3)).setCell ⟨w.heap.size, 5, none⟩ (.int .u32 t4)).setCell ⟨w.heap.size, 6, none⟩ (.int .u32 t5)).setCell ⟨w.heap.size, 7, none⟩ (.int .u32 t6)).setCell ⟨w.heap.size, 8, none⟩ (.int .u32 t7)).setCell ⟨w.heap.size, 9, none⟩ (.int .u32 b2)).setCell ⟨w.heap.size, 10, none⟩ (.int .u32 z2)).setCell ⟨w.heap.size + 1 + 1 + 1, 0, none⟩ (.int .i64 wh2)).setCell ⟨w.heap.size + 1 + 1 + 1, 1, none⟩ (.int .i64 ga2)) = W2 := ⟨_, rfl⟩
      have K2 := K1.out.put tc t0 t1 t2 t3 t4 t5 t6 t7 b2 z2 wh2 ga2
      rw [eW] at K2
      replace K2 := Lib.hid K2
      dsimp only
      rw [val_lit]
      go_wp2_with fail
      go_step3
      refine ⟨rfl, 1, tc, t0, t1, t2, t3, t4, t5, t6, t7, b2, z2, B2, wh2, ga2, _, _, _, _, _, _, _, _, _, _, _, _, _, _, _, _, _, _, _, rfl, K2.out, ?_⟩
      exact ⟨HY.out, fun j hj => (by cases j with
        | zero => rfl
        | succ j => omega), .inl (by have := HKN.out; omega), HOK2.out⟩
    exact absurd rfl hwh
  · rintro a' w' ⟨k, qc, s0, s1, s2, s3, s4, s5, s6, s7, b1, z1, B1, wh, ga, u11, u12, u13, u14, u15, u16, u17, u18, u19, u20, u21, u22, u23, u24, u25, u26, u27, u28, u29, rfl, K, SS⟩
    clear eW0
    replace K := Lib.hid K
    replace SS := Lib.hid SS
    generalize hX : (⟨⟨pc, [r0, r1, r2, r3, r4, r5, r6, r7], b, s⟩, B, 0, 0⟩ : Ou) = X at *
    obtain ⟨⟨c0, c1, c2, c3, c4, c5, c6, c7, c8, c9, c10⟩, ⟨e0, e1, e2, e3, e4, e5, e6, e7, e8, e9, e10⟩⟩ := has11 K.out.c
    obtain ⟨⟨d0, d1, d2, d3, d4, d5, d6, d7, d8, d9, d10⟩, ⟨f0, f1, f2, f3, f4, f5, f6, f7, f8, f9, f10⟩⟩ := has11 K.out.d
    obtain ⟨⟨o0, o1⟩, ⟨q0, q1⟩⟩ := has2 K.out.o
    obtain ⟨⟨v0, v1⟩, ⟨y0, y1⟩⟩ := has2 K.out.v
    by_cases hkn : n ≤ (k : Int)
    · have hk1 : decide (n ≤ (k : Int)) = true := decide_eq_true hkn
      have HKN := Lib.hid hkn
      clear hkn e0 e1 e2 e3 e4 e5 e6 e7 e8 e9 e10 y0 y1
      go_wp2_with fail
      go_region
      all_goals go_wp2_with fail
      simp only [Exit.jump]
      refine bodyPost_ret (v := .tuple #[.agg #[.int .u32 qc, .int .u32 s0, .int .u32 s1, .int .u32 s2, .int .u32 s3, .int .u32 s4, .int .u32 s5, .int .u32 s6, .int .u32 s7, .int .u32 b1, .int .u32 z1], .agg #[.int .i64 wh, .int .i64 ga], .int .i64 k]) (by simp [results, Try.results31, go_sem, d0, d1, d2, d3, d4, d5, d6, d7, d8, d9, d10, o0, o1]) rfl ⟨k, ⟨⟨qc, [s0, s1, s2, s3, s4, s5, s6, s7], b1, z1⟩, B1, wh, ga⟩, SS.out, .inl HKN.out, rfl, ?_⟩
      obtain ⟨x1, x2⟩ := st13 K.out.m K.out.d K.out.o K.out.chg (.int .u32 qc) (.int .u32 s0) (.int .u32 s1) (.int .u32 s2) (.int .u32 s3) (.int .u32 s4) (.int .u32 s5) (.int .u32 s6) (.int .u32 s7) (.int .u32 b1) (.int .u32 z1) (.int .i64 wh) (.int .i64 ga)
      exact ⟨x1.below (Below.refl _ _).drew, chg_drew x2⟩
    have hk1 : decide (n ≤ (k : Int)) = false := decide_eq_false hkn
    have hk2 : (k : Int) < 9223372036854775807 := by omega
    by_cases hwh : wh = 0
    · have hw1 : (wh != 0) = false := by rw [hwh]; rfl
      have HWH := Lib.hid hwh
      have HKN := Lib.hid hkn
      have HOK := Lib.hid SS.out.ok
      clear hwh hkn d0 d1 d2 d3 d4 d5 d6 d7 d8 d9 d10 f0 f1 f2 f3 f4 f5 f6 f7 f8 f9 f10 o0 o1 q0 q1
      go_wp2_with fail
      have hd := step_any (c := ⟨qc, [s0, s1, s2, s3, s4, s5, s6, s7], b1, z1⟩) K.out.m HOK.out (stepF_is ⟨⟨qc, [s0, s1, s2, s3, s4, s5, s6, s7], b1, z1⟩, B1, wh, ga⟩ T)
      rw [val_lit] at hd
      refine hd.mono ?_
      clear hd
      rintro e w1 ⟨rfl, m1, ch1⟩
      have hok := (step_ok HOK.out K.out.m.byte K.out.m.len (stepF_is ⟨⟨qc, [s0, s1, s2, s3, s4, s5, s6, s7], b1, z1⟩, B1, wh, ga⟩ T)).1
      generalize hy : stepF ⟨⟨qc, [s0, s1, s2, s3, s4, s5, s6, s7], b1, z1⟩, B1, wh, ga⟩ T = y at m1 hok ⊢
      have HY := Lib.hid hy
      clear hy
      obtain ⟨t0, t1, t2, t3, t4, t5, t6, t7, ht⟩ := hok.eight
      obtain ⟨⟨tc, tr, b2, z2⟩, B2, wh2, ga2⟩ := y
      simp only at ht
      subst ht
      have HOK2 := Lib.hid hok
      have K1 := Lib.hid (K.out.next m1 ch1)
      clear hok m1 ch1 K c0 c1 c2 c3 c4 c5 c6 c7 c8 c9 c10 e0 e1 e2 e3 e4 e5 e6 e7 e8 e9 e10 v0 v1 y0 y1
      obtain ⟨⟨c0, c1, c2, c3, c4, c5, c6, c7, c8, c9, c10⟩, ⟨e0, e1, e2, e3, e4, e5, e6, e7, e8, e9, e10⟩⟩ := has11 K1.out.c
      obtain ⟨⟨v0, v1⟩, ⟨y0, y1⟩⟩ := has2 K1.out.v
      obtain ⟨W2, eW⟩ : ∃ W2, (((((((((((((w1.setCell ⟨w.heap.size, 0, none⟩ (.int .u32 tc)).setCell ⟨w.heap.size, 1, none⟩ (.int .u32 t0)).setCell ⟨w.heap.size, 2, none⟩ (.int .u32 t1)).setCell ⟨w.heap.size, 3, none⟩ (.int .u32 t2)).setCell ⟨w.heap.size, 4, none⟩ (.int .u32 t3)).setCell ⟨w.heap.size, 5, none⟩ (.int .u32 t4)).setCell ⟨w.heap.size, 6, none⟩ (.int .u32 t5)).setCell ⟨w.heap.size, 7, none⟩ (.int .u32 t6)).setCell ⟨w.heap.size, 8, none⟩ (.int .u32 t7)).setCell ⟨w.heap.size, 9, none⟩ (.int .u32 b2)).setCell ⟨w.heap.size, 10, none⟩ (.int .u32 z2)).setCell ⟨w.heap.size + 1 + 1 + 1, 0, none⟩ (.int .i64 wh2)).setCell ⟨w.heap.size + 1 + 1 + 1, 1, none⟩ (.int .i64 ga2)) = W2 := ⟨_, rfl⟩
      have K2 := K1.out.put tc t0 t1 t2 t3 t4 t5 t6 t7 b2 z2 wh2 ga2
      rw [eW] at K2
      replace K2 := Lib.hid K2
      dsimp only
      rw [val_lit]
      go_wp2_with fail
      go_step3
      refine ⟨rfl, ⟨k + 1, tc, t0, t1, t2, t3, t4, t5, t6, t7, b2, z2, B2, wh2, ga2, _, _, _, _, _, _, _, _, _, _, _, _, _, _, _, _, _, _, _, rfl, K2.out, ?_⟩, ?_⟩
      · have hr : ∀ j, j < k + 1 → (seqF X T j).what = 0 := by
          intro j hj
          by_cases hjk : j < k
          · exact SS.out.runs j hjk
          · obtain rfl : j = k := by omega
            rw [SS.out.eq]; exact HWH.out
        exact ⟨(congrArg (fun z => stepF z T) SS.out.eq).trans HY.out, hr, .inl (by have := HKN.out; omega), HOK2.out⟩
      · simp [intOf]
        have := HKN.out
        omega
    have hw1 : (wh != 0) = true := by simpa using hwh
    have HWH := Lib.hid hwh
    clear hkn hwh e0 e1 e2 e3 e4 e5 e6 e7 e8 e9 e10 y0 y1
    go_wp2_with fail
    go_region
    all_goals go_wp2_with fail
    simp only [Exit.jump]
    refine bodyPost_ret (v := .tuple #[.agg #[.int .u32 qc, .int .u32 s0, .int .u32 s1, .int .u32 s2, .int .u32 s3, .int .u32 s4, .int .u32 s5, .int .u32 s6, .int .u32 s7, .int .u32 b1, .int .u32 z1], .agg #[.int .i64 wh, .int .i64 ga], .int .i64 k]) (by simp [results, Try.results31, go_sem, d0, d1, d2, d3, d4, d5, d6, d7, d8, d9, d10, o0, o1]) rfl ⟨k, ⟨⟨qc, [s0, s1, s2, s3, s4, s5, s6, s7], b1, z1⟩, B1, wh, ga⟩, SS.out, .inr HWH.out, rfl, ?_⟩
    obtain ⟨x1, x2⟩ := st13 K.out.m K.out.d K.out.o K.out.chg (.int .u32 qc) (.int .u32 s0) (.int .u32 s1) (.int .u32 s2) (.int .u32 s3) (.int .u32 s4) (.int .u32 s5) (.int .u32 s6) (.int .u32 s7) (.int .u32 b1) (.int .u32 z1) (.int .i64 wh) (.int .i64 ga)
    exact ⟨x1.below (Below.refl _ _).drew, chg_drew x2⟩

theorem run_any {w : World} {p g h : Nat} {B : List Int} {T : List Bool} (m : MemAt w p g h B T) {c : Cp} (o : c.Ok) (n : Int) (hn : n ≤ 9223372036854775807) :
    Calls Try.prog 31 #[c.val, .pointer (some ⟨p, 0, none⟩), .int .i64 n] w (RunP w p g h ⟨c, B, 0, 0⟩ T n) := by
  obtain ⟨r0, r1, r2, r3, r4, r5, r6, r7, hr⟩ := o.eight
  obtain ⟨pc, r, b, s⟩ := c
  simp only at hr
  subst hr
  exact run_lit m pc r0 r1 r2 r3 r4 r5 r6 r7 b s n hn o
/-- the steps of a run end at one place -/
theorem seq_one {x y y' : Ou} {T : List Bool} {n : Int} {k k' : Nat} (s : SeqS x T n k y) (s' : SeqS x T n k' y') (h : n ≤ (k : Int) ∨ y.what ≠ 0) (h' : n ≤ (k' : Int) ∨ y'.what ≠ 0) : k = k' ∧ y = y' := by
  have key : ∀ {k k' : Nat} {y y' : Ou}, SeqS x T n k y → SeqS x T n k' y' → (n ≤ (k : Int) ∨ y.what ≠ 0) → ¬ k < k' := by
    intro k k' y y' s s' h hlt
    rcases h with h | h
    · have := s'.lim
      omega
    · have := s'.runs k hlt
      rw [s.eq] at this
      exact h this
  have h1 := key s s' h
  have h2 := key s' s h'
  have e : k = k' := by omega
  subst e
  exact ⟨rfl, s.eq.symm.trans s'.eq⟩
end Go.Proofs.Ythmcddecgdegdaa.Mm
