/- The statement StepRuns, walked. -/
import Derived.Test.YthmcddecgdegdaaStepSame
import Derived.Deep.DeepCutAuto
namespace Go.Proofs.Ythmcddecgdegdaa.Mm
open Go.ChangeShapes Go.WideShapes Go.ChangeAt Go.RowKit
set_option linter.unusedVariables false

/-- both memories, both processors -/
structure LoopS (w0 : World) (pa ga ha pb gb hb X Y : Nat) (x y : Ou) (W : World) : Prop where
  t : Twin w0 pa ga ha pb gb hb x.B y.B W
  fx : HasB W X 57 x.c.cs
  fxo : HasB W (X + 1) 60 [.int .i64 x.what, .int .i64 x.gate]
  fy : HasB W Y 57 y.c.cs
  fyo : HasB W (Y + 1) 60 [.int .i64 y.what, .int .i64 y.gate]
  xy : X + 1 < Y
  w0 : w0.heap.size ≤ X
theorem LoopS.below {w0 W W' : World} {pa ga ha pb gb hb X Y : Nat} {x y : Ou} (l : LoopS w0 pa ga ha pb gb hb X Y x y W) (h : Below W.heap.size W W') : LoopS w0 pa ga ha pb gb hb X Y x y W' :=
  ⟨l.t.below h, l.fx.below h, l.fxo.below h, l.fy.below h, l.fyo.below h, l.xy, l.w0⟩
def RunsRel (w0 : World) (pa ga ha pb gb hb X Y : Nat) (x0 x : Ou) (n : Int) (i : Value) (w' : World) : Prop :=
  ∃ (k : Nat) (y : Ou), i = .int .i64 k ∧ SeqS x0 T4 n k y ∧ y.what = 0 ∧ LoopS w0 pa ga ha pb gb hb X Y x y w'
theorem seq_next {x0 y : Ou} {T : List Bool} {n : Int} {k : Nat} (s : SeqS x0 T n k y) (h : y.what = 0) (hk : (k : Int) < n) {y' : Ou} (hy : stepF y T = y') (ok : y'.c.Ok) : SeqS x0 T n (k + 1) y' :=
  ⟨(congrArg (fun z => stepF z T) s.eq).trans hy, fun j hj => by
    by_cases hjk : j < k
    · exact s.runs j hjk
    · obtain rfl : j = k := by omega
      rw [s.eq]; exact h, .inl (by omega), ok⟩
theorem LoopS.put {w0 W W1 : World} {pa ga ha pb gb hb X Y : Nat} {x y : Ou} (l : LoopS w0 pa ga ha pb gb hb X Y x y W1) (tc t0 t1 t2 t3 t4 t5 t6 t7 tb tz wh gt : Int) (B2 : List Int) (m : MemAt W pb gb hb B2 T4) (c : Chg gb gb W1 W) (hl : y.c.cs.length = 11) :
    LoopS w0 pa ga ha pb gb hb X Y x ⟨⟨tc, [t0, t1, t2, t3, t4, t5, t6, t7], tb, tz⟩, B2, wh, gt⟩ (((((((((((((W.setCell ⟨Y, 0, none⟩ (.int .u32 tc)).setCell ⟨Y, 1, none⟩ (.int .u32 t0)).setCell ⟨Y, 2, none⟩ (.int .u32 t1)).setCell ⟨Y, 3, none⟩ (.int .u32 t2)).setCell ⟨Y, 4, none⟩ (.int .u32 t3)).setCell ⟨Y, 5, none⟩ (.int .u32 t4)).setCell ⟨Y, 6, none⟩ (.int .u32 t5)).setCell ⟨Y, 7, none⟩ (.int .u32 t6)).setCell ⟨Y, 8, none⟩ (.int .u32 t7)).setCell ⟨Y, 9, none⟩ (.int .u32 tb)).setCell ⟨Y, 10, none⟩ (.int .u32 tz)).setCell ⟨(Y + 1), 0, none⟩ (.int .i64 wh)).setCell ⟨(Y + 1), 1, none⟩ (.int .i64 gt)) := by
  have T1 := l.t.stepB m c
  have x1 := l.fx.pass l.t.b.at_ c (by decide)
  have xo1 := l.fxo.pass l.t.b.at_ c (by decide)
  have y1 := l.fy.pass l.t.b.at_ c (by decide)
  have yo1 := l.fyo.pass l.t.b.at_ c (by decide)
  have hxy := l.xy
  have hw := l.w0
  have c1 : Chg Y (Y + 1) W (((((((((((((W.setCell ⟨Y, 0, none⟩ (.int .u32 tc)).setCell ⟨Y, 1, none⟩ (.int .u32 t0)).setCell ⟨Y, 2, none⟩ (.int .u32 t1)).setCell ⟨Y, 3, none⟩ (.int .u32 t2)).setCell ⟨Y, 4, none⟩ (.int .u32 t3)).setCell ⟨Y, 5, none⟩ (.int .u32 t4)).setCell ⟨Y, 6, none⟩ (.int .u32 t5)).setCell ⟨Y, 7, none⟩ (.int .u32 t6)).setCell ⟨Y, 8, none⟩ (.int .u32 t7)).setCell ⟨Y, 9, none⟩ (.int .u32 tb)).setCell ⟨Y, 10, none⟩ (.int .u32 tz)).setCell ⟨(Y + 1), 0, none⟩ (.int .i64 wh)).setCell ⟨(Y + 1), 1, none⟩ (.int .i64 gt)) := chg_set (chg_set (chg_set (chg_set (chg_set (chg_set (chg_set (chg_set (chg_set (chg_set (chg_set (chg_set (chg_set (Chg.refl _ _ _) _ (.inl rfl) _ _) _ (.inl rfl) _ _) _ (.inl rfl) _ _) _ (.inl rfl) _ _) _ (.inl rfl) _ _) _ (.inl rfl) _ _) _ (.inl rfl) _ _) _ (.inl rfl) _ _) _ (.inl rfl) _ _) _ (.inl rfl) _ _) _ (.inl rfl) _ _) _ (.inr rfl) _ _) _ (.inr rfl) _ _
  have hY : Y ≠ Y + 1 := by omega
  have b1 := c1.below T1.a.bel T1.a.bel.size (by omega) (by omega)
  have ka := T1.a.keep c1 b1 ⟨⟨T1.a.at_.own.ne y1 (by decide), T1.a.at_.bytes.ne y1 (by decide), T1.a.at_.zones.ne y1 (by decide)⟩, ⟨T1.a.at_.own.ne yo1 (by decide), T1.a.at_.bytes.ne yo1 (by decide), T1.a.at_.zones.ne yo1 (by decide)⟩⟩
  have kb := T1.b.keep c1 b1 ⟨⟨T1.b.at_.own.ne y1 (by decide), T1.b.at_.bytes.ne y1 (by decide), T1.b.at_.zones.ne y1 (by decide)⟩, ⟨T1.b.at_.own.ne yo1 (by decide), T1.b.at_.bytes.ne yo1 (by decide), T1.b.at_.zones.ne yo1 (by decide)⟩⟩
  obtain ⟨a0, a1, a2, a3, a4, a5, a6, a7, a8, a9, a10, ha⟩ : ∃ a0 a1 a2 a3 a4 a5 a6 a7 a8 a9 a10, y.c.cs = [a0, a1, a2, a3, a4, a5, a6, a7, a8, a9, a10] := by
    generalize y.c.cs = L at hl
    match L, hl with
    | [a0, a1, a2, a3, a4, a5, a6, a7, a8, a9, a10], _ => exact ⟨_, _, _, _, _, _, _, _, _, _, _, rfl⟩
  rw [ha] at y1
  exact ⟨⟨ka, kb, T1.ne⟩, x1.chg c1 (by omega) (by omega), xo1.chg c1 (by omega) (by omega), has_far (has_far (has_set (has_set (has_set (has_set (has_set (has_set (has_set (has_set (has_set (has_set (has_set (y1) 0 _) 1 _) 2 _) 3 _) 4 _) 5 _) 6 _) 7 _) 8 _) 9 _) 10 _) hY 0 _) hY 1 _, has_set (has_set (has_far (has_far (has_far (has_far (has_far (has_far (has_far (has_far (has_far (has_far (has_far (yo1) hY.symm 0 _) hY.symm 1 _) hY.symm 2 _) hY.symm 3 _) hY.symm 4 _) hY.symm 5 _) hY.symm 6 _) hY.symm 7 _) hY.symm 8 _) hY.symm 9 _) hY.symm 10 _) 0 _) 1 _, hxy, hw⟩
theorem runs_long (c : Cp) (o : c.Ok) (A : Option Addr) (m cap : Nat) (n : Int) (hn : 1000 < m ∨ (m ≤ 1000 ∧ 1000 < n)) (w : World) :
    Calls Try.prog 5 #[c.val, .slice A m cap, .int .i64 n] w fun e w' => e = .returned (.bool true) ∧ Below w.heap.size w w' := by
  obtain ⟨r0, r1, r2, r3, r4, r5, r6, r7, hr⟩ := o.eight
  obtain ⟨pc, r, b, s⟩ := c
  simp only at hr
  subst hr
  rw [val_lit]
  rcases hn with hn | ⟨hn, hn2⟩
  · have hnI : decide (1000 < (m : Int)) = true := decide_eq_true (by omega)
    go_enter Try.func5, Try.ntmps5
    go_wp2_with fail
    refine (awake4 _).mono ?_; rintro e w1 ⟨rfl, hb1⟩
    have HB1 := Lib.hid (bel_then (bel_al (Below.refl _ _) _) hb1)
    clear hb1
    go_wp2_with fail
    refine (awake4 _).mono ?_; rintro e w2 ⟨rfl, hb2⟩
    have HB2 := Lib.hid (bel_then HB1.out hb2)
    clear hb2
    go_wp2_with fail
    go_ret
    exact ⟨rfl, HB2.out⟩
  · have hnI : decide (1000 < (m : Int)) = false := decide_eq_false (by omega)
    have hnJ : decide (1000 < n) = true := decide_eq_true hn2
    go_enter Try.func5, Try.ntmps5
    go_wp2_with fail
    refine (awake4 _).mono ?_; rintro e w1 ⟨rfl, hb1⟩
    have HB1 := Lib.hid (bel_then (bel_al (Below.refl _ _) _) hb1)
    clear hb1
    go_wp2_with fail
    refine (awake4 _).mono ?_; rintro e w2 ⟨rfl, hb2⟩
    have HB2 := Lib.hid (bel_then HB1.out hb2)
    clear hb2
    go_wp2_with fail
    go_ret
    exact ⟨rfl, HB2.out⟩
set_option maxRecDepth 100000 in
set_option maxHeartbeats 8000000 in
theorem runs_n (pc r0 r1 r2 r3 r4 r5 r6 r7 b s n : Int) (hn : n ≤ 1000) (hn0 : -9223372036854775808 ≤ n) (o : (⟨pc, [r0, r1, r2, r3, r4, r5, r6, r7], b, s⟩ : Cp).Ok) (A : Option Addr) (cap : Nat) (l : List Int) (m : Nat) (hl : l.length = m) (hm : m ≤ 1000) (w : World) (hr : RowAt w A cap l) :
    Calls Try.prog 5 #[Cp.val ⟨pc, [r0, r1, r2, r3, r4, r5, r6, r7], b, s⟩, .slice A m cap, .int .i64 n] w fun e w' => e = .returned (.bool true) ∧ Below w.heap.size w w' := by
  have hnI : decide (1000 < (m : Int)) = false := decide_eq_false (by omega)
  have HR := Lib.hid hr
  have HL := Lib.hid hl
  have HO := Lib.hid o
  obtain ⟨W0, e0, k0⟩ : ∃ W0, w.alloc (.cells #[.int .u32 pc, .int .u32 r0, .int .u32 r1, .int .u32 r2, .int .u32 r3, .int .u32 r4, .int .u32 r5, .int .u32 r6, .int .u32 r7, .int .u32 b, .int .u32 s] 54) = W0 ∧ HasB W0 w.heap.size 54 [.int .u32 pc, .int .u32 r0, .int .u32 r1, .int .u32 r2, .int .u32 r3, .int .u32 r4, .int .u32 r5, .int .u32 r6, .int .u32 r7, .int .u32 b, .int .u32 s] := ⟨_, rfl, HasB.newAt _ _ _ _ rfl⟩
  have b0 : Below w.heap.size w W0 := by rw [← e0]; exact bel_al (Below.refl _ _) _
  have K0 := Lib.hid k0
  have B0 := Lib.hid b0
  clear hr hl o k0 b0
  have hnJ : decide (1000 < n) = false := decide_eq_false (by omega)
  rw [val_lit]
  go_enter Try.func5, Try.ntmps5
  go_wp2_with fail
  refine (awake4 _).mono ?_; rintro e w1 ⟨rfl, hb1⟩
  have B1 := Lib.hid (bel_then B0.out hb1)
  have K1 := Lib.hid (K0.out.below hb1)
  clear hb1 e0 K0
  go_wp2_with fail
  have MA := made_any A cap l (by rw [HL.out]; exact hm) w1 (HR.out.below B1.out)
  rw [HL.out] at MA
  refine MA.mono ?_
  clear MA
  rintro e w2 ⟨pa, ga, ha, xa, ca, ya, da, rfl, sa, lpa⟩
  have K2 := Lib.hid (K1.out.below sa.m.bel)
  have B2 := Lib.hid (bel_then B1.out sa.m.bel)
  have SA := Lib.hid sa
  clear sa K1
  go_wp2_with fail
  obtain ⟨W3, e3, b3⟩ := boxM w2 (.slice (some ⟨xa, 0, none⟩) 256 ca) (.slice (some ⟨ya, 0, none⟩) 256 da)
  have MB := made_any A cap l (by rw [HL.out]; exact hm) W3 (HR.out.below (bel_then B2.out b3))
  rw [HL.out] at MB
  rw [e3]
  refine MB.mono ?_
  clear MB
  rintro e w4 ⟨pb, gb, hb, xb, cb, yb, db, rfl, sb, lpb⟩
  have TW := Twin.of SA.out B1.out b3 sb
  have K4 := (K2.out.below b3).below sb.m.bel
  clear e3 b3 sb SA K2 B2 lpa lpb
  replace TW := Lib.hid TW
  replace K4 := Lib.hid K4
  obtain ⟨W5, e5, b5⟩ := boxM w4 (.slice (some ⟨xb, 0, none⟩) 256 cb) (.slice (some ⟨yb, 0, none⟩) 256 db)
  have TW5 := Lib.hid (TW.out.below b5)
  have K5 := K4.out.below b5
  obtain ⟨⟨k0, k1, k2, k3, k4, k5, k6, k7, k8, k9, k10⟩, _⟩ := has11 K5
  replace K5 := Lib.hid K5
  clear b5 TW K4
  go_wp2_with fail
  clear e5
  have OF := of_try pc r0 r1 r2 r3 r4 r5 r6 r7 b s W5
  refine OF.mono ?_; rintro e w6 ⟨rfl, hb6⟩
  have TW6 := Lib.hid (TW5.out.below hb6)
  have K6 := Lib.hid (K5.out.below hb6)
  clear hb6 OF k0 k1 k2 k3 k4 k5 k6 k7 k8 k9 k10 TW5 K5
  go_wp2_with fail
  have RU := run_any TW6.out.a.at_ HO.out n (by omega)
  rw [val_lit] at RU
  refine RU.mono ?_; rintro e w7 ⟨kr, yr, sq, cond, rfl, m7, c7⟩
  obtain ⟨t0, t1, t2, t3, t4, t5, t6, t7, ht⟩ := sq.ok.eight
  obtain ⟨yR, hyR⟩ : ∃ y : Ou, yr = y := ⟨_, rfl⟩
  have SQ := Lib.hid sq
  have CD := Lib.hid cond
  rw [hyR] at SQ CD
  obtain ⟨⟨tc, tr, tb, tz⟩, B2, wh, gt⟩ := yr
  simp only at ht
  subst ht
  dsimp only at m7 ⊢
  rw [val_lit]
  have TW7 := TW6.out.stepA m7 c7
  have K7 := K6.out.pass TW6.out.a.at_ c7 (by decide)
  have HYR := Lib.hid hyR
  clear RU m7 c7 sq cond hyR TW6 K6
  replace TW7 := Lib.hid TW7
  replace K7 := Lib.hid K7
  obtain ⟨W8, e8, x8, o8, b8⟩ := boxC w7 #[.int .u32 tc, .int .u32 t0, .int .u32 t1, .int .u32 t2, .int .u32 t3, .int .u32 t4, .int .u32 t5, .int .u32 t6, .int .u32 t7, .int .u32 tb, .int .u32 tz] wh gt
  have TW8 := TW7.out.below b8
  have K8 := K7.out.below b8
  obtain ⟨⟨k0, k1, k2, k3, k4, k5, k6, k7, k8, k9, k10⟩, _⟩ := has11 K8
  have x8' : HasB W8 w7.heap.size 57 yR.c.cs := by rw [← HYR.out]; exact x8
  have o8' : HasB W8 (w7.heap.size + 1) 60 [.int .i64 yR.what, .int .i64 yR.gate] := by rw [← HYR.out]; exact o8
  have TW8' : Twin w pa ga ha pb gb hb yR.B (B4 l) W8 := by rw [← HYR.out]; exact TW8
  have X8 := Lib.hid x8'
  have O8 := Lib.hid o8'
  have T8 := Lib.hid TW8'
  have hX0 : w.heap.size ≤ w7.heap.size := TW7.out.a.bel.size
  have hX : w7.heap.size + 1 < W8.heap.size := o8.lt
  clear b8 TW7 K7 TW8 TW8' x8 x8' o8 o8' K8
  go_wp2_with fail
  clear e8 k0 k1 k2 k3 k4 k5 k6 k7 k8 k9 k10
  have OF := of_try pc r0 r1 r2 r3 r4 r5 r6 r7 b s W8
  refine OF.mono ?_; rintro e w9 ⟨rfl, hb9⟩
  have s89 := hb9.size
  obtain ⟨W10, e10, y10, p10, b10⟩ := boxC w9 #[.int .u32 pc, .int .u32 r0, .int .u32 r1, .int .u32 r2, .int .u32 r3, .int .u32 r4, .int .u32 r5, .int .u32 r6, .int .u32 r7, .int .u32 b, .int .u32 s] 0 0
  have bb := bel_then hb9 b10
  have LS : LoopS w pa ga ha pb gb hb w7.heap.size w9.heap.size yR ⟨⟨pc, [r0, r1, r2, r3, r4, r5, r6, r7], b, s⟩, B4 l, 0, 0⟩ W10 := ⟨T8.out.below bb, X8.out.below bb, O8.out.below bb, y10, p10, by omega, hX0⟩
  have LS := Lib.hid LS
  clear OF hb9 y10 p10 b10 bb T8 X8 O8 hX
  go_wp2_with fail
  clear e10
  generalize hX1 : w7.heap.size = X at *
  generalize hY1 : w9.heap.size = Yb at *
  have SQ0 : Hid (SeqS ⟨⟨pc, [r0, r1, r2, r3, r4, r5, r6, r7], b, s⟩, B4 l, 0, 0⟩ T4 n 0 ⟨⟨pc, [r0, r1, r2, r3, r4, r5, r6, r7], b, s⟩, B4 l, 0, 0⟩) := ⟨rfl, fun j hj => absurd hj (Nat.not_lt_zero _), .inr rfl, HO.out⟩
  generalize hx0 : (⟨⟨pc, [r0, r1, r2, r3, r4, r5, r6, r7], b, s⟩, B4 l, 0, 0⟩ : Ou) = x0 at SQ SQ0 LS
  have hwx : x0.what = 0 := by rw [← hx0]
  have HWX := Lib.hid hwx
  clear hx0 hwx hX1 hY1
  go_loopw [16] (fun i w' => RunsRel w pa ga ha pb gb hb X Yb x0 yR n i w') (fun i _ => (n - intOf i).toNat)
  case atStart => exact ⟨0, x0, rfl, SQ0.out, HWX.out, LS.out⟩
  case round =>
    obtain ⟨k, y, rfl, sk, hy0, lk⟩ := hrel
    have SK := Lib.hid sk
    have HY0 := Lib.hid hy0
    have LK := Lib.hid lk
    clear sk hy0 lk LS
    by_cases hkn : (k : Int) < n
    · have hk1 : decide ((k : Int) < n) = true := decide_eq_true hkn
      have hk2 : (k : Int) + 1 ≤ 1000 := by omega
      have HKN := Lib.hid hkn
      obtain ⟨y2, hy2⟩ : ∃ y2, stepF y T4 = y2 := ⟨_, rfl⟩
      have hst : StepIs y.c y.B T4 y2 := by rw [← hy2]; exact stepF_is y T4
      have hok := (step_ok SK.out.ok LK.out.t.b.at_.byte LK.out.t.b.at_.len hst).1
      have hsn := seq_next SK.out HY0.out hkn hy2 hok
      have hd := step_any LK.out.t.b.at_ SK.out.ok hst
      obtain ⟨q0, q1, q2, q3, q4, q5, q6, q7, hq⟩ := SK.out.ok.eight
      obtain ⟨t0, t1, t2, t3, t4, t5, t6, t7, ht⟩ := hok.eight
      have hcs : y.c.cs = [.int .u32 y.c.pc, .int .u32 q0, .int .u32 q1, .int .u32 q2, .int .u32 q3, .int .u32 q4, .int .u32 q5, .int .u32 q6, .int .u32 q7, .int .u32 y.c.b, .int .u32 y.c.s] := by unfold Cp.cs; rw [hq]; rfl
      have hyl := LK.out.fy
      rw [hcs] at hyl
      obtain ⟨⟨k0, k1, k2, k3, k4, k5, k6, k7, k8, k9, k10⟩, _⟩ := has11 hyl
      have hval : y.c.val = .agg #[.int .u32 y.c.pc, .int .u32 q0, .int .u32 q1, .int .u32 q2, .int .u32 q3, .int .u32 q4, .int .u32 q5, .int .u32 q6, .int .u32 q7, .int .u32 y.c.b, .int .u32 y.c.s] := by unfold Cp.val; rw [hcs]
      rw [hval] at hd
      have HCL : Hid (y.c.cs.length = 11) := by rw [hcs]; rfl
      have HD := Lib.hid hd
      have SN := Lib.hid hsn
      have HQ := Lib.hid ht
      clear hkn hy2 hst hok hsn hd hcs hyl hval hq ht
      go_wp2_with fail
      refine HD.out.mono ?_; rintro e w11 ⟨rfl, m11, c11⟩
      have hq := HQ.out
      have SN' := SN.out
      clear HD SN HQ k0 k1 k2 k3 k4 k5 k6 k7 k8 k9 k10
      obtain ⟨⟨tc, tr, tb, tz⟩, B2', wh', gt'⟩ := y2
      simp only at hq
      subst hq
      dsimp only at m11 ⊢
      rw [val_lit]
      have y11 := (LK.out.fy.pass LK.out.t.b.at_ c11 (by decide))
      have p11 := (LK.out.fyo.pass LK.out.t.b.at_ c11 (by decide))
      obtain ⟨W12, e12⟩ : ∃ W12, (((((((((((((w11.setCell ⟨Yb, 0, none⟩ (.int .u32 tc)).setCell ⟨Yb, 1, none⟩ (.int .u32 t0)).setCell ⟨Yb, 2, none⟩ (.int .u32 t1)).setCell ⟨Yb, 3, none⟩ (.int .u32 t2)).setCell ⟨Yb, 4, none⟩ (.int .u32 t3)).setCell ⟨Yb, 5, none⟩ (.int .u32 t4)).setCell ⟨Yb, 6, none⟩ (.int .u32 t5)).setCell ⟨Yb, 7, none⟩ (.int .u32 t6)).setCell ⟨Yb, 8, none⟩ (.int .u32 t7)).setCell ⟨Yb, 9, none⟩ (.int .u32 tb)).setCell ⟨Yb, 10, none⟩ (.int .u32 tz)).setCell ⟨(Yb + 1), 0, none⟩ (.int .i64 wh')).setCell ⟨(Yb + 1), 1, none⟩ (.int .i64 gt')) = W12 := ⟨_, rfl⟩
      have L12 := LK.out.put tc t0 t1 t2 t3 t4 t5 t6 t7 tb tz wh' gt' B2' m11 c11 HCL.out
      rw [e12] at L12
      obtain ⟨a0, a1, a2, a3, a4, a5, a6, a7, a8, a9, a10, haa⟩ : ∃ a0 a1 a2 a3 a4 a5 a6 a7 a8 a9 a10, y.c.cs = [a0, a1, a2, a3, a4, a5, a6, a7, a8, a9, a10] := by
        have hcl := HCL.out
        generalize y.c.cs = L at hcl
        match L, hcl with
        | [a0, a1, a2, a3, a4, a5, a6, a7, a8, a9, a10], _ => exact ⟨_, _, _, _, _, _, _, _, _, _, _, rfl⟩
      rw [haa] at y11
      obtain ⟨⟨k0, k1, k2, k3, k4, k5, k6, k7, k8, k9, k10⟩, ⟨f0, f1, f2, f3, f4, f5, f6, f7, f8, f9, f10⟩⟩ := has11 y11
      obtain ⟨⟨o0, o1⟩, ⟨g0, g1⟩⟩ := has2 p11
      obtain ⟨⟨n0, n1⟩, _⟩ := has2 L12.fyo
      replace L12 := Lib.hid L12
      have SN := Lib.hid SN'
      clear y11 p11 m11 c11 haa SN'
      by_cases hwh : wh' = 0
      · have hw1 : (wh' != 0) = false := by rw [hwh]; rfl
        have HWH := Lib.hid hwh
        clear hwh
        go_wp2_with fail
        go_roundw
        case rel => exact ⟨k + 1, _, by go_num, SN.out, HWH.out, L12.out⟩
        case measure => simp [intOf]; have := HKN.out; omega
      · have hw1 : (wh' != 0) = true := by simpa using hwh
        obtain ⟨rfl, hyy⟩ := seq_one SQ.out SN.out CD.out (.inr hwh)
        have LT0 : Hid (LoopS w pa ga ha pb gb hb X Yb yR yR W12) := by have := L12.out; rw [← hyy] at this; exact this
        clear hwh hyy
        go_wp2_with fail
        clear e12 k0 k1 k2 k3 k4 k5 k6 k7 k8 k9 k10 f0 f1 f2 f3 f4 f5 f6 f7 f8 f9 f10 o0 o1 g0 g1 n0 n1 L12 LK SN
        have LT := LT0
        clear LT0
        have YOK := SQ.out.ok
        have RA := read_i LT.out.t.a.at_ 0 192 (T4_yes 0 192 (by decide))
        refine RA.mono ?_; rintro e w14 ⟨rfl, ra, b14⟩
        have RA14 := Lib.hid ra
        have L14 := Lib.hid (LT.out.below b14)
        clear RA ra b14 LT
        go_wp2_with fail
        have RB := read_i L14.out.t.b.at_ 0 192 (T4_yes 0 192 (by decide))
        refine RB.mono ?_; rintro e w15 ⟨rfl, rb, b15⟩
        have hl2 : yR.B.length = 256 := by have := L14.out.t.a.at_.len; simpa [T4] using this
        have hbt := L14.out.t.a.at_.byte
        have hlp : ((yR.B.drop 0).take 192).length = 192 := by rw [List.length_take, List.length_drop]; omega
        have r1 := row_blk (take_byte (drop_byte hbt 0) 192) (by rw [hlp]; decide) (RA14.out.below b15)
        have r2 := row_blk (take_byte (drop_byte hbt 0) 192) (by rw [hlp]; decide) rb
        have cv1 := conv_row r1 192 hlp
        have cv2 := conv_row r2 192 hlp
        rw [hlp] at cv1 cv2
        generalize strOfNums (List.take 192 (List.drop 0 yR.B)) = ss at cv1 cv2
        have L15 := Lib.hid (L14.out.below b15)
        have hx15 := L15.out.fx
        have hy15 := L15.out.fy
        obtain ⟨z0, z1, z2, z3, z4, z5, z6, z7, hz⟩ := YOK.eight
        have hcs : yR.c.cs = [.int .u32 yR.c.pc, .int .u32 z0, .int .u32 z1, .int .u32 z2, .int .u32 z3, .int .u32 z4, .int .u32 z5, .int .u32 z6, .int .u32 z7, .int .u32 yR.c.b, .int .u32 yR.c.s] := by unfold Cp.cs; rw [hz]; rfl
        rw [hcs] at hx15 hy15
        obtain ⟨⟨k0, k1, k2, k3, k4, k5, k6, k7, k8, k9, k10⟩, _⟩ := has11 hx15
        obtain ⟨⟨l0, l1, l2, l3, l4, l5, l6, l7, l8, l9, l10⟩, _⟩ := has11 hy15
        obtain ⟨⟨n0, n1⟩, _⟩ := has2 L15.out.fxo
        obtain ⟨⟨o0, o1⟩, _⟩ := has2 L15.out.fyo
        have E8 := eq8 z0 z1 z2 z3 z4 z5 z6 z7 w15
        clear RB rb b15 L14 RA14 r1 r2 hl2 hbt hlp hx15 hy15 hcs hz
        go_wp2_with fail
        go_ret
        exact ⟨rfl, L15.out.t.a.bel⟩
    · have hk1 : decide ((k : Int) < n) = false := decide_eq_false hkn
      obtain ⟨rfl, rfl⟩ := seq_one SQ.out SK.out CD.out (.inl (by omega))
      have LT := LK
      clear LK hkn
      go_wp2_with fail
      have YOK := SQ.out.ok
      have RA := read_i LT.out.t.a.at_ 0 192 (T4_yes 0 192 (by decide))
      refine RA.mono ?_; rintro e w14 ⟨rfl, ra, b14⟩
      have RA14 := Lib.hid ra
      have L14 := Lib.hid (LT.out.below b14)
      clear RA ra b14 LT
      go_wp2_with fail
      have RB := read_i L14.out.t.b.at_ 0 192 (T4_yes 0 192 (by decide))
      refine RB.mono ?_; rintro e w15 ⟨rfl, rb, b15⟩
      have hl2 : yR.B.length = 256 := by have := L14.out.t.a.at_.len; simpa [T4] using this
      have hbt := L14.out.t.a.at_.byte
      have hlp : ((yR.B.drop 0).take 192).length = 192 := by rw [List.length_take, List.length_drop]; omega
      have r1 := row_blk (take_byte (drop_byte hbt 0) 192) (by rw [hlp]; decide) (RA14.out.below b15)
      have r2 := row_blk (take_byte (drop_byte hbt 0) 192) (by rw [hlp]; decide) rb
      have cv1 := conv_row r1 192 hlp
      have cv2 := conv_row r2 192 hlp
      rw [hlp] at cv1 cv2
      generalize strOfNums (List.take 192 (List.drop 0 yR.B)) = ss at cv1 cv2
      have L15 := Lib.hid (L14.out.below b15)
      have hx15 := L15.out.fx
      have hy15 := L15.out.fy
      obtain ⟨z0, z1, z2, z3, z4, z5, z6, z7, hz⟩ := YOK.eight
      have hcs : yR.c.cs = [.int .u32 yR.c.pc, .int .u32 z0, .int .u32 z1, .int .u32 z2, .int .u32 z3, .int .u32 z4, .int .u32 z5, .int .u32 z6, .int .u32 z7, .int .u32 yR.c.b, .int .u32 yR.c.s] := by unfold Cp.cs; rw [hz]; rfl
      rw [hcs] at hx15 hy15
      obtain ⟨⟨k0, k1, k2, k3, k4, k5, k6, k7, k8, k9, k10⟩, _⟩ := has11 hx15
      obtain ⟨⟨l0, l1, l2, l3, l4, l5, l6, l7, l8, l9, l10⟩, _⟩ := has11 hy15
      obtain ⟨⟨n0, n1⟩, _⟩ := has2 L15.out.fxo
      obtain ⟨⟨o0, o1⟩, _⟩ := has2 L15.out.fyo
      have E8 := eq8 z0 z1 z2 z3 z4 z5 z6 z7 w15
      clear RB rb b15 L14 RA14 r1 r2 hl2 hbt hlp hx15 hy15 hcs hz
      go_wp2_with fail
      go_ret
      exact ⟨rfl, L15.out.t.a.bel⟩
theorem stepRuns_walk (c : Cp) (A : Option Addr) (cap : Nat) (l : List Int) (n : Int) (w : World) (o : c.Ok) (hr : RowAt w A cap l) (hn : (Lit.int .i64 n).wf = true) :
    Calls Try.prog 5 #[c.val, .slice A l.length cap, .int .i64 n] w fun e w' => e = .returned (.bool true) ∧ Below w.heap.size w w' := by
  have hb := bounds_i64 hn
  by_cases h : 1000 < l.length
  · exact runs_long c o A _ cap n (.inl h) w
  by_cases h2 : 1000 < n
  · exact runs_long c o A _ cap n (.inr ⟨by omega, h2⟩) w
  · obtain ⟨r0, r1, r2, r3, r4, r5, r6, r7, hx⟩ := o.eight
    obtain ⟨pc, r, b, s⟩ := c
    simp only at hx
    subst hx
    exact runs_n pc r0 r1 r2 r3 r4 r5 r6 r7 b s n (by omega) hb.1 o A cap l _ rfl (by omega) w hr
end Go.Proofs.Ythmcddecgdegdaa.Mm
