/- The statement StepSame, walked. -/
import Derived.Test.YthmcddecgdegdaaStepRun
import Derived.Test.YthmcddecgdegdaaStepEq
import Derived.Test.YthmcddecgdegdaaStepOpen
namespace Go.Proofs.Ythmcddecgdegdaa.Mm
open Go.ChangeShapes Go.WideShapes Go.ChangeAt Go.RowKit
set_option linter.unusedVariables false

/-- two memories of a call's own -/
structure Twin (w0 : World) (pa ga ha pb gb hb : Nat) (A B : List Int) (W : World) : Prop where
  a : MSt w0 pa ga ha A T4 W
  b : MSt w0 pb gb hb B T4 W
  ne : (pb ≠ ga ∧ gb ≠ ga ∧ hb ≠ ga) ∧ (pa ≠ gb ∧ ga ≠ gb ∧ ha ≠ gb)
section
variable {w0 W W' : World} {pa ga ha pb gb hb : Nat} {A B A' B' : List Int}
theorem Twin.below (t : Twin w0 pa ga ha pb gb hb A B W) (h : Below W.heap.size W W') : Twin w0 pa ga ha pb gb hb A B W' := ⟨t.a.below h, t.b.below h, t.ne⟩
theorem Twin.stepA (t : Twin w0 pa ga ha pb gb hb A B W) (m : MemAt W' pa ga ha A' T4) (c : Chg ga ga W W') : Twin w0 pa ga ha pb gb hb A' B W' :=
  ⟨t.a.chg m c.wide, t.b.keep c (t.a.chg m c.wide).bel ⟨t.ne.1, t.ne.1⟩, t.ne⟩
theorem Twin.stepB (t : Twin w0 pa ga ha pb gb hb A B W) (m : MemAt W' pb gb hb B' T4) (c : Chg gb gb W W') : Twin w0 pa ga ha pb gb hb A B' W' :=
  ⟨t.a.keep c (t.b.chg m c.wide).bel ⟨t.ne.2, t.ne.2⟩, t.b.chg m c.wide, t.ne⟩
theorem Twin.of {xa ca ya da xb cb yb db : Nat} {w1 w2 : World} (sa : MadS w1 pa ga ha A xa ca ya da w2) (b1 : Below w0.heap.size w0 w1) {w3 w4 : World} (b2 : Below w2.heap.size w2 w3) (sb : MadS w3 pb gb hb B xb cb yb db w4) : Twin w0 pa ga ha pb gb hb A B w4 := by
  have ma := (sa.m.old b1).below b2
  have ma' := ma.below sb.m.bel
  have z := ma.at_.own.lt
  have z2 := ma.at_.bytes.lt
  have z3 := ma.at_.zones.lt
  have y1 := sb.m.p_
  have y2 := sb.m.g_
  have y3 := sb.m.h_
  exact ⟨ma', sb.m.old ma.bel, ⟨by omega, by omega, by omega⟩, ⟨by omega, by omega, by omega⟩⟩
end
theorem HasB.pass {w w' : World} {p g h k : Nat} {B : List Int} {T : List Bool} {t : TypeId} {cs : List Value} (x : HasB w k t cs) (m : MemAt w p g h B T) (c : Chg g g w w') (ht : t ≠ 5) : HasB w' k t cs :=
  x.chg c (x.ne m.bytes ht) (x.ne m.bytes ht)
theorem boxC (w : World) (vs : Array Value) (wh ga : Int) : ∃ W, (w.alloc (.cells vs 57)).alloc (.cells #[.int .i64 wh, .int .i64 ga] 60) = W ∧ HasB W w.heap.size 57 vs.toList ∧ HasB W (w.heap.size + 1) 60 [.int .i64 wh, .int .i64 ga] ∧ Below w.heap.size w W :=
  ⟨_, rfl, (HasB.newAt w _ _ vs rfl).al _, HasB.newAt _ _ _ _ (by simp), bel_al (bel_al (Below.refl _ _) _) _⟩
theorem boxM (w : World) (a b : Value) : ∃ W, w.alloc (.cells #[a, b] 33) = W ∧ Below w.heap.size w W := ⟨_, rfl, bel_al (Below.refl _ _) _⟩

theorem set_same {w : World} {g : Nat} {t : TypeId} {cs : List Value} (h : HasB w g t cs) (i : Nat) (v : Value) (hv : cs[i]? = some v) : w.setCell ⟨g, i, none⟩ v = w := by
  have hh : w.heap[g]? = some (.cells cs.toArray t (0, 0)) := h
  have hl := h.lt
  unfold World.setCell
  have e : w.heap.modify g (fun | .cells c elem frozen => .cells (if (⟨g, i, none⟩ : Addr).spot.isSome then c else c.setIfInBounds i v) elem frozen | o => o) = w.heap := by
    apply Array.ext_getElem?
    intro k
    rw [Array.getElem?_modify]
    by_cases hk : g = k
    · subst hk
      rw [if_pos rfl, hh]
      simp
      apply List.ext_getElem?
      intro j
      rw [List.getElem?_set]
      by_cases hj : i = j
      · subst hj
        rw [if_pos rfl, hv]
        have := (List.getElem?_eq_some_iff.1 hv).1
        simp [this]
      · rw [if_neg hj]
    · rw [if_neg hk]
  exact congrArg (fun hp => ({ w with heap := hp } : World)) e

theorem same_long (c : Cp) (o : c.Ok) (A : Option Addr) (n cap : Nat) (hn : 1000 < n) (w : World) :
    Calls Try.prog 8 #[c.val, .slice A n cap] w fun e w' => e = .returned (.bool true) ∧ Below w.heap.size w w' := by
  have hnI : decide (1000 < (n : Int)) = true := decide_eq_true (by omega)
  obtain ⟨r0, r1, r2, r3, r4, r5, r6, r7, hr⟩ := o.eight
  obtain ⟨pc, r, b, s⟩ := c
  simp only at hr
  subst hr
  rw [val_lit]
  go_enter Try.func8, Try.ntmps8
  go_wp2_with fail
  refine (awake4 _).mono ?_; rintro e w1 ⟨rfl, hb1⟩
  have HB1 := Lib.hid (bel_then (bel_al (Below.refl _ _) _) hb1)
  clear hb1
  go_wp2_with fail
  refine (awake4 _).mono ?_; rintro e w2 ⟨rfl, hb2⟩
  have HB2 := Lib.hid (bel_then HB1.out hb2)
  clear hb2
  go_wp2_with fail
  go_ret
  exact ⟨rfl, HB2.out⟩

set_option maxRecDepth 100000 in
set_option maxHeartbeats 4000000 in
theorem same_n (pc r0 r1 r2 r3 r4 r5 r6 r7 b s : Int) (o : (⟨pc, [r0, r1, r2, r3, r4, r5, r6, r7], b, s⟩ : Cp).Ok) (A : Option Addr) (cap : Nat) (l : List Int) (n : Nat) (hl : l.length = n) (hn : n ≤ 1000) (w : World) (hr : RowAt w A cap l) :
    Calls Try.prog 8 #[Cp.val ⟨pc, [r0, r1, r2, r3, r4, r5, r6, r7], b, s⟩, .slice A n cap] w fun e w' => e = .returned (.bool true) ∧ Below w.heap.size w w' := by
  have hnI : decide (1000 < (n : Int)) = false := decide_eq_false (by omega)
  have HR := Lib.hid hr
  have HL := Lib.hid hl
  have HO := Lib.hid o
  obtain ⟨W0, e0, k0⟩ : ∃ W0, w.alloc (.cells #[.int .u32 pc, .int .u32 r0, .int .u32 r1, .int .u32 r2, .int .u32 r3, .int .u32 r4, .int .u32 r5, .int .u32 r6, .int .u32 r7, .int .u32 b, .int .u32 s] 54) = W0 ∧ HasB W0 w.heap.size 54 [.int .u32 pc, .int .u32 r0, .int .u32 r1, .int .u32 r2, .int .u32 r3, .int .u32 r4, .int .u32 r5, .int .u32 r6, .int .u32 r7, .int .u32 b, .int .u32 s] := ⟨_, rfl, HasB.newAt _ _ _ _ rfl⟩
  have b0 : Below w.heap.size w W0 := by rw [← e0]; exact bel_al (Below.refl _ _) _
  have K0 := Lib.hid k0
  have B0 := Lib.hid b0
  clear hr hl o k0 b0
  rw [val_lit]
  go_enter Try.func8, Try.ntmps8
  go_wp2_with fail
  refine (awake4 _).mono ?_; rintro e w1 ⟨rfl, hb1⟩
  have B1 := Lib.hid (bel_then B0.out hb1)
  have K1 := Lib.hid (K0.out.below hb1)
  clear hb1 e0 K0
  go_wp2_with fail
  have MA := made_any A cap l (by rw [HL.out]; exact hn) w1 (HR.out.below B1.out)
  rw [HL.out] at MA
  refine MA.mono ?_
  clear MA
  rintro e w2 ⟨pa, ga, ha, xa, ca, ya, da, rfl, sa, lpa⟩
  have K2 := Lib.hid (K1.out.below sa.m.bel)
  have B2 := Lib.hid (bel_then B1.out sa.m.bel)
  have SA := Lib.hid sa
  clear sa K1
  go_wp2_with fail
  obtain ⟨W3, e3, b3⟩ := boxM w2 (.slice (some ⟨xa, 0, none⟩) 256 ca) (.slice (some ⟨ya, 0, none⟩) 256 da)
  have MB := made_any A cap l (by rw [HL.out]; exact hn) W3 (HR.out.below (bel_then B2.out b3))
  rw [HL.out] at MB
  rw [e3]
  refine MB.mono ?_
  clear MB
  rintro e w4 ⟨pb, gb, hb, xb, cb, yb, db, rfl, sb, lpb⟩
  have TW := Twin.of SA.out B1.out b3 sb
  have K4 := (K2.out.below b3).below sb.m.bel
  clear e3 b3 sb SA K2 B2 lpa lpb
  replace TW := Lib.hid TW
  replace K4 := Lib.hid K4
  obtain ⟨W5, e5, b5⟩ := boxM w4 (.slice (some ⟨xb, 0, none⟩) 256 cb) (.slice (some ⟨yb, 0, none⟩) 256 db)
  have TW5 := Lib.hid (TW.out.below b5)
  have K5 := K4.out.below b5
  obtain ⟨⟨k0, k1, k2, k3, k4, k5, k6, k7, k8, k9, k10⟩, _⟩ := has11 K5
  replace K5 := Lib.hid K5
  clear b5 TW K4
  go_wp2_with fail
  clear e5
  have OF := of_try pc r0 r1 r2 r3 r4 r5 r6 r7 b s W5
  refine OF.mono ?_; rintro e w6 ⟨rfl, hb6⟩
  have TW6 := Lib.hid (TW5.out.below hb6)
  have K6 := Lib.hid (K5.out.below hb6)
  clear hb6 OF k0 k1 k2 k3 k4 k5 k6 k7 k8 k9 k10 TW5 K5
  go_wp2_with fail
  obtain ⟨y, hy⟩ : ∃ y, StepIs ⟨pc, [r0, r1, r2, r3, r4, r5, r6, r7], b, s⟩ (B4 l) T4 y := step_or _ _ _
  have HY := Lib.hid hy
  have hd := step_any TW6.out.a.at_ HO.out hy
  have hok := (step_ok HO.out TW6.out.a.at_.byte TW6.out.a.at_.len hy).1
  obtain ⟨t0, t1, t2, t3, t4, t5, t6, t7, ht⟩ := hok.eight
  obtain ⟨⟨tc, tr, tb, tz⟩, B2, wh, gt⟩ := y
  simp only at ht
  subst ht
  rw [val_lit] at hd
  refine hd.mono ?_; rintro e w7 ⟨rfl, m7, c7⟩
  dsimp only at m7 ⊢
  rw [val_lit]
  have TW7 := TW6.out.stepA m7 c7
  have K7 := K6.out.pass TW6.out.a.at_ c7 (by decide)
  have HOK := Lib.hid hok
  clear hd hy m7 c7 hok TW6 K6
  replace TW7 := Lib.hid TW7
  replace K7 := Lib.hid K7
  obtain ⟨W8, e8, x8, o8, b8⟩ := boxC w7 #[.int .u32 tc, .int .u32 t0, .int .u32 t1, .int .u32 t2, .int .u32 t3, .int .u32 t4, .int .u32 t5, .int .u32 t6, .int .u32 t7, .int .u32 tb, .int .u32 tz] wh gt
  have TW8 := Lib.hid (TW7.out.below b8)
  have K8 := K7.out.below b8
  obtain ⟨⟨k0, k1, k2, k3, k4, k5, k6, k7, k8, k9, k10⟩, _⟩ := has11 K8
  replace K8 := Lib.hid K8
  replace x8 := Lib.hid x8
  replace o8 := Lib.hid o8
  clear b8 TW7 K7
  go_wp2_with fail
  clear e8
  have OF := of_try pc r0 r1 r2 r3 r4 r5 r6 r7 b s W8
  refine OF.mono ?_; rintro e w9 ⟨rfl, hb9⟩
  have TW9 := Lib.hid (TW8.out.below hb9)
  have x9 := Lib.hid (x8.out.below hb9)
  have o9 := Lib.hid (o8.out.below hb9)
  clear hb9 OF k0 k1 k2 k3 k4 k5 k6 k7 k8 k9 k10 TW8 K8 x8 o8
  go_wp2_with fail
  have hd := step_any TW9.out.b.at_ HO.out HY.out
  rw [val_lit] at hd
  refine hd.mono ?_; rintro e w10 ⟨rfl, m10, c10⟩
  dsimp only at m10 ⊢
  rw [val_lit]
  have x10 := Lib.hid (x9.out.pass TW9.out.b.at_ c10 (by decide))
  have o10 := Lib.hid (o9.out.pass TW9.out.b.at_ c10 (by decide))
  have TW10 := Lib.hid (TW9.out.stepB m10 c10)
  clear hd m10 c10 TW9 x9 o9
  obtain ⟨W11, e11, y11, p11, b11⟩ := boxC w10 #[.int .u32 tc, .int .u32 t0, .int .u32 t1, .int .u32 t2, .int .u32 t3, .int .u32 t4, .int .u32 t5, .int .u32 t6, .int .u32 t7, .int .u32 tb, .int .u32 tz] wh gt
  have TW11 := Lib.hid (TW10.out.below b11)
  have x11 := x10.out.below b11
  have o11 := Lib.hid (o10.out.below b11)
  obtain ⟨⟨k0, k1, k2, k3, k4, k5, k6, k7, k8, k9, k10⟩, _⟩ := has11 x11
  replace x11 := Lib.hid x11
  replace y11 := Lib.hid y11
  replace p11 := Lib.hid p11
  clear b11 TW10 x10 o10
  go_wp2_with fail
  clear e11
  have RU := run_any TW11.out.a.at_ HOK.out 0 (by decide)
  rw [val_lit] at RU
  refine RU.mono ?_; rintro e w12 ⟨k, z, sz, _, rfl, m12, c12⟩
  obtain rfl : k = 0 := by rcases sz.lim with h | h <;> omega
  obtain rfl : _ = z := sz.eq
  change MemAt w12 pa ga ha B2 T4 at m12
  dsimp only [seqF]
  rw [val_lit]
  have x12 := Lib.hid (x11.out.pass TW11.out.a.at_ c12 (by decide))
  have o12 := Lib.hid (o11.out.pass TW11.out.a.at_ c12 (by decide))
  have y12 := Lib.hid (y11.out.pass TW11.out.a.at_ c12 (by decide))
  have p12 := Lib.hid (p11.out.pass TW11.out.a.at_ c12 (by decide))
  have TW12 := Lib.hid (TW11.out.stepA m12 c12)
  clear RU m12 c12 sz TW11 x11 o11 y11 p11 k0 k1 k2 k3 k4 k5 k6 k7 k8 k9 k10
  obtain ⟨W13, e13, z13, q13, b13⟩ := boxC w12 #[.int .u32 tc, .int .u32 t0, .int .u32 t1, .int .u32 t2, .int .u32 t3, .int .u32 t4, .int .u32 t5, .int .u32 t6, .int .u32 t7, .int .u32 tb, .int .u32 tz] 0 0
  have i0 := set_same q13 0 _ rfl
  have i1 := set_same q13 1 _ rfl
  obtain ⟨⟨j0, j1⟩, ⟨j2, j3⟩⟩ := has2 q13
  have TW13 := Lib.hid (TW12.out.below b13)
  have x13 := Lib.hid (x12.out.below b13)
  have o13 := Lib.hid (o12.out.below b13)
  have y13 := Lib.hid (y12.out.below b13)
  have p13 := Lib.hid (p12.out.below b13)
  replace z13 := Lib.hid z13
  replace q13 := Lib.hid q13
  clear b13 TW12 x12 o12 y12 p12
  go_wp2_with fail
  clear e13 i0 i1 j0 j1 j2 j3
  have RA := read_i TW13.out.a.at_ 0 192 (T4_yes 0 192 (by decide))
  refine RA.mono ?_; rintro e w14 ⟨rfl, ra, b14⟩
  have RA14 := Lib.hid ra
  have TW14 := Lib.hid (TW13.out.below b14)
  have x14 := Lib.hid (x13.out.below b14)
  have o14 := Lib.hid (o13.out.below b14)
  have y14 := Lib.hid (y13.out.below b14)
  have p14 := Lib.hid (p13.out.below b14)
  have z14 := Lib.hid (z13.out.below b14)
  have q14 := Lib.hid (q13.out.below b14)
  clear RA ra b14 TW13 x13 o13 y13 p13 z13 q13
  go_wp2_with fail
  have RB := read_i TW14.out.b.at_ 0 192 (T4_yes 0 192 (by decide))
  refine RB.mono ?_; rintro e w15 ⟨rfl, rb, b15⟩
  have hl2 : B2.length = 256 := by have := TW14.out.a.at_.len; simpa [T4] using this
  have hbt := TW14.out.a.at_.byte
  have hlp : ((B2.drop 0).take 192).length = 192 := by rw [List.length_take, List.length_drop]; omega
  have r1 := row_blk (take_byte (drop_byte hbt 0) 192) (by rw [hlp]; decide) (RA14.out.below b15)
  have r2 := row_blk (take_byte (drop_byte hbt 0) 192) (by rw [hlp]; decide) rb
  have cv1 := conv_row r1 192 hlp
  have cv2 := conv_row r2 192 hlp
  rw [hlp] at cv1 cv2
  obtain ⟨⟨k0, k1, k2, k3, k4, k5, k6, k7, k8, k9, k10⟩, _⟩ := has11 (x14.out.below b15)
  obtain ⟨⟨l0, l1, l2, l3, l4, l5, l6, l7, l8, l9, l10⟩, _⟩ := has11 (y14.out.below b15)
  obtain ⟨⟨m0, m1, m2, m3, m4, m5, m6, m7, m8, m9, m10⟩, _⟩ := has11 (z14.out.below b15)
  obtain ⟨⟨n0, n1⟩, _⟩ := has2 (o14.out.below b15)
  obtain ⟨⟨o0, o1⟩, _⟩ := has2 (p14.out.below b15)
  obtain ⟨⟨u0, u1⟩, _⟩ := has2 (q14.out.below b15)
  have TW15 := Lib.hid (TW14.out.below b15)
  clear RB rb b15 TW14 x14 o14 y14 p14 z14 q14 RA14 r1 r2 hl2 hbt hlp
  have E8 := eq8 t0 t1 t2 t3 t4 t5 t6 t7 w15
  go_wp2_with fail
  go_ret
  exact ⟨rfl, TW15.out.a.bel⟩
theorem stepSame_walk (c : Cp) (A : Option Addr) (cap : Nat) (l : List Int) (w : World) (o : c.Ok) (hr : RowAt w A cap l) :
    Calls Try.prog 8 #[c.val, .slice A l.length cap] w fun e w' => e = .returned (.bool true) ∧ Below w.heap.size w w' := by
  by_cases h : 1000 < l.length
  · exact same_long c o A _ cap h w
  · obtain ⟨r0, r1, r2, r3, r4, r5, r6, r7, hx⟩ := o.eight
    obtain ⟨pc, r, b, s⟩ := c
    simp only at hx
    subst hx
    exact same_n pc r0 r1 r2 r3 r4 r5 r6 r7 b s o A cap l _ rfl (by omega) w hr
end Go.Proofs.Ythmcddecgdegdaa.Mm
