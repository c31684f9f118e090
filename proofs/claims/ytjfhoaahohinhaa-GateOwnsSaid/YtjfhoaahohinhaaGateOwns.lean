/- The statement GateOwns, walked, over the contracts of package gate. -/
import Derived.Test.YtjfhoaahohinhaaGateTold
import Derived.Test.YtjfhoaahohinhaaStepOpen
namespace Go.Proofs.Ytjfhoaahohinhaa.Mm
open Go.ChangeShapes Go.WideShapes Go.ChangeAt Go.RowKit
set_option linter.unusedVariables false

set_option maxHeartbeats 2000000 in
theorem rOwns_any (pc r0 r1 r2 r3 r4 r5 r6 r7 b s at_ n : Int) (hb : U32 b) (hs : U32 s) (ha : U32 at_) (hn : U32 n) (w : World) :
    Calls Try.prog 12 #[.agg #[.int .u32 pc, .int .u32 r0, .int .u32 r1, .int .u32 r2, .int .u32 r3, .int .u32 r4, .int .u32 r5, .int .u32 r6, .int .u32 r7, .int .u32 b, .int .u32 s], .int .u32 at_, .int .u32 n] w fun e w' => e = .returned (.bool (ownsB b s at_ n)) ∧ Below w.heap.size w w' := by
  unfold U32 at hb hs ha hn
  obtain ⟨b0, b1⟩ := hb
  obtain ⟨s0, s1⟩ := hs
  obtain ⟨a0, a1⟩ := ha
  obtain ⟨n0, n1⟩ := hn
  have hh : 0 ≤ s / 2 ∧ s / 2 < 4294967296 := by omega
  obtain ⟨h0, h1⟩ := hh
  have et : s.tdiv 2 = s / 2 := Int.tdiv_eq_ediv_of_nonneg s0
  have HD := Lib.hid (show ownsB b s at_ n = (decide (b + s / 2 ≤ at_) && decide (at_ + n ≤ b + s / 2 + s / 2)) from rfl)
  by_cases k1 : b + s / 2 ≤ at_
  · by_cases k2 : at_ + n ≤ b + s / 2 + s / 2
    · have hq : ownsB b s at_ n = true := by rw [HD.out]; simp [k1, k2]
      rw [hq]
      clear HD hq
      generalize s / 2 = h at *
      go_enter Try.func12, Try.ntmps12
      go_wp2_with fail
      go_ret
      exact ⟨rfl, bel_al (Below.refl _ _) _⟩
    · have hq : ownsB b s at_ n = false := by rw [HD.out]; simp [k1, k2]
      rw [hq]
      clear HD hq
      generalize s / 2 = h at *
      go_enter Try.func12, Try.ntmps12
      go_wp2_with fail
      go_ret
      exact ⟨rfl, bel_al (Below.refl _ _) _⟩
  · have hq : ownsB b s at_ n = false := by rw [HD.out]; simp [k1]
    rw [hq]
    clear HD hq
    generalize s / 2 = h at *
    go_enter Try.func12, Try.ntmps12
    go_wp2_with fail
    go_ret
    exact ⟨rfl, bel_al (Below.refl _ _) _⟩
theorem of_try (pc r0 r1 r2 r3 r4 r5 r6 r7 b s : Int) (w : World) :
    Calls Try.prog 10 #[.agg #[.int .u32 pc, .int .u32 r0, .int .u32 r1, .int .u32 r2, .int .u32 r3, .int .u32 r4, .int .u32 r5, .int .u32 r6, .int .u32 r7, .int .u32 b, .int .u32 s]] w fun e w' =>
      e = .returned (.agg #[.int .u32 pc, .int .u32 r0, .int .u32 r1, .int .u32 r2, .int .u32 r3, .int .u32 r4, .int .u32 r5, .int .u32 r6, .int .u32 r7, .int .u32 b, .int .u32 s]) ∧ Below w.heap.size w w' := by
  go_enter Try.func10, Try.ntmps10
  go_wp2_with fail
  refine bodyPost_ret (v := .agg #[.int .u32 pc, .int .u32 r0, .int .u32 r1, .int .u32 r2, .int .u32 r3, .int .u32 r4, .int .u32 r5, .int .u32 r6, .int .u32 r7, .int .u32 b, .int .u32 s]) (by simp [results, Try.results10, go_sem]) rfl ⟨rfl, ?_⟩
  exact bel_al (bel_al (Below.refl _ _) _) _
/-- Do, gate 3, as the statement calls it -/
theorem owns_do (DC : DoGC) (pc r2 r3 r4 r5 r6 r7 b s at_ n : Int) (o : (⟨pc, [at_, n, r2, r3, r4, r5, r6, r7], b, s⟩ : Cp).Ok) (w : World) (p g h : Nat) (B : List Int) (T : List Bool) (hm : MemAt w p g h B T) :
    ∃ sv : Int, (ownsB b s at_ n = false → sv = 4294967295) ∧ Calls Try.prog 11 #[.agg #[.int .u32 pc, .int .u32 at_, .int .u32 n, .int .u32 r2, .int .u32 r3, .int .u32 r4, .int .u32 r5, .int .u32 r6, .int .u32 r7, .int .u32 b, .int .u32 s], .pointer (some ⟨p, 0, none⟩), .agg #[.slice none 0 0, .int .i64 0, .slice none 0 0, .bool false, .int .u32 0], .int .i64 3] w fun e w' =>
      ∃ RA' rc' TA' tc', e = .returned (.tuple #[.agg #[.int .u32 pc, .int .u32 sv, .int .u32 n, .int .u32 r2, .int .u32 r3, .int .u32 r4, .int .u32 r5, .int .u32 r6, .int .u32 r7, .int .u32 b, .int .u32 s], .agg #[.slice RA' 0 rc', .int .i64 0, .slice TA' 1 tc', .bool false, .int .u32 0]]) ∧ EvRow w' TA' tc' [(3, sv)] ∧ Below w.heap.size w w' ∧ OffR w none none RA' TA' := by
  refine ⟨sumV ⟨pc, [at_, n, r2, r3, r4, r5, r6, r7], b, s⟩ B T, fun hf => ?_, ?_⟩
  · unfold sumV
    rw [if_neg]
    show ¬ ((ownsB b s at_ n && _) = true)
    rw [hf]; simp
  · have h := DC ⟨pc, [at_, n, r2, r3, r4, r5, r6, r7], b, s⟩ (some ⟨p, 0, none⟩) (wd0 []) 3 _ o (wd0_ok (by simp)) (by omega) w none 0 none 0 (kRow_nil _ w) (evRow_nil w) (fun _ _ => ⟨p, g, h, B, T, rfl, hm, rfl⟩)
    refine h.mono ?_
    rintro e w' ⟨RA', rc', TA', tc', rfl, k1, k2, k3, k4⟩
    exact ⟨RA', rc', TA', tc', rfl, k2, k3, k4⟩
set_option maxRecDepth 10000 in
set_option maxHeartbeats 8000000 in
theorem vowns_few (AW : Hid AwG) (DC : Hid DoGC) (OC : Hid OwnsC) (c : Cp) (oc : c.Ok) (at_ n : Int) (ha : U32 at_) (hn : U32 n) (A : Option Addr) (cap k : Nat) (l : List Int) (hl : l.length = k) (hk : k ≤ 500) (w : World) (rA : RowAt w A cap l) :
    Calls Try.prog 3 #[c.val, .int .u32 at_, .int .u32 n, .slice A k cap] w fun e w' => e = .returned (.bool true) ∧ Below w.heap.size w w' := by
  obtain ⟨r0, r1, r2, r3, r4, r5, r6, r7, hr⟩ := oc.eight
  obtain ⟨pc, r, b, s⟩ := c
  simp only at hr
  subst hr
  have OW := Lib.hid (OC.out ⟨pc, [r0, r1, r2, r3, r4, r5, r6, r7], b, s⟩ at_ n oc ha hn)
  have hb := oc.b
  have hs := oc.s
  have RO := Lib.hid (fun w => rOwns_any pc at_ n r2 r3 r4 r5 r6 r7 b s at_ n hb hs ha hn w)
  have o2 : (⟨pc, [at_, n, r2, r3, r4, r5, r6, r7], b, s⟩ : Cp).Ok := ⟨oc.pc, rfl, fun x hx => by
    simp only [List.mem_cons, List.not_mem_nil, or_false] at hx
    have q : ∀ y ∈ [r0, r1, r2, r3, r4, r5, r6, r7], U32 y := oc.r
    rcases hx with rfl | rfl | rfl | rfl | rfl | rfl | rfl | rfl
    · exact ha
    · exact hn
    all_goals exact q _ (by simp), hb, hs⟩
  have OD := Lib.hid (fun w p g h B T hm => owns_do DC.out pc r2 r3 r4 r5 r6 r7 b s at_ n o2 w p g h B T hm)
  have MK : Hid (∀ w', Below w.heap.size w w' → Calls Try.prog 8 #[.slice A k cap] w' (Mem8P w' l)) := Lib.hid (fun w' hb' => by
    by_cases h : k ≤ 256
    · exact mem8_some A k cap l hl h w' (rA.below hb')
    · exact mem8_more A k cap l hl (by omega) (by omega) w' (rA.below hb'))
  have OFC := Lib.hid (fun p0 p1 p2 p3 p4 p5 p6 p7 w => of_try pc p0 p1 p2 p3 p4 p5 p6 p7 b s w)
  have HA := Lib.hid ha
  have HN := Lib.hid hn
  clear rA hl oc o2 hb hs ha hn
  unfold Cp.val Cp.cs at OW ⊢
  simp only [List.map_cons, List.map_nil, List.cons_append, List.nil_append] at OW ⊢
  generalize hown : ownsB b s at_ n = own at *
  have HO := Lib.hid hown
  clear hown
  go_enter Try.func3, Try.ntmps3
  go_wp2_with fail
  refine (AW.out _).mono ?_; rintro e w1 ⟨rfl, hb1⟩
  have HC := Lib.hid ((HasB.new w 25 [.int .u32 pc, .int .u32 r0, .int .u32 r1, .int .u32 r2, .int .u32 r3, .int .u32 r4, .int .u32 r5, .int .u32 r6, .int .u32 r7, .int .u32 b, .int .u32 s]).below hb1)
  have B1 := Lib.hid (bel_then (bel_al (Below.refl _ w) (.cells #[.int .u32 pc, .int .u32 r0, .int .u32 r1, .int .u32 r2, .int .u32 r3, .int .u32 r4, .int .u32 r5, .int .u32 r6, .int .u32 r7, .int .u32 b, .int .u32 s] 25)) hb1)
  have hg0 : w.heap.size = w.heap.size := rfl
  clear hb1
  go_wp2_with fail
  refine (MK.out _ B1.out).mono ?_; rintro e w2 ⟨p, g, h, xb, cB, yb, cU, rfl, ms, hp⟩
  have M2 := Lib.hid ms.m
  clear ms
  have hp1 : w1.heap.size ≤ p := M2.out.p_
  have hg1 : w1.heap.size ≤ g := M2.out.g_
  have hh1 : w1.heap.size ≤ h := M2.out.h_
  have hgl := HC.out.lt
  obtain ⟨W3, e3, b3⟩ : ∃ W3, w2.alloc (.cells #[.slice (some ⟨xb, 0, none⟩) 512 cB, .slice (some ⟨yb, 0, none⟩) 512 cU] 31) = W3 ∧ Below w2.heap.size w2 W3 := ⟨_, rfl, bel_al (Below.refl _ _) _⟩
  have M3 := Lib.hid (M2.out.below b3)
  have HC2 := HC.out.below M2.out.bel
  have HC3 := Lib.hid (HC2.below b3)
  have B3 := Lib.hid (bel_then (bel_then B1.out M2.out.bel) b3)
  clear HC2 b3 M2 HC
  have ac0 := HC3.out.cell 0; have af0 := HC3.out.frozen 0
  have ac1 := HC3.out.cell 1; have af1 := HC3.out.frozen 1
  have ac2 := HC3.out.cell 2; have af2 := HC3.out.frozen 2
  have ac3 := HC3.out.cell 3; have af3 := HC3.out.frozen 3
  have ac4 := HC3.out.cell 4; have af4 := HC3.out.frozen 4
  have ac5 := HC3.out.cell 5; have af5 := HC3.out.frozen 5
  have ac6 := HC3.out.cell 6; have af6 := HC3.out.frozen 6
  have ac7 := HC3.out.cell 7; have af7 := HC3.out.frozen 7
  have ac8 := HC3.out.cell 8; have af8 := HC3.out.frozen 8
  have ac9 := HC3.out.cell 9; have af9 := HC3.out.frozen 9
  have ac10 := HC3.out.cell 10; have af10 := HC3.out.frozen 10
  simp only [List.getElem?_cons_succ, List.getElem?_cons_zero] at ac0 ac1 ac2 ac3 ac4 ac5 ac6 ac7 ac8 ac9 ac10
  go_wp2_with fail
  refine (OFC.out r0 r1 r2 r3 r4 r5 r6 r7 _).mono ?_; rintro e w4 ⟨rfl, hb4⟩
  have M4 := Lib.hid (M3.out.below hb4)
  have HC4 := Lib.hid (HC3.out.below hb4)
  have B4 := Lib.hid (bel_then B3.out hb4)
  clear hb4 M3 HC3 B3
  go_wp2_with fail
  refine (OW.out _).mono ?_; rintro e w5 ⟨rfl, hb5⟩
  have M5 := Lib.hid (M4.out.below hb5)
  have HC5 := Lib.hid (HC4.out.below hb5)
  have B5 := Lib.hid (bel_then B4.out hb5)
  clear hb5 M4 HC4 B4
  obtain ⟨W6, e6⟩ : ∃ W6, w5.setCell ⟨w.heap.size, 1, none⟩ (.int .u32 at_) = W6 := ⟨_, rfl⟩
  have C6 : HasB W6 w.heap.size 25 [.int .u32 pc, .int .u32 at_, .int .u32 r1, .int .u32 r2, .int .u32 r3, .int .u32 r4, .int .u32 r5, .int .u32 r6, .int .u32 r7, .int .u32 b, .int .u32 s] := by rw [← e6]; exact has_set HC5.out 1 _
  obtain ⟨W7, e7⟩ : ∃ W7, W6.setCell ⟨w.heap.size, 2, none⟩ (.int .u32 n) = W7 := ⟨_, rfl⟩
  have C7 : HasB W7 w.heap.size 25 [.int .u32 pc, .int .u32 at_, .int .u32 n, .int .u32 r2, .int .u32 r3, .int .u32 r4, .int .u32 r5, .int .u32 r6, .int .u32 r7, .int .u32 b, .int .u32 s] := by rw [← e7]; exact has_set C6 2 _
  have X7 : Chg w.heap.size w.heap.size w5 W7 := by rw [← e7, ← e6]; exact chg_set (chg_set (Chg.refl _ _ _) _ (.inl rfl) _ _) _ (.inl rfl) _ _
  have M7 := Lib.hid (M5.out.at_.chg X7 (by omega) (by omega) (by omega) (by omega) (by omega) (by omega))
  have HC7 := Lib.hid C7
  have B7 := Lib.hid (X7.below B5.out (by have := B5.out.size; omega) (by omega) (by omega))
  have bc1 := HC5.out.cell 1; have bf1 := HC5.out.frozen 1
  simp only [List.getElem?_cons_succ, List.getElem?_cons_zero] at bc1
  have cc2 := C6.cell 2; have cf2 := C6.frozen 2
  simp only [List.getElem?_cons_succ, List.getElem?_cons_zero] at cc2
  have dc0 := HC7.out.cell 0; have df0 := HC7.out.frozen 0
  have dc1 := HC7.out.cell 1; have df1 := HC7.out.frozen 1
  have dc2 := HC7.out.cell 2; have df2 := HC7.out.frozen 2
  have dc3 := HC7.out.cell 3; have df3 := HC7.out.frozen 3
  have dc4 := HC7.out.cell 4; have df4 := HC7.out.frozen 4
  have dc5 := HC7.out.cell 5; have df5 := HC7.out.frozen 5
  have dc6 := HC7.out.cell 6; have df6 := HC7.out.frozen 6
  have dc7 := HC7.out.cell 7; have df7 := HC7.out.frozen 7
  have dc8 := HC7.out.cell 8; have df8 := HC7.out.frozen 8
  have dc9 := HC7.out.cell 9; have df9 := HC7.out.frozen 9
  have dc10 := HC7.out.cell 10; have df10 := HC7.out.frozen 10
  simp only [List.getElem?_cons_succ, List.getElem?_cons_zero] at dc0 dc1 dc2 dc3 dc4 dc5 dc6 dc7 dc8 dc9 dc10
  clear M5 X7
  go_wp2_with fail
  refine (OFC.out at_ n r2 r3 r4 r5 r6 r7 _).mono ?_; rintro e w8 ⟨rfl, hb8⟩
  have M8 := Lib.hid (M7.out.below hb8)
  have HC8 := Lib.hid (HC7.out.below hb8)
  have B8 := Lib.hid (bel_then B7.out hb8)
  clear hb8 M7 HC7 B7
  go_wp2_with fail
  obtain ⟨sv, hsv, D8⟩ := OD.out w8 p g h _ _ M8.out
  have SV := Lib.hid hsv
  clear hsv
  refine D8.mono ?_; rintro e w9 ⟨RA, rc, TA, tc, rfl, k1, k2, k3⟩
  have HC9 := HC8.out.below k2
  have B9 := Lib.hid (bel_then B8.out k2)
  obtain ⟨W10, e10, y10, z10, b10⟩ := boxG w9 #[.int .u32 pc, .int .u32 sv, .int .u32 n, .int .u32 r2, .int .u32 r3, .int .u32 r4, .int .u32 r5, .int .u32 r6, .int .u32 r7, .int .u32 b, .int .u32 s] (.slice RA 0 rc) (.int .i64 0) (.slice TA 1 tc) (.bool false) (.int .u32 0)
  have HC10 := Lib.hid (HC9.below b10)
  have B10 := Lib.hid (bel_then B9.out b10)
  obtain ⟨x, rfl, hxb, hcT⟩ := (k1.below b10).2.2.2 (by simp)
  have t0 := (hcT 0 (by simp)).c0
  have t1 := (hcT 0 (by simp)).c1
  have ez : x.add 0 = x := by simp [Addr.add]
  simp only [Nat.zero_mul, ez] at t0 t1
  simp at t0 t1
  have TX := Lib.hid (And.intro hxb t1)
  have Y10 := Lib.hid y10
  have Z10 := Lib.hid z10
  obtain ⟨⟨v0, v1, v2, v3, v4⟩, ⟨f0, f1, f2, f3, f4⟩⟩ := has5 z10
  have s3 := set_same z10 3 _ rfl
  have s4 := set_same z10 4 _ rfl
  have gc0 := HC10.out.cell 0; have gf0 := HC10.out.frozen 0
  have gc1 := HC10.out.cell 1; have gf1 := HC10.out.frozen 1
  have gc2 := HC10.out.cell 2; have gf2 := HC10.out.frozen 2
  have gc3 := HC10.out.cell 3; have gf3 := HC10.out.frozen 3
  have gc4 := HC10.out.cell 4; have gf4 := HC10.out.frozen 4
  have gc5 := HC10.out.cell 5; have gf5 := HC10.out.frozen 5
  have gc6 := HC10.out.cell 6; have gf6 := HC10.out.frozen 6
  have gc7 := HC10.out.cell 7; have gf7 := HC10.out.frozen 7
  have gc8 := HC10.out.cell 8; have gf8 := HC10.out.frozen 8
  have gc9 := HC10.out.cell 9; have gf9 := HC10.out.frozen 9
  have gc10 := HC10.out.cell 10; have gf10 := HC10.out.frozen 10
  simp only [List.getElem?_cons_succ, List.getElem?_cons_zero] at gc0 gc1 gc2 gc3 gc4 gc5 gc6 gc7 gc8 gc9 gc10
  clear hcT k1 k2 k3 y10 z10 b10 t0 t1 HC9 D8
  go_wp2_with fail
  refine (RO.out _).mono ?_; rintro e w11 ⟨rfl, hb11⟩
  have Y11 := Lib.hid (Y10.out.below hb11)
  have Z11 := Lib.hid (Z10.out.below hb11)
  have B11 := Lib.hid (bel_then B10.out hb11)
  have t1 : w11.cell? ⟨x.block, x.off + 1, none⟩ = some (.int .u32 sv) := (hb11.cell (p := ⟨x.block, x.off + 1, none⟩) TX.out.1).trans TX.out.2
  have x0 : x.add 0 = x := ez
  have y1 := Y11.out.cell 1
  have z2 := Z11.out.cell 2
  simp only [List.getElem?_cons_succ, List.getElem?_cons_zero] at y1 z2
  clear hb11 v0 v1 v2 v3 v4 f0 f1 f2 f3 f4 s3 s4 e10
  cases own
  · have hq := SV.out rfl
    subst hq
    go_wp2_with fail
    go_quiet (fail)
    go_wp2_with fail
    go_ret
    exact ⟨rfl, below_drewN B11.out _⟩
  · go_wp2_with fail
    go_quiet (fail)
    go_wp2_with fail
    go_ret
    exact ⟨rfl, below_drewN B11.out _⟩
theorem vowns_long (AW : Hid AwG) (c : Cp) (oc : c.Ok) (at_ n : Int) (A : Option Addr) (cap k : Nat) (h1 : k ≤ maxLen) (h : 500 < k) (w : World) :
    Calls Try.prog 3 #[c.val, .int .u32 at_, .int .u32 n, .slice A k cap] w fun e w' => e = .returned (.bool true) ∧ Below w.heap.size w w' := by
  unfold maxLen at h1
  obtain ⟨r0, r1, r2, r3, r4, r5, r6, r7, hr⟩ := oc.eight
  obtain ⟨pc, r, b, s⟩ := c
  simp only at hr
  subst hr
  clear oc
  unfold Cp.val Cp.cs
  simp only [List.map_cons, List.map_nil, List.cons_append, List.nil_append]
  go_enter Try.func3, Try.ntmps3
  go_wp2_with fail
  refine (AW.out _).mono ?_; rintro e w1 ⟨rfl, hb1⟩
  have B1 := Lib.hid (bel_then (bel_al (Below.refl _ w) (.cells #[.int .u32 pc, .int .u32 r0, .int .u32 r1, .int .u32 r2, .int .u32 r3, .int .u32 r4, .int .u32 r5, .int .u32 r6, .int .u32 r7, .int .u32 b, .int .u32 s] 25)) hb1)
  clear hb1
  go_wp2_with fail
  refine (AW.out _).mono ?_; rintro e w2 ⟨rfl, hb2⟩
  have B2 := Lib.hid (bel_then B1.out hb2); clear hb2
  go_wp2_with fail
  go_ret
  exact ⟨rfl, B2.out⟩
theorem vowns (AW : Hid AwG) (DC : Hid DoGC) (OC : Hid OwnsC) (c : Cp) (at_ n : Int) (A : Option Addr) (cap : Nat) (l : List Int) (w : World) (oc : c.Ok) (wa : (Lit.int .u32 at_).wf = true) (wn : (Lit.int .u32 n).wf = true) (rA : RowAt w A cap l) :
    Calls Try.prog 3 #[c.val, .int .u32 at_, .int .u32 n, .slice A l.length cap] w fun e w' => e = .returned (.bool true) ∧ Below w.heap.size w w' := by
  have ha : U32 at_ := by have := bounds_u32 wa; unfold U32; omega
  have hn : U32 n := by have := bounds_u32 wn; unfold U32; omega
  by_cases h : l.length ≤ 500
  · exact vowns_few AW DC OC c oc at_ n ha hn A cap l.length l rfl h w rA
  · exact vowns_long AW c oc at_ n A cap l.length (Nat.le_trans rA.1 rA.2.1) (by omega) w
end Go.Proofs.Ytjfhoaahohinhaa.Mm
