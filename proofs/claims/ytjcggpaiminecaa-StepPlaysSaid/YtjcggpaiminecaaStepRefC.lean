/- The document's own step: instructions that set a register, and those that do nothing. -/
import Derived.Test.YtjcggpaiminecaaStepRefB
import Derived.Test.YtjcggpaiminecaaIsaRefRead
namespace Go.Proofs.Ytjcggpaiminecaa.Mm
open Go.ChangeShapes Go.WideShapes Go.ChangeAt Go.RowKit
set_option linter.unusedVariables false

set_option maxRecDepth 100000 in
set_option maxHeartbeats 8000000 in
theorem rdo_0 (xb yb cB cU : Nat) (B : List Int) (r0 r1 r2 r3 r4 r5 r6 r7 b s : Int) (pc : Nat) (hB : B.length = 256) (hBy : Bytes B) (h1 : pc < 4294967296) (w : World) (rB : RowAt w (some ⟨xb, 0, none⟩) cB B) (rU : BlAt w (some ⟨yb, 0, none⟩) cU U4) (imm va vb : Int)  (x y n : Nat) (hx : x < 8) (hy : y < 8) (i0 : 0 ≤ imm) (i1 : imm < 4294967296) (hn : 1 ≤ n) (hn' : n ≤ 6) (hrd : Rd (codeL B T4 (pc : Int)) 0 x y imm n) (hva : Cp.reg ⟨pc, [r0, r1, r2, r3, r4, r5, r6, r7], b, s⟩ x = va) (hvb : Cp.reg ⟨pc, [r0, r1, r2, r3, r4, r5, r6, r7], b, s⟩ y = vb) (va0 : 0 ≤ va) (va1 : va < 4294967296) (vb0 : 0 ≤ vb) (vb1 : vb < 4294967296) (ok : Cp.Ok ⟨pc, [r0, r1, r2, r3, r4, r5, r6, r7], b, s⟩) :
    Calls Try.prog 25 #[.agg #[.int .u32 pc, .int .u32 r0, .int .u32 r1, .int .u32 r2, .int .u32 r3, .int .u32 r4, .int .u32 r5, .int .u32 r6, .int .u32 r7, .int .u32 b, .int .u32 s], .agg #[.slice (some ⟨xb, 0, none⟩) 256 cB, .slice (some ⟨yb, 0, none⟩) 256 cU]] w (RDoP w xb yb cU ⟨⟨pc, [r0, r1, r2, r3, r4, r5, r6, r7], b, s⟩, B, 1, 0⟩) := by
  obtain ⟨W0, e1, k0, hz0⟩ := RDoS.new w pc r0 r1 r2 r3 r4 r5 r6 r7 b s (.slice (some ⟨xb, 0, none⟩) 256 cB) (.slice (some ⟨yb, 0, none⟩) 256 cU)
  have K0 := Lib.hid k0
  have y0 := k0.c.cell 0
  simp only [List.getElem?_cons_zero] at y0
  obtain ⟨K, hK⟩ : ∃ K, min 6 (192 - pc) = K := ⟨_, rfl⟩
  have HC := Lib.hid (code4 B pc)
  rw [hK] at HC
  have hK6 : K ≤ 6 := by omega
  have hKB : K = 0 ∨ pc + K ≤ 192 := by omega
  have hKe : K = 6 ∨ 192 ≤ pc + K := by omega
  have hbel := k0.bel
  have HB0 := Lib.hid hbel
  have RB := Lib.hid (rB.below hbel)
  have RU := Lib.hid (rU.below hbel)
  have HXB := Lib.hid (show xb < w.heap.size by obtain ⟨x, hx, hlt, _⟩ := rB.2.2.2 (by intro e; subst e; simp at hB); injection hx with hx; subst hx; exact hlt)
  have HB := Lib.hid hB
  have HBy := Lib.hid hBy
  have HZ := Lib.hid hz0
  clear k0 hK rB rU hbel hB hBy hz0
  go_enter Try.func25, Try.ntmps25
  go_wp2_with fail
  clear y0 e1
  go_loopw [8, 9] (fun v i w' => RGet W0 K pc B v i w') (fun _ i _ => pc + 6 - (intOf i).toNat)
  case atStart => exact ⟨0, Nat.zero_le _, by go_num, World.ownsRow_nil _ _ _ _, Below.refl _ _⟩
  case round =>
    obtain ⟨k, hk, rfl, own, hb⟩ := hrel
    have KR := Lib.hid (K0.out.below hb)
    have OWN := Lib.hid own
    have HBW := Lib.hid hb
    have RBW := Lib.hid (RB.out.below hb)
    have RUW := Lib.hid (RU.out.below hb)
    clear own hb
    have y0 := KR.out.c.cell 0
    obtain ⟨⟨m0, m1⟩, _⟩ := has2 KR.out.m
    simp only [List.getElem?_cons_zero] at y0
    have n0 : (pc : Int) + (k : Int) ≤ 4294967302 := by omega
    go_upto_region 3 with fail
    go_cut [30] (fun s30 wx => s30 = .bool (decide (k < K)) ∧ Below wr.heap.size wr wx)
    case first =>
      by_cases hi6 : k < 6
      · as_aux_lemma =>
        have CA := fun W (r : BlAt W (some ⟨yb, 0, none⟩) cU U4) => all4 ⟨xb, 0, none⟩ yb (pc + k) 1 cB cU (by omega) (by decide) (by decide) W r
        rw [show decide (pc + k + 1 ≤ 192) = decide (k < K) by (congr 1; apply propext; omega), show ((pc + k : Nat) : Int) = (pc : Int) + (k : Int) by omega] at CA
        replace CA := Lib.hid CA
        have d6 : decide ((pc : Int) + (k : Int) < (pc : Int) + 6) = true := decide_eq_true (by omega)
        have i6 : (k : Int) < 6 := by omega
        obtain ⟨dk, hdk⟩ : ∃ dk, decide (k < K) = dk := ⟨_, rfl⟩
        rw [hdk] at CA
        have HD := Lib.hid hdk
        clear hdk
        go_wp2_with fail
        refine (CA.out _ RUW.out).mono ?_; rintro e w3 ⟨rfl, hb3⟩
        go_wp2_with fail
        go_meet
        exact ⟨by rw [HD.out], hb3⟩
      · as_aux_lemma =>
        have d6 : decide ((pc : Int) + (k : Int) < (pc : Int) + 6) = false := decide_eq_false (by omega)
        have i6 : 6 ≤ (k : Int) := by omega
        have hd := Lib.hid (show decide (k < K) = false from decide_eq_false (by omega))
        go_wp2_with fail
        go_meet
        exact ⟨by rw [hd.out], Below.refl _ _⟩
    case rest =>
    obtain ⟨rfl, hb3⟩ := hcut
    have KR3 := Lib.hid (KR.out.below hb3)
    have RB3 := Lib.hid (RBW.out.below hb3)
    have RU3 := Lib.hid (RUW.out.below hb3)
    have HB3 := Lib.hid (bel_then HBW.out hb3)
    have OWN3 := Lib.hid (own_below OWN.out hb3)
    clear hb3 y0 m0 m1 KR RBW RUW HBW OWN
    by_cases hlt : k < K
    · as_aux_lemma =>
      rw [decide_eq_true hlt]
      have hin : pc + k < 192 := by omega
      have e2 : ((pc : Int) + (k : Int)).toNat = pc + k := by omega
      have n1 : (pc : Int) + (k : Int) < 192 := by omega
      have HG := Lib.hid (get_take (B := B) (pc := pc) hlt (by rw [HB.out]; omega))
      have y1 := row_cell RB3.out (pc + k) (by rw [HB.out]; omega)
      have hbd := row_byte HBy.out (pc + k)
      obtain ⟨x, hx⟩ : ∃ x, B.getD (pc + k) 0 = x := ⟨_, rfl⟩
      rw [hx] at y1 hbd HG
      obtain ⟨⟨z0, z1⟩, _⟩ := has2 KR3.out.m
      clear hx
      have HX := Lib.hid (row_new wc [x] 5 1 (Nat.le_refl _) (by decide) (fun z hz => by simp at hz; subst hz; exact hbd))
      have HLL := Lib.hid (show Bytes (((B.drop pc).take K).take k) from take_byte (take_byte (drop_byte HBy.out _) _) _)
      have hsz3 := HB3.out.size
      clear hbd
      generalize ((B.drop pc).take K).take k = L at *
      go_wp2_with (first
        | (at_builtin
           refine append_row rfl (.tmp 33) (.tmp 39) rfl W0.heap.size u8 k L rfl (OWN3.out.alloc _) HLL.out _ 1 1 [x] rfl rfl 1 HX.out (k + 1) rfl (by omega) (by (try simp) <;> omega) ?_
           intro A4 c4 w4 own4 row4 bel4
           have OWN4 := Lib.hid own4
           have BEL4 := Lib.hid bel4
           clear own4 row4 bel4))
      go_roundw
      case rel => exact ⟨k + 1, hlt, by go_num, by rw [HG.out]; exact OWN4.out, (bel_al HB3.out _).trans BEL4.out⟩
      case measure => simp [intOf]; omega
    rw [decide_eq_false hlt]
    have hkK : k = K := by omega
    subst hkK
    clear hlt hk
    have hown := OWN3.out
    rw [List.take_take, Nat.min_self] at hown
    obtain ⟨LB, hLB⟩ : ∃ LB, (B.drop pc).take k = LB := ⟨_, rfl⟩
    rw [hLB] at hown HC
    have hLL : LB.length = k := by rw [← hLB, List.length_take, List.length_drop, HB.out]; omega
    have hLby : Bytes LB := by rw [← hLB]; exact take_byte (drop_byte HBy.out _) _
    obtain ⟨AB, cAB, rfl, hq, hrow⟩ := row_of_own hown hLby
    clear hq
    have RL := Lib.hid hrow
    have HLL := Lib.hid hLL
    have HLby := Lib.hid hLby
    clear hown hrow hLL hLby hLB OWN3
    rw [HC.out] at hrd
    have HN := Lib.hid hrd
    have LNE := Lib.hid (show 0 < LB.length by obtain ⟨_, t, e, _⟩ := hrd; rw [e]; simp)
    clear hrd
    have g0 : ((k : Int) == 0) = false := by rw [beq_eq_false_iff_ne]; have := HLL.out; have := LNE.out; omega
    go_wp2_with fail
    have RN := rRead_yes LB AB cAB 0 0 x y imm n (by rw [HLL.out]; omega) HN.out wc RL.out
    rw [HLL.out] at RN
    refine RN.mono ?_; rintro e w2 ⟨rfl, hb⟩
    unfold insV
    clear RN
    have K2 := Lib.hid (KR3.out.below hb)
    have RB4 := Lib.hid (RB3.out.below hb)
    have RU4 := Lib.hid (RU3.out.below hb)
    clear hb KR3 RB3 RU3 HB3 RL HLby
    have gn : ((n : Int) == 0) = false := by rw [beq_eq_false_iff_ne]; omega
    have N0 : (1 : Int) ≤ (n : Int) := by omega
    have N1 : (n : Int) ≤ 6 := by omega
    obtain ⟨W3, W4, W5, W6, W7, e3, e4, e5, e6, e7, hI, K4, hN, K6, hN6, K7, hI7, hN7, b7, z0, z4⟩ := rdo_worlds K2.out (0) x y imm (((pc : Int) + (n : Int)) % 4294967296)
    have RB5 := Lib.hid (RB4.out.below b7)
    have RU5 := Lib.hid (RU4.out.below b7)
    obtain ⟨⟨t0, t1⟩, ⟨t2, t3⟩⟩ : (W3.cell? ⟨w2.heap.size, 0, none⟩ = some (.int .i64 0) ∧ W3.cell? ⟨w2.heap.size, 1, none⟩ = some (.int .i64 0)) ∧ (W3.cell? ⟨w2.heap.size, 2, none⟩ = some (.int .i64 0) ∧ W3.cell? ⟨w2.heap.size, 3, none⟩ = some (.int .u32 0)) := ⟨⟨hI.cell 0, hI.cell 1⟩, ⟨hI.cell 2, hI.cell 3⟩⟩
    have u0 := hI.frozen 0
    have u1 := hI.frozen 1
    have u2 := hI.frozen 2
    have u3 := hI.frozen 3
    obtain ⟨⟨c0, c1, c2, c3, c4, c5, c6, c7, c8, c9, c10⟩, _⟩ := has11 K4.c
    obtain ⟨⟨m0, m1, m2, m3, m4, m5, m6, m7, m8, m9, m10⟩, ⟨f0, f1, f2, f3, f4, f5, f6, f7, f8, f9, f10⟩⟩ := has11 hN
    have p0 := hN6.cell 0
    have p1 := hN6.frozen 0
    have p2 := K6.c.cell 0
    obtain ⟨⟨q0, q1⟩, ⟨q2, q3⟩⟩ : (W7.cell? ⟨w2.heap.size, 0, none⟩ = some (.int .i64 (0)) ∧ W7.cell? ⟨w2.heap.size, 1, none⟩ = some (.int .i64 x)) ∧ (W7.cell? ⟨w2.heap.size, 2, none⟩ = some (.int .i64 y) ∧ W7.cell? ⟨w2.heap.size, 3, none⟩ = some (.int .u32 imm)) := ⟨⟨hI7.cell 0, hI7.cell 1⟩, ⟨hI7.cell 2, hI7.cell 3⟩⟩
    simp only [List.getElem?_cons_zero] at p0 p2
    have x1 : W7.cell? ⟨w.heap.size, 1 + x, none⟩ = some (.int .u32 va) := by rw [K7.c.cell, ← hva]; exact Cp.cs_reg ok x hx
    have x2 : W7.cell? ⟨w.heap.size, 1 + y, none⟩ = some (.int .u32 vb) := by rw [K7.c.cell, ← hvb]; exact Cp.cs_reg ok y hy
    have HK7 := Lib.hid K7
    have HI7 := Lib.hid hI7
    have HN7 := Lib.hid hN7
    have HVA := Lib.hid hva
    have HVB := Lib.hid hvb
    have OK := Lib.hid ok
    have xI : (x : Int) < 8 := by omega
    have yI : (y : Int) < 8 := by omega
    clear hI K4 hN K6 hN6 K7 hI7 hN7 b7 hva hvb ok K2 RB4 RU4
    go_wp2_with fail
    go_quiet (fail)
    obtain ⟨W8, e8⟩ : ∃ W8, W7.drewN nq = W8 := ⟨_, rfl⟩
    have b8 : Below W7.heap.size W7 W8 := by rw [← e8]; exact below_drewN (Below.refl _ _) nq
    rw [e8]
    have k8 := HK7.out.below b8
    have i8 := HI7.out.below b8
    have d8 := HN7.out.below b8
    have RB8 := Lib.hid (RB5.out.below b8)
    have RU8 := Lib.hid (RU5.out.below b8)
    clear e3 e4 e5 e6 e7 t0 t1 t2 t3 u0 u1 u2 u3 c0 c1 c2 c3 c4 c5 c6 c7 c8 c9 c10 m0 m1 m2 m3 m4 m5 m6 m7 m8 m9 m10 f0 f1 f2 f3 f4 f5 f6 f7 f8 f9 f10 p0 p1 p2 q0 q1 q2 q3 x1 x2 e8 b8 HK7 HI7 HN7 RB5 RU5 HN gn g0 xI yI
    have xI : (x : Int) < 8 := by omega
    obtain ⟨⟨v0, v1⟩, ⟨v2, v3⟩⟩ : (W8.cell? ⟨w2.heap.size, 0, none⟩ = some (.int .i64 (0)) ∧ W8.cell? ⟨w2.heap.size, 1, none⟩ = some (.int .i64 x)) ∧ (W8.cell? ⟨w2.heap.size, 2, none⟩ = some (.int .i64 y) ∧ W8.cell? ⟨w2.heap.size, 3, none⟩ = some (.int .u32 imm)) := ⟨⟨i8.cell 0, i8.cell 1⟩, ⟨i8.cell 2, i8.cell 3⟩⟩
    have K8 := Lib.hid k8
    obtain ⟨⟨c0, c1, c2, c3, c4, c5, c6, c7, c8, c9, c10⟩, _⟩ := has11 k8.c
    obtain ⟨⟨m0, m1⟩, _⟩ := has2 k8.m
    clear k8 i8 d8
    obtain ⟨⟨d0, d1, d2, d3, d4, d5, d6, d7, d8, d9, d10⟩, ⟨f0, f1, f2, f3, f4, f5, f6, f7, f8, f9, f10⟩⟩ := has11 K8.out.d
    obtain ⟨⟨o0, o1⟩, ⟨q0, q1⟩⟩ := has2 K8.out.o
    go_wp2_with fail
    go_region
    all_goals go_wp2_with fail
    all_goals refine bodyPost_ret (v := .tuple #[.agg #[.int .u32 pc, .int .u32 r0, .int .u32 r1, .int .u32 r2, .int .u32 r3, .int .u32 r4, .int .u32 r5, .int .u32 r6, .int .u32 r7, .int .u32 b, .int .u32 s], .agg #[.slice (some ⟨xb, 0, none⟩) 256 cB, .slice (some ⟨yb, 0, none⟩) 256 cU], .int .i64 1, .int .i64 0]) (by simp [results, Try.results25, go_sem, d0, d1, d2, d3, d4, d5, d6, d7, d8, d9, d10, o0, o1]) rfl ?_
    all_goals obtain ⟨x1, x2⟩ := rst13 K8.out.bel (.int .u32 pc) (.int .u32 r0) (.int .u32 r1) (.int .u32 r2) (.int .u32 r3) (.int .u32 r4) (.int .u32 r5) (.int .u32 r6) (.int .u32 r7) (.int .u32 b) (.int .u32 s) (.slice (some ⟨xb, 0, none⟩) 256 cB) (.slice (some ⟨yb, 0, none⟩) 256 cU)
    all_goals exact ⟨_, _, rfl, (RB8.out).chg x1 (by have := HXB.out; omega) (by have := HXB.out; omega), x2, .inl rfl⟩
set_option maxRecDepth 100000 in
set_option maxHeartbeats 8000000 in
theorem rdo_1 (xb yb cB cU : Nat) (B : List Int) (r0 r1 r2 r3 r4 r5 r6 r7 b s : Int) (pc : Nat) (hB : B.length = 256) (hBy : Bytes B) (h1 : pc < 4294967296) (w : World) (rB : RowAt w (some ⟨xb, 0, none⟩) cB B) (rU : BlAt w (some ⟨yb, 0, none⟩) cU U4) (imm va vb : Int)  (x y n : Nat) (hx : x < 8) (hy : y < 8) (i0 : 0 ≤ imm) (i1 : imm < 4294967296) (hn : 1 ≤ n) (hn' : n ≤ 6) (hrd : Rd (codeL B T4 (pc : Int)) 1 x y imm n) (hva : Cp.reg ⟨pc, [r0, r1, r2, r3, r4, r5, r6, r7], b, s⟩ x = va) (hvb : Cp.reg ⟨pc, [r0, r1, r2, r3, r4, r5, r6, r7], b, s⟩ y = vb) (va0 : 0 ≤ va) (va1 : va < 4294967296) (vb0 : 0 ≤ vb) (vb1 : vb < 4294967296) (ok : Cp.Ok ⟨pc, [r0, r1, r2, r3, r4, r5, r6, r7], b, s⟩) :
    Calls Try.prog 25 #[.agg #[.int .u32 pc, .int .u32 r0, .int .u32 r1, .int .u32 r2, .int .u32 r3, .int .u32 r4, .int .u32 r5, .int .u32 r6, .int .u32 r7, .int .u32 b, .int .u32 s], .agg #[.slice (some ⟨xb, 0, none⟩) 256 cB, .slice (some ⟨yb, 0, none⟩) 256 cU]] w (RDoP w xb yb cU ⟨(⟨(((pc : Int) + (n : Int)) % 4294967296), [r0, r1, r2, r3, r4, r5, r6, r7], b, s⟩ : Cp).setR x imm, B, 0, 0⟩) := by
  obtain ⟨F, hF⟩ : ∃ F, (⟨(((pc : Int) + (n : Int)) % 4294967296), [r0, r1, r2, r3, r4, r5, r6, r7], b, s⟩ : Cp).setR x imm = F := ⟨_, rfl⟩
  have hFok : F.Ok := hF ▸ (ok.setPc (wrap_u ((pc : Int) + (n : Int)))).setR x ⟨i0, i1⟩
  rw [hF]
  have HF := Lib.hid hF
  clear hF
  obtain ⟨s0, s1, s2, s3, s4, s5, s6, s7, hs⟩ := hFok.eight
  obtain ⟨pc2, r', b2, z2⟩ := F
  simp only at hs
  subst hs
  clear hFok
  obtain ⟨W0, e1, k0, hz0⟩ := RDoS.new w pc r0 r1 r2 r3 r4 r5 r6 r7 b s (.slice (some ⟨xb, 0, none⟩) 256 cB) (.slice (some ⟨yb, 0, none⟩) 256 cU)
  have K0 := Lib.hid k0
  have y0 := k0.c.cell 0
  simp only [List.getElem?_cons_zero] at y0
  obtain ⟨K, hK⟩ : ∃ K, min 6 (192 - pc) = K := ⟨_, rfl⟩
  have HC := Lib.hid (code4 B pc)
  rw [hK] at HC
  have hK6 : K ≤ 6 := by omega
  have hKB : K = 0 ∨ pc + K ≤ 192 := by omega
  have hKe : K = 6 ∨ 192 ≤ pc + K := by omega
  have hbel := k0.bel
  have HB0 := Lib.hid hbel
  have RB := Lib.hid (rB.below hbel)
  have RU := Lib.hid (rU.below hbel)
  have HXB := Lib.hid (show xb < w.heap.size by obtain ⟨x, hx, hlt, _⟩ := rB.2.2.2 (by intro e; subst e; simp at hB); injection hx with hx; subst hx; exact hlt)
  have HB := Lib.hid hB
  have HBy := Lib.hid hBy
  have HZ := Lib.hid hz0
  clear k0 hK rB rU hbel hB hBy hz0
  go_enter Try.func25, Try.ntmps25
  go_wp2_with fail
  clear y0 e1
  go_loopw [8, 9] (fun v i w' => RGet W0 K pc B v i w') (fun _ i _ => pc + 6 - (intOf i).toNat)
  case atStart => exact ⟨0, Nat.zero_le _, by go_num, World.ownsRow_nil _ _ _ _, Below.refl _ _⟩
  case round =>
    obtain ⟨k, hk, rfl, own, hb⟩ := hrel
    have KR := Lib.hid (K0.out.below hb)
    have OWN := Lib.hid own
    have HBW := Lib.hid hb
    have RBW := Lib.hid (RB.out.below hb)
    have RUW := Lib.hid (RU.out.below hb)
    clear own hb
    have y0 := KR.out.c.cell 0
    obtain ⟨⟨m0, m1⟩, _⟩ := has2 KR.out.m
    simp only [List.getElem?_cons_zero] at y0
    have n0 : (pc : Int) + (k : Int) ≤ 4294967302 := by omega
    go_upto_region 3 with fail
    go_cut [30] (fun s30 wx => s30 = .bool (decide (k < K)) ∧ Below wr.heap.size wr wx)
    case first =>
      by_cases hi6 : k < 6
      · as_aux_lemma =>
        have CA := fun W (r : BlAt W (some ⟨yb, 0, none⟩) cU U4) => all4 ⟨xb, 0, none⟩ yb (pc + k) 1 cB cU (by omega) (by decide) (by decide) W r
        rw [show decide (pc + k + 1 ≤ 192) = decide (k < K) by (congr 1; apply propext; omega), show ((pc + k : Nat) : Int) = (pc : Int) + (k : Int) by omega] at CA
        replace CA := Lib.hid CA
        have d6 : decide ((pc : Int) + (k : Int) < (pc : Int) + 6) = true := decide_eq_true (by omega)
        have i6 : (k : Int) < 6 := by omega
        obtain ⟨dk, hdk⟩ : ∃ dk, decide (k < K) = dk := ⟨_, rfl⟩
        rw [hdk] at CA
        have HD := Lib.hid hdk
        clear hdk
        go_wp2_with fail
        refine (CA.out _ RUW.out).mono ?_; rintro e w3 ⟨rfl, hb3⟩
        go_wp2_with fail
        go_meet
        exact ⟨by rw [HD.out], hb3⟩
      · as_aux_lemma =>
        have d6 : decide ((pc : Int) + (k : Int) < (pc : Int) + 6) = false := decide_eq_false (by omega)
        have i6 : 6 ≤ (k : Int) := by omega
        have hd := Lib.hid (show decide (k < K) = false from decide_eq_false (by omega))
        go_wp2_with fail
        go_meet
        exact ⟨by rw [hd.out], Below.refl _ _⟩
    case rest =>
    obtain ⟨rfl, hb3⟩ := hcut
    have KR3 := Lib.hid (KR.out.below hb3)
    have RB3 := Lib.hid (RBW.out.below hb3)
    have RU3 := Lib.hid (RUW.out.below hb3)
    have HB3 := Lib.hid (bel_then HBW.out hb3)
    have OWN3 := Lib.hid (own_below OWN.out hb3)
    clear hb3 y0 m0 m1 KR RBW RUW HBW OWN
    by_cases hlt : k < K
    · as_aux_lemma =>
      rw [decide_eq_true hlt]
      have hin : pc + k < 192 := by omega
      have e2 : ((pc : Int) + (k : Int)).toNat = pc + k := by omega
      have n1 : (pc : Int) + (k : Int) < 192 := by omega
      have HG := Lib.hid (get_take (B := B) (pc := pc) hlt (by rw [HB.out]; omega))
      have y1 := row_cell RB3.out (pc + k) (by rw [HB.out]; omega)
      have hbd := row_byte HBy.out (pc + k)
      obtain ⟨x, hx⟩ : ∃ x, B.getD (pc + k) 0 = x := ⟨_, rfl⟩
      rw [hx] at y1 hbd HG
      obtain ⟨⟨z0, z1⟩, _⟩ := has2 KR3.out.m
      clear hx
      have HX := Lib.hid (row_new wc [x] 5 1 (Nat.le_refl _) (by decide) (fun z hz => by simp at hz; subst hz; exact hbd))
      have HLL := Lib.hid (show Bytes (((B.drop pc).take K).take k) from take_byte (take_byte (drop_byte HBy.out _) _) _)
      have hsz3 := HB3.out.size
      clear hbd
      generalize ((B.drop pc).take K).take k = L at *
      go_wp2_with (first
        | (at_builtin
           refine append_row rfl (.tmp 33) (.tmp 39) rfl W0.heap.size u8 k L rfl (OWN3.out.alloc _) HLL.out _ 1 1 [x] rfl rfl 1 HX.out (k + 1) rfl (by omega) (by (try simp) <;> omega) ?_
           intro A4 c4 w4 own4 row4 bel4
           have OWN4 := Lib.hid own4
           have BEL4 := Lib.hid bel4
           clear own4 row4 bel4))
      go_roundw
      case rel => exact ⟨k + 1, hlt, by go_num, by rw [HG.out]; exact OWN4.out, (bel_al HB3.out _).trans BEL4.out⟩
      case measure => simp [intOf]; omega
    rw [decide_eq_false hlt]
    have hkK : k = K := by omega
    subst hkK
    clear hlt hk
    have hown := OWN3.out
    rw [List.take_take, Nat.min_self] at hown
    obtain ⟨LB, hLB⟩ : ∃ LB, (B.drop pc).take k = LB := ⟨_, rfl⟩
    rw [hLB] at hown HC
    have hLL : LB.length = k := by rw [← hLB, List.length_take, List.length_drop, HB.out]; omega
    have hLby : Bytes LB := by rw [← hLB]; exact take_byte (drop_byte HBy.out _) _
    obtain ⟨AB, cAB, rfl, hq, hrow⟩ := row_of_own hown hLby
    clear hq
    have RL := Lib.hid hrow
    have HLL := Lib.hid hLL
    have HLby := Lib.hid hLby
    clear hown hrow hLL hLby hLB OWN3
    rw [HC.out] at hrd
    have HN := Lib.hid hrd
    have LNE := Lib.hid (show 0 < LB.length by obtain ⟨_, t, e, _⟩ := hrd; rw [e]; simp)
    clear hrd
    have g0 : ((k : Int) == 0) = false := by rw [beq_eq_false_iff_ne]; have := HLL.out; have := LNE.out; omega
    go_wp2_with fail
    have RN := rRead_yes LB AB cAB 0 1 x y imm n (by rw [HLL.out]; omega) HN.out wc RL.out
    rw [HLL.out] at RN
    refine RN.mono ?_; rintro e w2 ⟨rfl, hb⟩
    unfold insV
    clear RN
    have K2 := Lib.hid (KR3.out.below hb)
    have RB4 := Lib.hid (RB3.out.below hb)
    have RU4 := Lib.hid (RU3.out.below hb)
    clear hb KR3 RB3 RU3 HB3 RL HLby
    have gn : ((n : Int) == 0) = false := by rw [beq_eq_false_iff_ne]; omega
    have N0 : (1 : Int) ≤ (n : Int) := by omega
    have N1 : (n : Int) ≤ 6 := by omega
    obtain ⟨W3, W4, W5, W6, W7, e3, e4, e5, e6, e7, hI, K4, hN, K6, hN6, K7, hI7, hN7, b7, z0, z4⟩ := rdo_worlds K2.out (1) x y imm (((pc : Int) + (n : Int)) % 4294967296)
    have RB5 := Lib.hid (RB4.out.below b7)
    have RU5 := Lib.hid (RU4.out.below b7)
    obtain ⟨⟨t0, t1⟩, ⟨t2, t3⟩⟩ : (W3.cell? ⟨w2.heap.size, 0, none⟩ = some (.int .i64 0) ∧ W3.cell? ⟨w2.heap.size, 1, none⟩ = some (.int .i64 0)) ∧ (W3.cell? ⟨w2.heap.size, 2, none⟩ = some (.int .i64 0) ∧ W3.cell? ⟨w2.heap.size, 3, none⟩ = some (.int .u32 0)) := ⟨⟨hI.cell 0, hI.cell 1⟩, ⟨hI.cell 2, hI.cell 3⟩⟩
    have u0 := hI.frozen 0
    have u1 := hI.frozen 1
    have u2 := hI.frozen 2
    have u3 := hI.frozen 3
    obtain ⟨⟨c0, c1, c2, c3, c4, c5, c6, c7, c8, c9, c10⟩, _⟩ := has11 K4.c
    obtain ⟨⟨m0, m1, m2, m3, m4, m5, m6, m7, m8, m9, m10⟩, ⟨f0, f1, f2, f3, f4, f5, f6, f7, f8, f9, f10⟩⟩ := has11 hN
    have p0 := hN6.cell 0
    have p1 := hN6.frozen 0
    have p2 := K6.c.cell 0
    obtain ⟨⟨q0, q1⟩, ⟨q2, q3⟩⟩ : (W7.cell? ⟨w2.heap.size, 0, none⟩ = some (.int .i64 (1)) ∧ W7.cell? ⟨w2.heap.size, 1, none⟩ = some (.int .i64 x)) ∧ (W7.cell? ⟨w2.heap.size, 2, none⟩ = some (.int .i64 y) ∧ W7.cell? ⟨w2.heap.size, 3, none⟩ = some (.int .u32 imm)) := ⟨⟨hI7.cell 0, hI7.cell 1⟩, ⟨hI7.cell 2, hI7.cell 3⟩⟩
    simp only [List.getElem?_cons_zero] at p0 p2
    have x1 : W7.cell? ⟨w.heap.size, 1 + x, none⟩ = some (.int .u32 va) := by rw [K7.c.cell, ← hva]; exact Cp.cs_reg ok x hx
    have x2 : W7.cell? ⟨w.heap.size, 1 + y, none⟩ = some (.int .u32 vb) := by rw [K7.c.cell, ← hvb]; exact Cp.cs_reg ok y hy
    have HK7 := Lib.hid K7
    have HI7 := Lib.hid hI7
    have HN7 := Lib.hid hN7
    have HVA := Lib.hid hva
    have HVB := Lib.hid hvb
    have OK := Lib.hid ok
    have xI : (x : Int) < 8 := by omega
    have yI : (y : Int) < 8 := by omega
    clear hI K4 hN K6 hN6 K7 hI7 hN7 b7 hva hvb ok K2 RB4 RU4
    go_wp2_with fail
    go_quiet (fail)
    obtain ⟨W8, e8⟩ : ∃ W8, W7.drewN nq = W8 := ⟨_, rfl⟩
    have b8 : Below W7.heap.size W7 W8 := by rw [← e8]; exact below_drewN (Below.refl _ _) nq
    rw [e8]
    have k8 := HK7.out.below b8
    have i8 := HI7.out.below b8
    have d8 := HN7.out.below b8
    have RB8 := Lib.hid (RB5.out.below b8)
    have RU8 := Lib.hid (RU5.out.below b8)
    clear e3 e4 e5 e6 e7 t0 t1 t2 t3 u0 u1 u2 u3 c0 c1 c2 c3 c4 c5 c6 c7 c8 c9 c10 m0 m1 m2 m3 m4 m5 m6 m7 m8 m9 m10 f0 f1 f2 f3 f4 f5 f6 f7 f8 f9 f10 p0 p1 p2 q0 q1 q2 q3 x1 x2 e8 b8 HK7 HI7 HN7 RB5 RU5 HN gn g0 xI yI
    have xI : (x : Int) < 8 := by omega
    obtain ⟨⟨v0, v1⟩, ⟨v2, v3⟩⟩ : (W8.cell? ⟨w2.heap.size, 0, none⟩ = some (.int .i64 (1)) ∧ W8.cell? ⟨w2.heap.size, 1, none⟩ = some (.int .i64 x)) ∧ (W8.cell? ⟨w2.heap.size, 2, none⟩ = some (.int .i64 y) ∧ W8.cell? ⟨w2.heap.size, 3, none⟩ = some (.int .u32 imm)) := ⟨⟨i8.cell 0, i8.cell 1⟩, ⟨i8.cell 2, i8.cell 3⟩⟩
    obtain ⟨W9, e9, ⟨u9, h9⟩, g9, k9, i9, d9', ch9⟩ := reg_world k8 i8 d8 (by omega) (by omega) x hx (imm)
    rw [HF.out] at d9'
    dsimp only [Cp.cs, List.map_cons, List.map_nil, List.cons_append, List.nil_append] at d9'
    have RB9 := Lib.hid (RB8.out.chg ch9 (by have := HXB.out; omega) (by have := HXB.out; omega))
    have K9 := Lib.hid k9
    obtain ⟨⟨j0, j1⟩, ⟨j2, j3⟩⟩ : (W9.cell? ⟨w2.heap.size, 0, none⟩ = some (.int .i64 (1)) ∧ W9.cell? ⟨w2.heap.size, 1, none⟩ = some (.int .i64 x)) ∧ (W9.cell? ⟨w2.heap.size, 2, none⟩ = some (.int .i64 y) ∧ W9.cell? ⟨w2.heap.size, 3, none⟩ = some (.int .u32 imm)) := ⟨⟨i9.cell 0, i9.cell 1⟩, ⟨i9.cell 2, i9.cell 3⟩⟩
    obtain ⟨⟨n0, n1, n2, n3, n4, n5, n6, n7, n8, n9, n10⟩, _⟩ := has11 d9'
    obtain ⟨⟨m0, m1⟩, _⟩ := has2 k9.m
    clear k8 i8 d8 k9 i9 d9' ch9
    obtain ⟨⟨d0, d1, d2, d3, d4, d5, d6, d7, d8, d9, d10⟩, ⟨f0, f1, f2, f3, f4, f5, f6, f7, f8, f9, f10⟩⟩ := has11 K9.out.d
    obtain ⟨⟨o0, o1⟩, ⟨q0, q1⟩⟩ := has2 K9.out.o
    go_wp2_with fail
    go_region
    all_goals go_wp2_with fail
    all_goals refine bodyPost_ret (v := .tuple #[.agg #[.int .u32 pc2, .int .u32 s0, .int .u32 s1, .int .u32 s2, .int .u32 s3, .int .u32 s4, .int .u32 s5, .int .u32 s6, .int .u32 s7, .int .u32 b2, .int .u32 z2], .agg #[.slice (some ⟨xb, 0, none⟩) 256 cB, .slice (some ⟨yb, 0, none⟩) 256 cU], .int .i64 0, .int .i64 0]) (by simp [results, Try.results25, go_sem, d0, d1, d2, d3, d4, d5, d6, d7, d8, d9, d10, o0, o1]) rfl ?_
    all_goals obtain ⟨x1, x2⟩ := rst13 K9.out.bel (.int .u32 pc2) (.int .u32 s0) (.int .u32 s1) (.int .u32 s2) (.int .u32 s3) (.int .u32 s4) (.int .u32 s5) (.int .u32 s6) (.int .u32 s7) (.int .u32 b2) (.int .u32 z2) (.slice (some ⟨xb, 0, none⟩) 256 cB) (.slice (some ⟨yb, 0, none⟩) 256 cU)
    all_goals exact ⟨_, _, rfl, (RB9.out).chg x1 (by have := HXB.out; omega) (by have := HXB.out; omega), x2, .inl rfl⟩
set_option maxRecDepth 100000 in
set_option maxHeartbeats 8000000 in
theorem rdo_2 (xb yb cB cU : Nat) (B : List Int) (r0 r1 r2 r3 r4 r5 r6 r7 b s : Int) (pc : Nat) (hB : B.length = 256) (hBy : Bytes B) (h1 : pc < 4294967296) (w : World) (rB : RowAt w (some ⟨xb, 0, none⟩) cB B) (rU : BlAt w (some ⟨yb, 0, none⟩) cU U4) (imm va vb : Int)  (x y n : Nat) (hx : x < 8) (hy : y < 8) (i0 : 0 ≤ imm) (i1 : imm < 4294967296) (hn : 1 ≤ n) (hn' : n ≤ 6) (hrd : Rd (codeL B T4 (pc : Int)) 2 x y imm n) (hva : Cp.reg ⟨pc, [r0, r1, r2, r3, r4, r5, r6, r7], b, s⟩ x = va) (hvb : Cp.reg ⟨pc, [r0, r1, r2, r3, r4, r5, r6, r7], b, s⟩ y = vb) (va0 : 0 ≤ va) (va1 : va < 4294967296) (vb0 : 0 ≤ vb) (vb1 : vb < 4294967296) (ok : Cp.Ok ⟨pc, [r0, r1, r2, r3, r4, r5, r6, r7], b, s⟩) :
    Calls Try.prog 25 #[.agg #[.int .u32 pc, .int .u32 r0, .int .u32 r1, .int .u32 r2, .int .u32 r3, .int .u32 r4, .int .u32 r5, .int .u32 r6, .int .u32 r7, .int .u32 b, .int .u32 s], .agg #[.slice (some ⟨xb, 0, none⟩) 256 cB, .slice (some ⟨yb, 0, none⟩) 256 cU]] w (RDoP w xb yb cU ⟨(⟨(((pc : Int) + (n : Int)) % 4294967296), [r0, r1, r2, r3, r4, r5, r6, r7], b, s⟩ : Cp).setR x vb, B, 0, 0⟩) := by
  obtain ⟨F, hF⟩ : ∃ F, (⟨(((pc : Int) + (n : Int)) % 4294967296), [r0, r1, r2, r3, r4, r5, r6, r7], b, s⟩ : Cp).setR x vb = F := ⟨_, rfl⟩
  have hFok : F.Ok := hF ▸ (ok.setPc (wrap_u ((pc : Int) + (n : Int)))).setR x ⟨vb0, vb1⟩
  rw [hF]
  have HF := Lib.hid hF
  clear hF
  obtain ⟨s0, s1, s2, s3, s4, s5, s6, s7, hs⟩ := hFok.eight
  obtain ⟨pc2, r', b2, z2⟩ := F
  simp only at hs
  subst hs
  clear hFok
  obtain ⟨W0, e1, k0, hz0⟩ := RDoS.new w pc r0 r1 r2 r3 r4 r5 r6 r7 b s (.slice (some ⟨xb, 0, none⟩) 256 cB) (.slice (some ⟨yb, 0, none⟩) 256 cU)
  have K0 := Lib.hid k0
  have y0 := k0.c.cell 0
  simp only [List.getElem?_cons_zero] at y0
  obtain ⟨K, hK⟩ : ∃ K, min 6 (192 - pc) = K := ⟨_, rfl⟩
  have HC := Lib.hid (code4 B pc)
  rw [hK] at HC
  have hK6 : K ≤ 6 := by omega
  have hKB : K = 0 ∨ pc + K ≤ 192 := by omega
  have hKe : K = 6 ∨ 192 ≤ pc + K := by omega
  have hbel := k0.bel
  have HB0 := Lib.hid hbel
  have RB := Lib.hid (rB.below hbel)
  have RU := Lib.hid (rU.below hbel)
  have HXB := Lib.hid (show xb < w.heap.size by obtain ⟨x, hx, hlt, _⟩ := rB.2.2.2 (by intro e; subst e; simp at hB); injection hx with hx; subst hx; exact hlt)
  have HB := Lib.hid hB
  have HBy := Lib.hid hBy
  have HZ := Lib.hid hz0
  clear k0 hK rB rU hbel hB hBy hz0
  go_enter Try.func25, Try.ntmps25
  go_wp2_with fail
  clear y0 e1
  go_loopw [8, 9] (fun v i w' => RGet W0 K pc B v i w') (fun _ i _ => pc + 6 - (intOf i).toNat)
  case atStart => exact ⟨0, Nat.zero_le _, by go_num, World.ownsRow_nil _ _ _ _, Below.refl _ _⟩
  case round =>
    obtain ⟨k, hk, rfl, own, hb⟩ := hrel
    have KR := Lib.hid (K0.out.below hb)
    have OWN := Lib.hid own
    have HBW := Lib.hid hb
    have RBW := Lib.hid (RB.out.below hb)
    have RUW := Lib.hid (RU.out.below hb)
    clear own hb
    have y0 := KR.out.c.cell 0
    obtain ⟨⟨m0, m1⟩, _⟩ := has2 KR.out.m
    simp only [List.getElem?_cons_zero] at y0
    have n0 : (pc : Int) + (k : Int) ≤ 4294967302 := by omega
    go_upto_region 3 with fail
    go_cut [30] (fun s30 wx => s30 = .bool (decide (k < K)) ∧ Below wr.heap.size wr wx)
    case first =>
      by_cases hi6 : k < 6
      · as_aux_lemma =>
        have CA := fun W (r : BlAt W (some ⟨yb, 0, none⟩) cU U4) => all4 ⟨xb, 0, none⟩ yb (pc + k) 1 cB cU (by omega) (by decide) (by decide) W r
        rw [show decide (pc + k + 1 ≤ 192) = decide (k < K) by (congr 1; apply propext; omega), show ((pc + k : Nat) : Int) = (pc : Int) + (k : Int) by omega] at CA
        replace CA := Lib.hid CA
        have d6 : decide ((pc : Int) + (k : Int) < (pc : Int) + 6) = true := decide_eq_true (by omega)
        have i6 : (k : Int) < 6 := by omega
        obtain ⟨dk, hdk⟩ : ∃ dk, decide (k < K) = dk := ⟨_, rfl⟩
        rw [hdk] at CA
        have HD := Lib.hid hdk
        clear hdk
        go_wp2_with fail
        refine (CA.out _ RUW.out).mono ?_; rintro e w3 ⟨rfl, hb3⟩
        go_wp2_with fail
        go_meet
        exact ⟨by rw [HD.out], hb3⟩
      · as_aux_lemma =>
        have d6 : decide ((pc : Int) + (k : Int) < (pc : Int) + 6) = false := decide_eq_false (by omega)
        have i6 : 6 ≤ (k : Int) := by omega
        have hd := Lib.hid (show decide (k < K) = false from decide_eq_false (by omega))
        go_wp2_with fail
        go_meet
        exact ⟨by rw [hd.out], Below.refl _ _⟩
    case rest =>
    obtain ⟨rfl, hb3⟩ := hcut
    have KR3 := Lib.hid (KR.out.below hb3)
    have RB3 := Lib.hid (RBW.out.below hb3)
    have RU3 := Lib.hid (RUW.out.below hb3)
    have HB3 := Lib.hid (bel_then HBW.out hb3)
    have OWN3 := Lib.hid (own_below OWN.out hb3)
    clear hb3 y0 m0 m1 KR RBW RUW HBW OWN
    by_cases hlt : k < K
    · as_aux_lemma =>
      rw [decide_eq_true hlt]
      have hin : pc + k < 192 := by omega
      have e2 : ((pc : Int) + (k : Int)).toNat = pc + k := by omega
      have n1 : (pc : Int) + (k : Int) < 192 := by omega
      have HG := Lib.hid (get_take (B := B) (pc := pc) hlt (by rw [HB.out]; omega))
      have y1 := row_cell RB3.out (pc + k) (by rw [HB.out]; omega)
      have hbd := row_byte HBy.out (pc + k)
      obtain ⟨x, hx⟩ : ∃ x, B.getD (pc + k) 0 = x := ⟨_, rfl⟩
      rw [hx] at y1 hbd HG
      obtain ⟨⟨z0, z1⟩, _⟩ := has2 KR3.out.m
      clear hx
      have HX := Lib.hid (row_new wc [x] 5 1 (Nat.le_refl _) (by decide) (fun z hz => by simp at hz; subst hz; exact hbd))
      have HLL := Lib.hid (show Bytes (((B.drop pc).take K).take k) from take_byte (take_byte (drop_byte HBy.out _) _) _)
      have hsz3 := HB3.out.size
      clear hbd
      generalize ((B.drop pc).take K).take k = L at *
      go_wp2_with (first
        | (at_builtin
           refine append_row rfl (.tmp 33) (.tmp 39) rfl W0.heap.size u8 k L rfl (OWN3.out.alloc _) HLL.out _ 1 1 [x] rfl rfl 1 HX.out (k + 1) rfl (by omega) (by (try simp) <;> omega) ?_
           intro A4 c4 w4 own4 row4 bel4
           have OWN4 := Lib.hid own4
           have BEL4 := Lib.hid bel4
           clear own4 row4 bel4))
      go_roundw
      case rel => exact ⟨k + 1, hlt, by go_num, by rw [HG.out]; exact OWN4.out, (bel_al HB3.out _).trans BEL4.out⟩
      case measure => simp [intOf]; omega
    rw [decide_eq_false hlt]
    have hkK : k = K := by omega
    subst hkK
    clear hlt hk
    have hown := OWN3.out
    rw [List.take_take, Nat.min_self] at hown
    obtain ⟨LB, hLB⟩ : ∃ LB, (B.drop pc).take k = LB := ⟨_, rfl⟩
    rw [hLB] at hown HC
    have hLL : LB.length = k := by rw [← hLB, List.length_take, List.length_drop, HB.out]; omega
    have hLby : Bytes LB := by rw [← hLB]; exact take_byte (drop_byte HBy.out _) _
    obtain ⟨AB, cAB, rfl, hq, hrow⟩ := row_of_own hown hLby
    clear hq
    have RL := Lib.hid hrow
    have HLL := Lib.hid hLL
    have HLby := Lib.hid hLby
    clear hown hrow hLL hLby hLB OWN3
    rw [HC.out] at hrd
    have HN := Lib.hid hrd
    have LNE := Lib.hid (show 0 < LB.length by obtain ⟨_, t, e, _⟩ := hrd; rw [e]; simp)
    clear hrd
    have g0 : ((k : Int) == 0) = false := by rw [beq_eq_false_iff_ne]; have := HLL.out; have := LNE.out; omega
    go_wp2_with fail
    have RN := rRead_yes LB AB cAB 0 2 x y imm n (by rw [HLL.out]; omega) HN.out wc RL.out
    rw [HLL.out] at RN
    refine RN.mono ?_; rintro e w2 ⟨rfl, hb⟩
    unfold insV
    clear RN
    have K2 := Lib.hid (KR3.out.below hb)
    have RB4 := Lib.hid (RB3.out.below hb)
    have RU4 := Lib.hid (RU3.out.below hb)
    clear hb KR3 RB3 RU3 HB3 RL HLby
    have gn : ((n : Int) == 0) = false := by rw [beq_eq_false_iff_ne]; omega
    have N0 : (1 : Int) ≤ (n : Int) := by omega
    have N1 : (n : Int) ≤ 6 := by omega
    obtain ⟨W3, W4, W5, W6, W7, e3, e4, e5, e6, e7, hI, K4, hN, K6, hN6, K7, hI7, hN7, b7, z0, z4⟩ := rdo_worlds K2.out (2) x y imm (((pc : Int) + (n : Int)) % 4294967296)
    have RB5 := Lib.hid (RB4.out.below b7)
    have RU5 := Lib.hid (RU4.out.below b7)
    obtain ⟨⟨t0, t1⟩, ⟨t2, t3⟩⟩ : (W3.cell? ⟨w2.heap.size, 0, none⟩ = some (.int .i64 0) ∧ W3.cell? ⟨w2.heap.size, 1, none⟩ = some (.int .i64 0)) ∧ (W3.cell? ⟨w2.heap.size, 2, none⟩ = some (.int .i64 0) ∧ W3.cell? ⟨w2.heap.size, 3, none⟩ = some (.int .u32 0)) := ⟨⟨hI.cell 0, hI.cell 1⟩, ⟨hI.cell 2, hI.cell 3⟩⟩
    have u0 := hI.frozen 0
    have u1 := hI.frozen 1
    have u2 := hI.frozen 2
    have u3 := hI.frozen 3
    obtain ⟨⟨c0, c1, c2, c3, c4, c5, c6, c7, c8, c9, c10⟩, _⟩ := has11 K4.c
    obtain ⟨⟨m0, m1, m2, m3, m4, m5, m6, m7, m8, m9, m10⟩, ⟨f0, f1, f2, f3, f4, f5, f6, f7, f8, f9, f10⟩⟩ := has11 hN
    have p0 := hN6.cell 0
    have p1 := hN6.frozen 0
    have p2 := K6.c.cell 0
    obtain ⟨⟨q0, q1⟩, ⟨q2, q3⟩⟩ : (W7.cell? ⟨w2.heap.size, 0, none⟩ = some (.int .i64 (2)) ∧ W7.cell? ⟨w2.heap.size, 1, none⟩ = some (.int .i64 x)) ∧ (W7.cell? ⟨w2.heap.size, 2, none⟩ = some (.int .i64 y) ∧ W7.cell? ⟨w2.heap.size, 3, none⟩ = some (.int .u32 imm)) := ⟨⟨hI7.cell 0, hI7.cell 1⟩, ⟨hI7.cell 2, hI7.cell 3⟩⟩
    simp only [List.getElem?_cons_zero] at p0 p2
    have x1 : W7.cell? ⟨w.heap.size, 1 + x, none⟩ = some (.int .u32 va) := by rw [K7.c.cell, ← hva]; exact Cp.cs_reg ok x hx
    have x2 : W7.cell? ⟨w.heap.size, 1 + y, none⟩ = some (.int .u32 vb) := by rw [K7.c.cell, ← hvb]; exact Cp.cs_reg ok y hy
    have HK7 := Lib.hid K7
    have HI7 := Lib.hid hI7
    have HN7 := Lib.hid hN7
    have HVA := Lib.hid hva
    have HVB := Lib.hid hvb
    have OK := Lib.hid ok
    have xI : (x : Int) < 8 := by omega
    have yI : (y : Int) < 8 := by omega
    clear hI K4 hN K6 hN6 K7 hI7 hN7 b7 hva hvb ok K2 RB4 RU4
    go_wp2_with fail
    go_quiet (fail)
    obtain ⟨W8, e8⟩ : ∃ W8, W7.drewN nq = W8 := ⟨_, rfl⟩
    have b8 : Below W7.heap.size W7 W8 := by rw [← e8]; exact below_drewN (Below.refl _ _) nq
    rw [e8]
    have k8 := HK7.out.below b8
    have i8 := HI7.out.below b8
    have d8 := HN7.out.below b8
    have RB8 := Lib.hid (RB5.out.below b8)
    have RU8 := Lib.hid (RU5.out.below b8)
    clear e3 e4 e5 e6 e7 t0 t1 t2 t3 u0 u1 u2 u3 c0 c1 c2 c3 c4 c5 c6 c7 c8 c9 c10 m0 m1 m2 m3 m4 m5 m6 m7 m8 m9 m10 f0 f1 f2 f3 f4 f5 f6 f7 f8 f9 f10 p0 p1 p2 q0 q1 q2 q3 x1 x2 e8 b8 HK7 HI7 HN7 RB5 RU5 HN gn g0 xI yI
    have xI : (x : Int) < 8 := by omega
    obtain ⟨⟨v0, v1⟩, ⟨v2, v3⟩⟩ : (W8.cell? ⟨w2.heap.size, 0, none⟩ = some (.int .i64 (2)) ∧ W8.cell? ⟨w2.heap.size, 1, none⟩ = some (.int .i64 x)) ∧ (W8.cell? ⟨w2.heap.size, 2, none⟩ = some (.int .i64 y) ∧ W8.cell? ⟨w2.heap.size, 3, none⟩ = some (.int .u32 imm)) := ⟨⟨i8.cell 0, i8.cell 1⟩, ⟨i8.cell 2, i8.cell 3⟩⟩
    obtain ⟨W9, e9, ⟨u9, h9⟩, g9, k9, i9, d9', ch9⟩ := reg_world k8 i8 d8 (by omega) (by omega) x hx (vb)
    rw [HF.out] at d9'
    dsimp only [Cp.cs, List.map_cons, List.map_nil, List.cons_append, List.nil_append] at d9'
    have RB9 := Lib.hid (RB8.out.chg ch9 (by have := HXB.out; omega) (by have := HXB.out; omega))
    have K9 := Lib.hid k9
    obtain ⟨⟨j0, j1⟩, ⟨j2, j3⟩⟩ : (W9.cell? ⟨w2.heap.size, 0, none⟩ = some (.int .i64 (2)) ∧ W9.cell? ⟨w2.heap.size, 1, none⟩ = some (.int .i64 x)) ∧ (W9.cell? ⟨w2.heap.size, 2, none⟩ = some (.int .i64 y) ∧ W9.cell? ⟨w2.heap.size, 3, none⟩ = some (.int .u32 imm)) := ⟨⟨i9.cell 0, i9.cell 1⟩, ⟨i9.cell 2, i9.cell 3⟩⟩
    obtain ⟨⟨n0, n1, n2, n3, n4, n5, n6, n7, n8, n9, n10⟩, _⟩ := has11 d9'
    obtain ⟨⟨m0, m1⟩, _⟩ := has2 k9.m
    clear k8 i8 d8 k9 i9 d9' ch9
    obtain ⟨⟨d0, d1, d2, d3, d4, d5, d6, d7, d8, d9, d10⟩, ⟨f0, f1, f2, f3, f4, f5, f6, f7, f8, f9, f10⟩⟩ := has11 K9.out.d
    obtain ⟨⟨o0, o1⟩, ⟨q0, q1⟩⟩ := has2 K9.out.o
    go_wp2_with fail
    go_region
    all_goals go_wp2_with fail
    all_goals refine bodyPost_ret (v := .tuple #[.agg #[.int .u32 pc2, .int .u32 s0, .int .u32 s1, .int .u32 s2, .int .u32 s3, .int .u32 s4, .int .u32 s5, .int .u32 s6, .int .u32 s7, .int .u32 b2, .int .u32 z2], .agg #[.slice (some ⟨xb, 0, none⟩) 256 cB, .slice (some ⟨yb, 0, none⟩) 256 cU], .int .i64 0, .int .i64 0]) (by simp [results, Try.results25, go_sem, d0, d1, d2, d3, d4, d5, d6, d7, d8, d9, d10, o0, o1]) rfl ?_
    all_goals obtain ⟨x1, x2⟩ := rst13 K9.out.bel (.int .u32 pc2) (.int .u32 s0) (.int .u32 s1) (.int .u32 s2) (.int .u32 s3) (.int .u32 s4) (.int .u32 s5) (.int .u32 s6) (.int .u32 s7) (.int .u32 b2) (.int .u32 z2) (.slice (some ⟨xb, 0, none⟩) 256 cB) (.slice (some ⟨yb, 0, none⟩) 256 cU)
    all_goals exact ⟨_, _, rfl, (RB9.out).chg x1 (by have := HXB.out; omega) (by have := HXB.out; omega), x2, .inl rfl⟩
set_option maxRecDepth 100000 in
set_option maxHeartbeats 8000000 in
theorem rdo_23 (xb yb cB cU : Nat) (B : List Int) (r0 r1 r2 r3 r4 r5 r6 r7 b s : Int) (pc : Nat) (hB : B.length = 256) (hBy : Bytes B) (h1 : pc < 4294967296) (w : World) (rB : RowAt w (some ⟨xb, 0, none⟩) cB B) (rU : BlAt w (some ⟨yb, 0, none⟩) cU U4) (imm va vb : Int)  (x y n : Nat) (hx : x < 8) (hy : y < 8) (i0 : 0 ≤ imm) (i1 : imm < 4294967296) (hn : 1 ≤ n) (hn' : n ≤ 6) (hrd : Rd (codeL B T4 (pc : Int)) 23 x y imm n) (hva : Cp.reg ⟨pc, [r0, r1, r2, r3, r4, r5, r6, r7], b, s⟩ x = va) (hvb : Cp.reg ⟨pc, [r0, r1, r2, r3, r4, r5, r6, r7], b, s⟩ y = vb) (va0 : 0 ≤ va) (va1 : va < 4294967296) (vb0 : 0 ≤ vb) (vb1 : vb < 4294967296) (ok : Cp.Ok ⟨pc, [r0, r1, r2, r3, r4, r5, r6, r7], b, s⟩) :
    Calls Try.prog 25 #[.agg #[.int .u32 pc, .int .u32 r0, .int .u32 r1, .int .u32 r2, .int .u32 r3, .int .u32 r4, .int .u32 r5, .int .u32 r6, .int .u32 r7, .int .u32 b, .int .u32 s], .agg #[.slice (some ⟨xb, 0, none⟩) 256 cB, .slice (some ⟨yb, 0, none⟩) 256 cU]] w (RDoP w xb yb cU ⟨(⟨(((pc : Int) + (n : Int)) % 4294967296), [r0, r1, r2, r3, r4, r5, r6, r7], b, s⟩ : Cp), B, 0, 0⟩) := by
  obtain ⟨W0, e1, k0, hz0⟩ := RDoS.new w pc r0 r1 r2 r3 r4 r5 r6 r7 b s (.slice (some ⟨xb, 0, none⟩) 256 cB) (.slice (some ⟨yb, 0, none⟩) 256 cU)
  have K0 := Lib.hid k0
  have y0 := k0.c.cell 0
  simp only [List.getElem?_cons_zero] at y0
  obtain ⟨K, hK⟩ : ∃ K, min 6 (192 - pc) = K := ⟨_, rfl⟩
  have HC := Lib.hid (code4 B pc)
  rw [hK] at HC
  have hK6 : K ≤ 6 := by omega
  have hKB : K = 0 ∨ pc + K ≤ 192 := by omega
  have hKe : K = 6 ∨ 192 ≤ pc + K := by omega
  have hbel := k0.bel
  have HB0 := Lib.hid hbel
  have RB := Lib.hid (rB.below hbel)
  have RU := Lib.hid (rU.below hbel)
  have HXB := Lib.hid (show xb < w.heap.size by obtain ⟨x, hx, hlt, _⟩ := rB.2.2.2 (by intro e; subst e; simp at hB); injection hx with hx; subst hx; exact hlt)
  have HB := Lib.hid hB
  have HBy := Lib.hid hBy
  have HZ := Lib.hid hz0
  clear k0 hK rB rU hbel hB hBy hz0
  go_enter Try.func25, Try.ntmps25
  go_wp2_with fail
  clear y0 e1
  go_loopw [8, 9] (fun v i w' => RGet W0 K pc B v i w') (fun _ i _ => pc + 6 - (intOf i).toNat)
  case atStart => exact ⟨0, Nat.zero_le _, by go_num, World.ownsRow_nil _ _ _ _, Below.refl _ _⟩
  case round =>
    obtain ⟨k, hk, rfl, own, hb⟩ := hrel
    have KR := Lib.hid (K0.out.below hb)
    have OWN := Lib.hid own
    have HBW := Lib.hid hb
    have RBW := Lib.hid (RB.out.below hb)
    have RUW := Lib.hid (RU.out.below hb)
    clear own hb
    have y0 := KR.out.c.cell 0
    obtain ⟨⟨m0, m1⟩, _⟩ := has2 KR.out.m
    simp only [List.getElem?_cons_zero] at y0
    have n0 : (pc : Int) + (k : Int) ≤ 4294967302 := by omega
    go_upto_region 3 with fail
    go_cut [30] (fun s30 wx => s30 = .bool (decide (k < K)) ∧ Below wr.heap.size wr wx)
    case first =>
      by_cases hi6 : k < 6
      · as_aux_lemma =>
        have CA := fun W (r : BlAt W (some ⟨yb, 0, none⟩) cU U4) => all4 ⟨xb, 0, none⟩ yb (pc + k) 1 cB cU (by omega) (by decide) (by decide) W r
        rw [show decide (pc + k + 1 ≤ 192) = decide (k < K) by (congr 1; apply propext; omega), show ((pc + k : Nat) : Int) = (pc : Int) + (k : Int) by omega] at CA
        replace CA := Lib.hid CA
        have d6 : decide ((pc : Int) + (k : Int) < (pc : Int) + 6) = true := decide_eq_true (by omega)
        have i6 : (k : Int) < 6 := by omega
        obtain ⟨dk, hdk⟩ : ∃ dk, decide (k < K) = dk := ⟨_, rfl⟩
        rw [hdk] at CA
        have HD := Lib.hid hdk
        clear hdk
        go_wp2_with fail
        refine (CA.out _ RUW.out).mono ?_; rintro e w3 ⟨rfl, hb3⟩
        go_wp2_with fail
        go_meet
        exact ⟨by rw [HD.out], hb3⟩
      · as_aux_lemma =>
        have d6 : decide ((pc : Int) + (k : Int) < (pc : Int) + 6) = false := decide_eq_false (by omega)
        have i6 : 6 ≤ (k : Int) := by omega
        have hd := Lib.hid (show decide (k < K) = false from decide_eq_false (by omega))
        go_wp2_with fail
        go_meet
        exact ⟨by rw [hd.out], Below.refl _ _⟩
    case rest =>
    obtain ⟨rfl, hb3⟩ := hcut
    have KR3 := Lib.hid (KR.out.below hb3)
    have RB3 := Lib.hid (RBW.out.below hb3)
    have RU3 := Lib.hid (RUW.out.below hb3)
    have HB3 := Lib.hid (bel_then HBW.out hb3)
    have OWN3 := Lib.hid (own_below OWN.out hb3)
    clear hb3 y0 m0 m1 KR RBW RUW HBW OWN
    by_cases hlt : k < K
    · as_aux_lemma =>
      rw [decide_eq_true hlt]
      have hin : pc + k < 192 := by omega
      have e2 : ((pc : Int) + (k : Int)).toNat = pc + k := by omega
      have n1 : (pc : Int) + (k : Int) < 192 := by omega
      have HG := Lib.hid (get_take (B := B) (pc := pc) hlt (by rw [HB.out]; omega))
      have y1 := row_cell RB3.out (pc + k) (by rw [HB.out]; omega)
      have hbd := row_byte HBy.out (pc + k)
      obtain ⟨x, hx⟩ : ∃ x, B.getD (pc + k) 0 = x := ⟨_, rfl⟩
      rw [hx] at y1 hbd HG
      obtain ⟨⟨z0, z1⟩, _⟩ := has2 KR3.out.m
      clear hx
      have HX := Lib.hid (row_new wc [x] 5 1 (Nat.le_refl _) (by decide) (fun z hz => by simp at hz; subst hz; exact hbd))
      have HLL := Lib.hid (show Bytes (((B.drop pc).take K).take k) from take_byte (take_byte (drop_byte HBy.out _) _) _)
      have hsz3 := HB3.out.size
      clear hbd
      generalize ((B.drop pc).take K).take k = L at *
      go_wp2_with (first
        | (at_builtin
           refine append_row rfl (.tmp 33) (.tmp 39) rfl W0.heap.size u8 k L rfl (OWN3.out.alloc _) HLL.out _ 1 1 [x] rfl rfl 1 HX.out (k + 1) rfl (by omega) (by (try simp) <;> omega) ?_
           intro A4 c4 w4 own4 row4 bel4
           have OWN4 := Lib.hid own4
           have BEL4 := Lib.hid bel4
           clear own4 row4 bel4))
      go_roundw
      case rel => exact ⟨k + 1, hlt, by go_num, by rw [HG.out]; exact OWN4.out, (bel_al HB3.out _).trans BEL4.out⟩
      case measure => simp [intOf]; omega
    rw [decide_eq_false hlt]
    have hkK : k = K := by omega
    subst hkK
    clear hlt hk
    have hown := OWN3.out
    rw [List.take_take, Nat.min_self] at hown
    obtain ⟨LB, hLB⟩ : ∃ LB, (B.drop pc).take k = LB := ⟨_, rfl⟩
    rw [hLB] at hown HC
    have hLL : LB.length = k := by rw [← hLB, List.length_take, List.length_drop, HB.out]; omega
    have hLby : Bytes LB := by rw [← hLB]; exact take_byte (drop_byte HBy.out _) _
    obtain ⟨AB, cAB, rfl, hq, hrow⟩ := row_of_own hown hLby
    clear hq
    have RL := Lib.hid hrow
    have HLL := Lib.hid hLL
    have HLby := Lib.hid hLby
    clear hown hrow hLL hLby hLB OWN3
    rw [HC.out] at hrd
    have HN := Lib.hid hrd
    have LNE := Lib.hid (show 0 < LB.length by obtain ⟨_, t, e, _⟩ := hrd; rw [e]; simp)
    clear hrd
    have g0 : ((k : Int) == 0) = false := by rw [beq_eq_false_iff_ne]; have := HLL.out; have := LNE.out; omega
    go_wp2_with fail
    have RN := rRead_yes LB AB cAB 0 23 x y imm n (by rw [HLL.out]; omega) HN.out wc RL.out
    rw [HLL.out] at RN
    refine RN.mono ?_; rintro e w2 ⟨rfl, hb⟩
    unfold insV
    clear RN
    have K2 := Lib.hid (KR3.out.below hb)
    have RB4 := Lib.hid (RB3.out.below hb)
    have RU4 := Lib.hid (RU3.out.below hb)
    clear hb KR3 RB3 RU3 HB3 RL HLby
    have gn : ((n : Int) == 0) = false := by rw [beq_eq_false_iff_ne]; omega
    have N0 : (1 : Int) ≤ (n : Int) := by omega
    have N1 : (n : Int) ≤ 6 := by omega
    obtain ⟨W3, W4, W5, W6, W7, e3, e4, e5, e6, e7, hI, K4, hN, K6, hN6, K7, hI7, hN7, b7, z0, z4⟩ := rdo_worlds K2.out (23) x y imm (((pc : Int) + (n : Int)) % 4294967296)
    have RB5 := Lib.hid (RB4.out.below b7)
    have RU5 := Lib.hid (RU4.out.below b7)
    obtain ⟨⟨t0, t1⟩, ⟨t2, t3⟩⟩ : (W3.cell? ⟨w2.heap.size, 0, none⟩ = some (.int .i64 0) ∧ W3.cell? ⟨w2.heap.size, 1, none⟩ = some (.int .i64 0)) ∧ (W3.cell? ⟨w2.heap.size, 2, none⟩ = some (.int .i64 0) ∧ W3.cell? ⟨w2.heap.size, 3, none⟩ = some (.int .u32 0)) := ⟨⟨hI.cell 0, hI.cell 1⟩, ⟨hI.cell 2, hI.cell 3⟩⟩
    have u0 := hI.frozen 0
    have u1 := hI.frozen 1
    have u2 := hI.frozen 2
    have u3 := hI.frozen 3
    obtain ⟨⟨c0, c1, c2, c3, c4, c5, c6, c7, c8, c9, c10⟩, _⟩ := has11 K4.c
    obtain ⟨⟨m0, m1, m2, m3, m4, m5, m6, m7, m8, m9, m10⟩, ⟨f0, f1, f2, f3, f4, f5, f6, f7, f8, f9, f10⟩⟩ := has11 hN
    have p0 := hN6.cell 0
    have p1 := hN6.frozen 0
    have p2 := K6.c.cell 0
    obtain ⟨⟨q0, q1⟩, ⟨q2, q3⟩⟩ : (W7.cell? ⟨w2.heap.size, 0, none⟩ = some (.int .i64 (23)) ∧ W7.cell? ⟨w2.heap.size, 1, none⟩ = some (.int .i64 x)) ∧ (W7.cell? ⟨w2.heap.size, 2, none⟩ = some (.int .i64 y) ∧ W7.cell? ⟨w2.heap.size, 3, none⟩ = some (.int .u32 imm)) := ⟨⟨hI7.cell 0, hI7.cell 1⟩, ⟨hI7.cell 2, hI7.cell 3⟩⟩
    simp only [List.getElem?_cons_zero] at p0 p2
    have x1 : W7.cell? ⟨w.heap.size, 1 + x, none⟩ = some (.int .u32 va) := by rw [K7.c.cell, ← hva]; exact Cp.cs_reg ok x hx
    have x2 : W7.cell? ⟨w.heap.size, 1 + y, none⟩ = some (.int .u32 vb) := by rw [K7.c.cell, ← hvb]; exact Cp.cs_reg ok y hy
    have HK7 := Lib.hid K7
    have HI7 := Lib.hid hI7
    have HN7 := Lib.hid hN7
    have HVA := Lib.hid hva
    have HVB := Lib.hid hvb
    have OK := Lib.hid ok
    have xI : (x : Int) < 8 := by omega
    have yI : (y : Int) < 8 := by omega
    clear hI K4 hN K6 hN6 K7 hI7 hN7 b7 hva hvb ok K2 RB4 RU4
    go_wp2_with fail
    go_quiet (fail)
    obtain ⟨W8, e8⟩ : ∃ W8, W7.drewN nq = W8 := ⟨_, rfl⟩
    have b8 : Below W7.heap.size W7 W8 := by rw [← e8]; exact below_drewN (Below.refl _ _) nq
    rw [e8]
    have k8 := HK7.out.below b8
    have i8 := HI7.out.below b8
    have d8 := HN7.out.below b8
    have RB8 := Lib.hid (RB5.out.below b8)
    have RU8 := Lib.hid (RU5.out.below b8)
    clear e3 e4 e5 e6 e7 t0 t1 t2 t3 u0 u1 u2 u3 c0 c1 c2 c3 c4 c5 c6 c7 c8 c9 c10 m0 m1 m2 m3 m4 m5 m6 m7 m8 m9 m10 f0 f1 f2 f3 f4 f5 f6 f7 f8 f9 f10 p0 p1 p2 q0 q1 q2 q3 x1 x2 e8 b8 HK7 HI7 HN7 RB5 RU5 HN gn g0 xI yI
    have xI : (x : Int) < 8 := by omega
    obtain ⟨⟨v0, v1⟩, ⟨v2, v3⟩⟩ : (W8.cell? ⟨w2.heap.size, 0, none⟩ = some (.int .i64 (23)) ∧ W8.cell? ⟨w2.heap.size, 1, none⟩ = some (.int .i64 x)) ∧ (W8.cell? ⟨w2.heap.size, 2, none⟩ = some (.int .i64 y) ∧ W8.cell? ⟨w2.heap.size, 3, none⟩ = some (.int .u32 imm)) := ⟨⟨i8.cell 0, i8.cell 1⟩, ⟨i8.cell 2, i8.cell 3⟩⟩
    obtain ⟨⟨n0, n1, n2, n3, n4, n5, n6, n7, n8, n9, n10⟩, _⟩ := has11 d8
    obtain ⟨⟨m0, m1⟩, _⟩ := has2 k8.m
    have K8 := Lib.hid k8
    clear k8 i8 d8
    obtain ⟨⟨d0, d1, d2, d3, d4, d5, d6, d7, d8, d9, d10⟩, ⟨f0, f1, f2, f3, f4, f5, f6, f7, f8, f9, f10⟩⟩ := has11 K8.out.d
    obtain ⟨⟨o0, o1⟩, ⟨q0, q1⟩⟩ := has2 K8.out.o
    go_wp2_with fail
    go_region
    all_goals go_wp2_with fail
    all_goals refine bodyPost_ret (v := .tuple #[.agg #[.int .u32 (((pc : Int) + (n : Int)) % 4294967296), .int .u32 r0, .int .u32 r1, .int .u32 r2, .int .u32 r3, .int .u32 r4, .int .u32 r5, .int .u32 r6, .int .u32 r7, .int .u32 b, .int .u32 s], .agg #[.slice (some ⟨xb, 0, none⟩) 256 cB, .slice (some ⟨yb, 0, none⟩) 256 cU], .int .i64 0, .int .i64 0]) (by simp [results, Try.results25, go_sem, d0, d1, d2, d3, d4, d5, d6, d7, d8, d9, d10, o0, o1]) rfl ?_
    all_goals obtain ⟨x1, x2⟩ := rst13 K8.out.bel (.int .u32 (((pc : Int) + (n : Int)) % 4294967296)) (.int .u32 r0) (.int .u32 r1) (.int .u32 r2) (.int .u32 r3) (.int .u32 r4) (.int .u32 r5) (.int .u32 r6) (.int .u32 r7) (.int .u32 b) (.int .u32 s) (.slice (some ⟨xb, 0, none⟩) 256 cB) (.slice (some ⟨yb, 0, none⟩) 256 cU)
    all_goals exact ⟨_, _, rfl, (RB8.out).chg x1 (by have := HXB.out; omega) (by have := HXB.out; omega), x2, .inl rfl⟩
set_option maxRecDepth 100000 in
set_option maxHeartbeats 8000000 in
theorem rdo_22 (xb yb cB cU : Nat) (B : List Int) (r0 r1 r2 r3 r4 r5 r6 r7 b s : Int) (pc : Nat) (hB : B.length = 256) (hBy : Bytes B) (h1 : pc < 4294967296) (w : World) (rB : RowAt w (some ⟨xb, 0, none⟩) cB B) (rU : BlAt w (some ⟨yb, 0, none⟩) cU U4) (imm va vb : Int)  (x y n : Nat) (hx : x < 8) (hy : y < 8) (i0 : 0 ≤ imm) (i1 : imm < 4294967296) (hn : 1 ≤ n) (hn' : n ≤ 6) (hrd : Rd (codeL B T4 (pc : Int)) 22 x y imm n) (hva : Cp.reg ⟨pc, [r0, r1, r2, r3, r4, r5, r6, r7], b, s⟩ x = va) (hvb : Cp.reg ⟨pc, [r0, r1, r2, r3, r4, r5, r6, r7], b, s⟩ y = vb) (va0 : 0 ≤ va) (va1 : va < 4294967296) (vb0 : 0 ≤ vb) (vb1 : vb < 4294967296) (ok : Cp.Ok ⟨pc, [r0, r1, r2, r3, r4, r5, r6, r7], b, s⟩) :
    Calls Try.prog 25 #[.agg #[.int .u32 pc, .int .u32 r0, .int .u32 r1, .int .u32 r2, .int .u32 r3, .int .u32 r4, .int .u32 r5, .int .u32 r6, .int .u32 r7, .int .u32 b, .int .u32 s], .agg #[.slice (some ⟨xb, 0, none⟩) 256 cB, .slice (some ⟨yb, 0, none⟩) 256 cU]] w (RDoP w xb yb cU ⟨(⟨(((pc : Int) + (n : Int)) % 4294967296), [r0, r1, r2, r3, r4, r5, r6, r7], b, s⟩ : Cp), B, 2, imm⟩) := by
  obtain ⟨W0, e1, k0, hz0⟩ := RDoS.new w pc r0 r1 r2 r3 r4 r5 r6 r7 b s (.slice (some ⟨xb, 0, none⟩) 256 cB) (.slice (some ⟨yb, 0, none⟩) 256 cU)
  have K0 := Lib.hid k0
  have y0 := k0.c.cell 0
  simp only [List.getElem?_cons_zero] at y0
  obtain ⟨K, hK⟩ : ∃ K, min 6 (192 - pc) = K := ⟨_, rfl⟩
  have HC := Lib.hid (code4 B pc)
  rw [hK] at HC
  have hK6 : K ≤ 6 := by omega
  have hKB : K = 0 ∨ pc + K ≤ 192 := by omega
  have hKe : K = 6 ∨ 192 ≤ pc + K := by omega
  have hbel := k0.bel
  have HB0 := Lib.hid hbel
  have RB := Lib.hid (rB.below hbel)
  have RU := Lib.hid (rU.below hbel)
  have HXB := Lib.hid (show xb < w.heap.size by obtain ⟨x, hx, hlt, _⟩ := rB.2.2.2 (by intro e; subst e; simp at hB); injection hx with hx; subst hx; exact hlt)
  have HB := Lib.hid hB
  have HBy := Lib.hid hBy
  have HZ := Lib.hid hz0
  clear k0 hK rB rU hbel hB hBy hz0
  go_enter Try.func25, Try.ntmps25
  go_wp2_with fail
  clear y0 e1
  go_loopw [8, 9] (fun v i w' => RGet W0 K pc B v i w') (fun _ i _ => pc + 6 - (intOf i).toNat)
  case atStart => exact ⟨0, Nat.zero_le _, by go_num, World.ownsRow_nil _ _ _ _, Below.refl _ _⟩
  case round =>
    obtain ⟨k, hk, rfl, own, hb⟩ := hrel
    have KR := Lib.hid (K0.out.below hb)
    have OWN := Lib.hid own
    have HBW := Lib.hid hb
    have RBW := Lib.hid (RB.out.below hb)
    have RUW := Lib.hid (RU.out.below hb)
    clear own hb
    have y0 := KR.out.c.cell 0
    obtain ⟨⟨m0, m1⟩, _⟩ := has2 KR.out.m
    simp only [List.getElem?_cons_zero] at y0
    have n0 : (pc : Int) + (k : Int) ≤ 4294967302 := by omega
    go_upto_region 3 with fail
    go_cut [30] (fun s30 wx => s30 = .bool (decide (k < K)) ∧ Below wr.heap.size wr wx)
    case first =>
      by_cases hi6 : k < 6
      · as_aux_lemma =>
        have CA := fun W (r : BlAt W (some ⟨yb, 0, none⟩) cU U4) => all4 ⟨xb, 0, none⟩ yb (pc + k) 1 cB cU (by omega) (by decide) (by decide) W r
        rw [show decide (pc + k + 1 ≤ 192) = decide (k < K) by (congr 1; apply propext; omega), show ((pc + k : Nat) : Int) = (pc : Int) + (k : Int) by omega] at CA
        replace CA := Lib.hid CA
        have d6 : decide ((pc : Int) + (k : Int) < (pc : Int) + 6) = true := decide_eq_true (by omega)
        have i6 : (k : Int) < 6 := by omega
        obtain ⟨dk, hdk⟩ : ∃ dk, decide (k < K) = dk := ⟨_, rfl⟩
        rw [hdk] at CA
        have HD := Lib.hid hdk
        clear hdk
        go_wp2_with fail
        refine (CA.out _ RUW.out).mono ?_; rintro e w3 ⟨rfl, hb3⟩
        go_wp2_with fail
        go_meet
        exact ⟨by rw [HD.out], hb3⟩
      · as_aux_lemma =>
        have d6 : decide ((pc : Int) + (k : Int) < (pc : Int) + 6) = false := decide_eq_false (by omega)
        have i6 : 6 ≤ (k : Int) := by omega
        have hd := Lib.hid (show decide (k < K) = false from decide_eq_false (by omega))
        go_wp2_with fail
        go_meet
        exact ⟨by rw [hd.out], Below.refl _ _⟩
    case rest =>
    obtain ⟨rfl, hb3⟩ := hcut
    have KR3 := Lib.hid (KR.out.below hb3)
    have RB3 := Lib.hid (RBW.out.below hb3)
    have RU3 := Lib.hid (RUW.out.below hb3)
    have HB3 := Lib.hid (bel_then HBW.out hb3)
    have OWN3 := Lib.hid (own_below OWN.out hb3)
    clear hb3 y0 m0 m1 KR RBW RUW HBW OWN
    by_cases hlt : k < K
    · as_aux_lemma =>
      rw [decide_eq_true hlt]
      have hin : pc + k < 192 := by omega
      have e2 : ((pc : Int) + (k : Int)).toNat = pc + k := by omega
      have n1 : (pc : Int) + (k : Int) < 192 := by omega
      have HG := Lib.hid (get_take (B := B) (pc := pc) hlt (by rw [HB.out]; omega))
      have y1 := row_cell RB3.out (pc + k) (by rw [HB.out]; omega)
      have hbd := row_byte HBy.out (pc + k)
      obtain ⟨x, hx⟩ : ∃ x, B.getD (pc + k) 0 = x := ⟨_, rfl⟩
      rw [hx] at y1 hbd HG
      obtain ⟨⟨z0, z1⟩, _⟩ := has2 KR3.out.m
      clear hx
      have HX := Lib.hid (row_new wc [x] 5 1 (Nat.le_refl _) (by decide) (fun z hz => by simp at hz; subst hz; exact hbd))
      have HLL := Lib.hid (show Bytes (((B.drop pc).take K).take k) from take_byte (take_byte (drop_byte HBy.out _) _) _)
      have hsz3 := HB3.out.size
      clear hbd
      generalize ((B.drop pc).take K).take k = L at *
      go_wp2_with (first
        | (at_builtin
           refine append_row rfl (.tmp 33) (.tmp 39) rfl W0.heap.size u8 k L rfl (OWN3.out.alloc _) HLL.out _ 1 1 [x] rfl rfl 1 HX.out (k + 1) rfl (by omega) (by (try simp) <;> omega) ?_
           intro A4 c4 w4 own4 row4 bel4
           have OWN4 := Lib.hid own4
           have BEL4 := Lib.hid bel4
           clear own4 row4 bel4))
      go_roundw
      case rel => exact ⟨k + 1, hlt, by go_num, by rw [HG.out]; exact OWN4.out, (bel_al HB3.out _).trans BEL4.out⟩
      case measure => simp [intOf]; omega
    rw [decide_eq_false hlt]
    have hkK : k = K := by omega
    subst hkK
    clear hlt hk
    have hown := OWN3.out
    rw [List.take_take, Nat.min_self] at hown
    obtain ⟨LB, hLB⟩ : ∃ LB, (B.drop pc).take k = LB := ⟨_, rfl⟩
    rw [hLB] at hown HC
    have hLL : LB.length = k := by rw [← hLB, List.length_take, List.length_drop, HB.out]; omega
    have hLby : Bytes LB := by rw [← hLB]; exact take_byte (drop_byte HBy.out _) _
    obtain ⟨AB, cAB, rfl, hq, hrow⟩ := row_of_own hown hLby
    clear hq
    have RL := Lib.hid hrow
    have HLL := Lib.hid hLL
    have HLby := Lib.hid hLby
    clear hown hrow hLL hLby hLB OWN3
    rw [HC.out] at hrd
    have HN := Lib.hid hrd
    have LNE := Lib.hid (show 0 < LB.length by obtain ⟨_, t, e, _⟩ := hrd; rw [e]; simp)
    clear hrd
    have g0 : ((k : Int) == 0) = false := by rw [beq_eq_false_iff_ne]; have := HLL.out; have := LNE.out; omega
    go_wp2_with fail
    have RN := rRead_yes LB AB cAB 0 22 x y imm n (by rw [HLL.out]; omega) HN.out wc RL.out
    rw [HLL.out] at RN
    refine RN.mono ?_; rintro e w2 ⟨rfl, hb⟩
    unfold insV
    clear RN
    have K2 := Lib.hid (KR3.out.below hb)
    have RB4 := Lib.hid (RB3.out.below hb)
    have RU4 := Lib.hid (RU3.out.below hb)
    clear hb KR3 RB3 RU3 HB3 RL HLby
    have gn : ((n : Int) == 0) = false := by rw [beq_eq_false_iff_ne]; omega
    have N0 : (1 : Int) ≤ (n : Int) := by omega
    have N1 : (n : Int) ≤ 6 := by omega
    obtain ⟨W3, W4, W5, W6, W7, e3, e4, e5, e6, e7, hI, K4, hN, K6, hN6, K7, hI7, hN7, b7, z0, z4⟩ := rdo_worlds K2.out (22) x y imm (((pc : Int) + (n : Int)) % 4294967296)
    have RB5 := Lib.hid (RB4.out.below b7)
    have RU5 := Lib.hid (RU4.out.below b7)
    obtain ⟨⟨t0, t1⟩, ⟨t2, t3⟩⟩ : (W3.cell? ⟨w2.heap.size, 0, none⟩ = some (.int .i64 0) ∧ W3.cell? ⟨w2.heap.size, 1, none⟩ = some (.int .i64 0)) ∧ (W3.cell? ⟨w2.heap.size, 2, none⟩ = some (.int .i64 0) ∧ W3.cell? ⟨w2.heap.size, 3, none⟩ = some (.int .u32 0)) := ⟨⟨hI.cell 0, hI.cell 1⟩, ⟨hI.cell 2, hI.cell 3⟩⟩
    have u0 := hI.frozen 0
    have u1 := hI.frozen 1
    have u2 := hI.frozen 2
    have u3 := hI.frozen 3
    obtain ⟨⟨c0, c1, c2, c3, c4, c5, c6, c7, c8, c9, c10⟩, _⟩ := has11 K4.c
    obtain ⟨⟨m0, m1, m2, m3, m4, m5, m6, m7, m8, m9, m10⟩, ⟨f0, f1, f2, f3, f4, f5, f6, f7, f8, f9, f10⟩⟩ := has11 hN
    have p0 := hN6.cell 0
    have p1 := hN6.frozen 0
    have p2 := K6.c.cell 0
    obtain ⟨⟨q0, q1⟩, ⟨q2, q3⟩⟩ : (W7.cell? ⟨w2.heap.size, 0, none⟩ = some (.int .i64 (22)) ∧ W7.cell? ⟨w2.heap.size, 1, none⟩ = some (.int .i64 x)) ∧ (W7.cell? ⟨w2.heap.size, 2, none⟩ = some (.int .i64 y) ∧ W7.cell? ⟨w2.heap.size, 3, none⟩ = some (.int .u32 imm)) := ⟨⟨hI7.cell 0, hI7.cell 1⟩, ⟨hI7.cell 2, hI7.cell 3⟩⟩
    simp only [List.getElem?_cons_zero] at p0 p2
    have x1 : W7.cell? ⟨w.heap.size, 1 + x, none⟩ = some (.int .u32 va) := by rw [K7.c.cell, ← hva]; exact Cp.cs_reg ok x hx
    have x2 : W7.cell? ⟨w.heap.size, 1 + y, none⟩ = some (.int .u32 vb) := by rw [K7.c.cell, ← hvb]; exact Cp.cs_reg ok y hy
    have HK7 := Lib.hid K7
    have HI7 := Lib.hid hI7
    have HN7 := Lib.hid hN7
    have HVA := Lib.hid hva
    have HVB := Lib.hid hvb
    have OK := Lib.hid ok
    have xI : (x : Int) < 8 := by omega
    have yI : (y : Int) < 8 := by omega
    clear hI K4 hN K6 hN6 K7 hI7 hN7 b7 hva hvb ok K2 RB4 RU4
    go_wp2_with fail
    go_quiet (fail)
    obtain ⟨W8, e8⟩ : ∃ W8, W7.drewN nq = W8 := ⟨_, rfl⟩
    have b8 : Below W7.heap.size W7 W8 := by rw [← e8]; exact below_drewN (Below.refl _ _) nq
    rw [e8]
    have k8 := HK7.out.below b8
    have i8 := HI7.out.below b8
    have d8 := HN7.out.below b8
    have RB8 := Lib.hid (RB5.out.below b8)
    have RU8 := Lib.hid (RU5.out.below b8)
    clear e3 e4 e5 e6 e7 t0 t1 t2 t3 u0 u1 u2 u3 c0 c1 c2 c3 c4 c5 c6 c7 c8 c9 c10 m0 m1 m2 m3 m4 m5 m6 m7 m8 m9 m10 f0 f1 f2 f3 f4 f5 f6 f7 f8 f9 f10 p0 p1 p2 q0 q1 q2 q3 x1 x2 e8 b8 HK7 HI7 HN7 RB5 RU5 HN gn g0 xI yI
    have xI : (x : Int) < 8 := by omega
    obtain ⟨⟨v0, v1⟩, ⟨v2, v3⟩⟩ : (W8.cell? ⟨w2.heap.size, 0, none⟩ = some (.int .i64 (22)) ∧ W8.cell? ⟨w2.heap.size, 1, none⟩ = some (.int .i64 x)) ∧ (W8.cell? ⟨w2.heap.size, 2, none⟩ = some (.int .i64 y) ∧ W8.cell? ⟨w2.heap.size, 3, none⟩ = some (.int .u32 imm)) := ⟨⟨i8.cell 0, i8.cell 1⟩, ⟨i8.cell 2, i8.cell 3⟩⟩
    obtain ⟨⟨n0, n1, n2, n3, n4, n5, n6, n7, n8, n9, n10⟩, _⟩ := has11 d8
    obtain ⟨⟨m0, m1⟩, _⟩ := has2 k8.m
    have K8 := Lib.hid k8
    clear k8 i8 d8
    obtain ⟨⟨d0, d1, d2, d3, d4, d5, d6, d7, d8, d9, d10⟩, ⟨f0, f1, f2, f3, f4, f5, f6, f7, f8, f9, f10⟩⟩ := has11 K8.out.d
    obtain ⟨⟨o0, o1⟩, ⟨q0, q1⟩⟩ := has2 K8.out.o
    go_wp2_with fail
    go_region
    all_goals go_wp2_with fail
    all_goals refine bodyPost_ret (v := .tuple #[.agg #[.int .u32 (((pc : Int) + (n : Int)) % 4294967296), .int .u32 r0, .int .u32 r1, .int .u32 r2, .int .u32 r3, .int .u32 r4, .int .u32 r5, .int .u32 r6, .int .u32 r7, .int .u32 b, .int .u32 s], .agg #[.slice (some ⟨xb, 0, none⟩) 256 cB, .slice (some ⟨yb, 0, none⟩) 256 cU], .int .i64 2, .int .i64 imm]) (by simp [results, Try.results25, go_sem, d0, d1, d2, d3, d4, d5, d6, d7, d8, d9, d10, o0, o1]) rfl ?_
    all_goals obtain ⟨x1, x2⟩ := rst13 K8.out.bel (.int .u32 (((pc : Int) + (n : Int)) % 4294967296)) (.int .u32 r0) (.int .u32 r1) (.int .u32 r2) (.int .u32 r3) (.int .u32 r4) (.int .u32 r5) (.int .u32 r6) (.int .u32 r7) (.int .u32 b) (.int .u32 s) (.slice (some ⟨xb, 0, none⟩) 256 cB) (.slice (some ⟨yb, 0, none⟩) 256 cU)
    all_goals exact ⟨_, _, rfl, (RB8.out).chg x1 (by have := HXB.out; omega) (by have := HXB.out; omega), x2, .inl rfl⟩
end Go.Proofs.Ytjcggpaiminecaa.Mm
