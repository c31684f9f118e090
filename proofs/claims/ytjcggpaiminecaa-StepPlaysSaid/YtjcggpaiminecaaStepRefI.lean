/- The document's own step, whatever the processor and the memory. -/
import Derived.Test.YtjcggpaiminecaaStepRefB
import Derived.Test.YtjcggpaiminecaaIsaRefRead
import Derived.Test.YtjcggpaiminecaaStepRefC
import Derived.Test.YtjcggpaiminecaaStepRefD
import Derived.Test.YtjcggpaiminecaaStepRefE
import Derived.Test.YtjcggpaiminecaaStepRefH
namespace Go.Proofs.Ytjcggpaiminecaa.Mm
open Go.ChangeShapes Go.WideShapes Go.ChangeAt Go.RowKit
set_option linter.unusedVariables false

set_option maxRecDepth 100000 in
set_option maxHeartbeats 8000000 in
theorem rdo_empty (xb yb cB cU : Nat) (B : List Int) (r0 r1 r2 r3 r4 r5 r6 r7 b s : Int) (pc : Nat) (hB : B.length = 256) (hBy : Bytes B) (h1 : pc < 4294967296) (w : World) (rB : RowAt w (some ⟨xb, 0, none⟩) cB B) (rU : BlAt w (some ⟨yb, 0, none⟩) cU U4) (hc : codeL B T4 (pc : Int) = []) :
    Calls Try.prog 25 #[.agg #[.int .u32 pc, .int .u32 r0, .int .u32 r1, .int .u32 r2, .int .u32 r3, .int .u32 r4, .int .u32 r5, .int .u32 r6, .int .u32 r7, .int .u32 b, .int .u32 s], .agg #[.slice (some ⟨xb, 0, none⟩) 256 cB, .slice (some ⟨yb, 0, none⟩) 256 cU]] w (RDoP w xb yb cU ⟨⟨pc, [r0, r1, r2, r3, r4, r5, r6, r7], b, s⟩, B, 3, 0⟩) := by
  obtain ⟨W0, e1, k0, hz0⟩ := RDoS.new w pc r0 r1 r2 r3 r4 r5 r6 r7 b s (.slice (some ⟨xb, 0, none⟩) 256 cB) (.slice (some ⟨yb, 0, none⟩) 256 cU)
  have K0 := Lib.hid k0
  have y0 := k0.c.cell 0
  simp only [List.getElem?_cons_zero] at y0
  obtain ⟨K, hK⟩ : ∃ K, min 6 (192 - pc) = K := ⟨_, rfl⟩
  have HC := Lib.hid (code4 B pc)
  rw [hK] at HC
  have hK6 : K ≤ 6 := by omega
  have hKB : K = 0 ∨ pc + K ≤ 192 := by omega
  have hKe : K = 6 ∨ 192 ≤ pc + K := by omega
  have hbel := k0.bel
  have HB0 := Lib.hid hbel
  have RB := Lib.hid (rB.below hbel)
  have RU := Lib.hid (rU.below hbel)
  have HXB := Lib.hid (show xb < w.heap.size by obtain ⟨x, hx, hlt, _⟩ := rB.2.2.2 (by intro e; subst e; simp at hB); injection hx with hx; subst hx; exact hlt)
  have HB := Lib.hid hB
  have HBy := Lib.hid hBy
  have HZ := Lib.hid hz0
  clear k0 hK rB rU hbel hB hBy hz0
  go_enter Try.func25, Try.ntmps25
  go_wp2_with fail
  clear y0 e1
  go_loopw [8, 9] (fun v i w' => RGet W0 K pc B v i w') (fun _ i _ => pc + 6 - (intOf i).toNat)
  case atStart => exact ⟨0, Nat.zero_le _, by go_num, World.ownsRow_nil _ _ _ _, Below.refl _ _⟩
  case round =>
    obtain ⟨k, hk, rfl, own, hb⟩ := hrel
    have KR := Lib.hid (K0.out.below hb)
    have OWN := Lib.hid own
    have HBW := Lib.hid hb
    have RBW := Lib.hid (RB.out.below hb)
    have RUW := Lib.hid (RU.out.below hb)
    clear own hb
    have y0 := KR.out.c.cell 0
    obtain ⟨⟨m0, m1⟩, _⟩ := has2 KR.out.m
    simp only [List.getElem?_cons_zero] at y0
    have n0 : (pc : Int) + (k : Int) ≤ 4294967302 := by omega
    go_upto_region 3 with fail
    go_cut [30] (fun s30 wx => s30 = .bool (decide (k < K)) ∧ Below wr.heap.size wr wx)
    case first =>
      by_cases hi6 : k < 6
      · as_aux_lemma =>
        have CA := fun W (r : BlAt W (some ⟨yb, 0, none⟩) cU U4) => all4 ⟨xb, 0, none⟩ yb (pc + k) 1 cB cU (by omega) (by decide) (by decide) W r
        rw [show decide (pc + k + 1 ≤ 192) = decide (k < K) by (congr 1; apply propext; omega), show ((pc + k : Nat) : Int) = (pc : Int) + (k : Int) by omega] at CA
        replace CA := Lib.hid CA
        have d6 : decide ((pc : Int) + (k : Int) < (pc : Int) + 6) = true := decide_eq_true (by omega)
        have i6 : (k : Int) < 6 := by omega
        obtain ⟨dk, hdk⟩ : ∃ dk, decide (k < K) = dk := ⟨_, rfl⟩
        rw [hdk] at CA
        have HD := Lib.hid hdk
        clear hdk
        go_wp2_with fail
        refine (CA.out _ RUW.out).mono ?_; rintro e w3 ⟨rfl, hb3⟩
        go_wp2_with fail
        go_meet
        exact ⟨by rw [HD.out], hb3⟩
      · as_aux_lemma =>
        have d6 : decide ((pc : Int) + (k : Int) < (pc : Int) + 6) = false := decide_eq_false (by omega)
        have i6 : 6 ≤ (k : Int) := by omega
        have hd := Lib.hid (show decide (k < K) = false from decide_eq_false (by omega))
        go_wp2_with fail
        go_meet
        exact ⟨by rw [hd.out], Below.refl _ _⟩
    case rest =>
    obtain ⟨rfl, hb3⟩ := hcut
    have KR3 := Lib.hid (KR.out.below hb3)
    have RB3 := Lib.hid (RBW.out.below hb3)
    have RU3 := Lib.hid (RUW.out.below hb3)
    have HB3 := Lib.hid (bel_then HBW.out hb3)
    have OWN3 := Lib.hid (own_below OWN.out hb3)
    clear hb3 y0 m0 m1 KR RBW RUW HBW OWN
    by_cases hlt : k < K
    · as_aux_lemma =>
      rw [decide_eq_true hlt]
      have hin : pc + k < 192 := by omega
      have e2 : ((pc : Int) + (k : Int)).toNat = pc + k := by omega
      have n1 : (pc : Int) + (k : Int) < 192 := by omega
      have HG := Lib.hid (get_take (B := B) (pc := pc) hlt (by rw [HB.out]; omega))
      have y1 := row_cell RB3.out (pc + k) (by rw [HB.out]; omega)
      have hbd := row_byte HBy.out (pc + k)
      obtain ⟨x, hx⟩ : ∃ x, B.getD (pc + k) 0 = x := ⟨_, rfl⟩
      rw [hx] at y1 hbd HG
      obtain ⟨⟨z0, z1⟩, _⟩ := has2 KR3.out.m
      clear hx
      have HX := Lib.hid (row_new wc [x] 5 1 (Nat.le_refl _) (by decide) (fun z hz => by simp at hz; subst hz; exact hbd))
      have HLL := Lib.hid (show Bytes (((B.drop pc).take K).take k) from take_byte (take_byte (drop_byte HBy.out _) _) _)
      have hsz3 := HB3.out.size
      clear hbd
      generalize ((B.drop pc).take K).take k = L at *
      go_wp2_with (first
        | (at_builtin
           refine append_row rfl (.tmp 33) (.tmp 39) rfl W0.heap.size u8 k L rfl (OWN3.out.alloc _) HLL.out _ 1 1 [x] rfl rfl 1 HX.out (k + 1) rfl (by omega) (by (try simp) <;> omega) ?_
           intro A4 c4 w4 own4 row4 bel4
           have OWN4 := Lib.hid own4
           have BEL4 := Lib.hid bel4
           clear own4 row4 bel4))
      go_roundw
      case rel => exact ⟨k + 1, hlt, by go_num, by rw [HG.out]; exact OWN4.out, (bel_al HB3.out _).trans BEL4.out⟩
      case measure => simp [intOf]; omega
    rw [decide_eq_false hlt]
    have hkK : k = K := by omega
    subst hkK
    clear hlt hk
    have hown := OWN3.out
    rw [List.take_take, Nat.min_self] at hown
    obtain ⟨LB, hLB⟩ : ∃ LB, (B.drop pc).take k = LB := ⟨_, rfl⟩
    rw [hLB] at hown HC
    have hLL : LB.length = k := by rw [← hLB, List.length_take, List.length_drop, HB.out]; omega
    have hLby : Bytes LB := by rw [← hLB]; exact take_byte (drop_byte HBy.out _) _
    obtain ⟨AB, cAB, rfl, hq, hrow⟩ := row_of_own hown hLby
    clear hq
    have RL := Lib.hid hrow
    have HLL := Lib.hid hLL
    have HLby := Lib.hid hLby
    clear hown hrow hLL hLby hLB OWN3
    have hk0 : k = 0 := by rw [← HLL.out, ← HC.out, hc]; rfl
    subst hk0
    obtain ⟨⟨c0, c1, c2, c3, c4, c5, c6, c7, c8, c9, c10⟩, _⟩ := has11 KR3.out.c
    obtain ⟨⟨m0, m1⟩, _⟩ := has2 KR3.out.m
    obtain ⟨⟨d0, d1, d2, d3, d4, d5, d6, d7, d8, d9, d10⟩, ⟨f0, f1, f2, f3, f4, f5, f6, f7, f8, f9, f10⟩⟩ := has11 KR3.out.d
    obtain ⟨⟨o0, o1⟩, ⟨q0, q1⟩⟩ := has2 KR3.out.o
    go_wp2_with fail
    go_region
    all_goals go_wp2_with fail
    all_goals refine bodyPost_ret (v := .tuple #[.agg #[.int .u32 pc, .int .u32 r0, .int .u32 r1, .int .u32 r2, .int .u32 r3, .int .u32 r4, .int .u32 r5, .int .u32 r6, .int .u32 r7, .int .u32 b, .int .u32 s], .agg #[.slice (some ⟨xb, 0, none⟩) 256 cB, .slice (some ⟨yb, 0, none⟩) 256 cU], .int .i64 3, .int .i64 0]) (by simp [results, Try.results25, go_sem, d0, d1, d2, d3, d4, d5, d6, d7, d8, d9, d10, o0, o1]) rfl ?_
    all_goals obtain ⟨x1, x2⟩ := rst13 KR3.out.bel (.int .u32 pc) (.int .u32 r0) (.int .u32 r1) (.int .u32 r2) (.int .u32 r3) (.int .u32 r4) (.int .u32 r5) (.int .u32 r6) (.int .u32 r7) (.int .u32 b) (.int .u32 s) (.slice (some ⟨xb, 0, none⟩) 256 cB) (.slice (some ⟨yb, 0, none⟩) 256 cU)
    all_goals exact ⟨_, _, rfl, (RB3.out).chg x1 (by have := HXB.out; omega) (by have := HXB.out; omega), x2, .inl rfl⟩
set_option maxRecDepth 100000 in
set_option maxHeartbeats 8000000 in
theorem rdo_broken (xb yb cB cU : Nat) (B : List Int) (r0 r1 r2 r3 r4 r5 r6 r7 b s : Int) (pc : Nat) (hB : B.length = 256) (hBy : Bytes B) (h1 : pc < 4294967296) (w : World) (rB : RowAt w (some ⟨xb, 0, none⟩) cB B) (rU : BlAt w (some ⟨yb, 0, none⟩) cU U4) (hc : codeL B T4 (pc : Int) ≠ []) (hn : rdB (codeL B T4 (pc : Int)) = false) :
    Calls Try.prog 25 #[.agg #[.int .u32 pc, .int .u32 r0, .int .u32 r1, .int .u32 r2, .int .u32 r3, .int .u32 r4, .int .u32 r5, .int .u32 r6, .int .u32 r7, .int .u32 b, .int .u32 s], .agg #[.slice (some ⟨xb, 0, none⟩) 256 cB, .slice (some ⟨yb, 0, none⟩) 256 cU]] w (RDoP w xb yb cU ⟨⟨pc, [r0, r1, r2, r3, r4, r5, r6, r7], b, s⟩, B, 5, 0⟩) := by
  obtain ⟨W0, e1, k0, hz0⟩ := RDoS.new w pc r0 r1 r2 r3 r4 r5 r6 r7 b s (.slice (some ⟨xb, 0, none⟩) 256 cB) (.slice (some ⟨yb, 0, none⟩) 256 cU)
  have K0 := Lib.hid k0
  have y0 := k0.c.cell 0
  simp only [List.getElem?_cons_zero] at y0
  obtain ⟨K, hK⟩ : ∃ K, min 6 (192 - pc) = K := ⟨_, rfl⟩
  have HC := Lib.hid (code4 B pc)
  rw [hK] at HC
  have hK6 : K ≤ 6 := by omega
  have hKB : K = 0 ∨ pc + K ≤ 192 := by omega
  have hKe : K = 6 ∨ 192 ≤ pc + K := by omega
  have hbel := k0.bel
  have HB0 := Lib.hid hbel
  have RB := Lib.hid (rB.below hbel)
  have RU := Lib.hid (rU.below hbel)
  have HXB := Lib.hid (show xb < w.heap.size by obtain ⟨x, hx, hlt, _⟩ := rB.2.2.2 (by intro e; subst e; simp at hB); injection hx with hx; subst hx; exact hlt)
  have HB := Lib.hid hB
  have HBy := Lib.hid hBy
  have HZ := Lib.hid hz0
  clear k0 hK rB rU hbel hB hBy hz0
  go_enter Try.func25, Try.ntmps25
  go_wp2_with fail
  clear y0 e1
  go_loopw [8, 9] (fun v i w' => RGet W0 K pc B v i w') (fun _ i _ => pc + 6 - (intOf i).toNat)
  case atStart => exact ⟨0, Nat.zero_le _, by go_num, World.ownsRow_nil _ _ _ _, Below.refl _ _⟩
  case round =>
    obtain ⟨k, hk, rfl, own, hb⟩ := hrel
    have KR := Lib.hid (K0.out.below hb)
    have OWN := Lib.hid own
    have HBW := Lib.hid hb
    have RBW := Lib.hid (RB.out.below hb)
    have RUW := Lib.hid (RU.out.below hb)
    clear own hb
    have y0 := KR.out.c.cell 0
    obtain ⟨⟨m0, m1⟩, _⟩ := has2 KR.out.m
    simp only [List.getElem?_cons_zero] at y0
    have n0 : (pc : Int) + (k : Int) ≤ 4294967302 := by omega
    go_upto_region 3 with fail
    go_cut [30] (fun s30 wx => s30 = .bool (decide (k < K)) ∧ Below wr.heap.size wr wx)
    case first =>
      by_cases hi6 : k < 6
      · as_aux_lemma =>
        have CA := fun W (r : BlAt W (some ⟨yb, 0, none⟩) cU U4) => all4 ⟨xb, 0, none⟩ yb (pc + k) 1 cB cU (by omega) (by decide) (by decide) W r
        rw [show decide (pc + k + 1 ≤ 192) = decide (k < K) by (congr 1; apply propext; omega), show ((pc + k : Nat) : Int) = (pc : Int) + (k : Int) by omega] at CA
        replace CA := Lib.hid CA
        have d6 : decide ((pc : Int) + (k : Int) < (pc : Int) + 6) = true := decide_eq_true (by omega)
        have i6 : (k : Int) < 6 := by omega
        obtain ⟨dk, hdk⟩ : ∃ dk, decide (k < K) = dk := ⟨_, rfl⟩
        rw [hdk] at CA
        have HD := Lib.hid hdk
        clear hdk
        go_wp2_with fail
        refine (CA.out _ RUW.out).mono ?_; rintro e w3 ⟨rfl, hb3⟩
        go_wp2_with fail
        go_meet
        exact ⟨by rw [HD.out], hb3⟩
      · as_aux_lemma =>
        have d6 : decide ((pc : Int) + (k : Int) < (pc : Int) + 6) = false := decide_eq_false (by omega)
        have i6 : 6 ≤ (k : Int) := by omega
        have hd := Lib.hid (show decide (k < K) = false from decide_eq_false (by omega))
        go_wp2_with fail
        go_meet
        exact ⟨by rw [hd.out], Below.refl _ _⟩
    case rest =>
    obtain ⟨rfl, hb3⟩ := hcut
    have KR3 := Lib.hid (KR.out.below hb3)
    have RB3 := Lib.hid (RBW.out.below hb3)
    have RU3 := Lib.hid (RUW.out.below hb3)
    have HB3 := Lib.hid (bel_then HBW.out hb3)
    have OWN3 := Lib.hid (own_below OWN.out hb3)
    clear hb3 y0 m0 m1 KR RBW RUW HBW OWN
    by_cases hlt : k < K
    · as_aux_lemma =>
      rw [decide_eq_true hlt]
      have hin : pc + k < 192 := by omega
      have e2 : ((pc : Int) + (k : Int)).toNat = pc + k := by omega
      have n1 : (pc : Int) + (k : Int) < 192 := by omega
      have HG := Lib.hid (get_take (B := B) (pc := pc) hlt (by rw [HB.out]; omega))
      have y1 := row_cell RB3.out (pc + k) (by rw [HB.out]; omega)
      have hbd := row_byte HBy.out (pc + k)
      obtain ⟨x, hx⟩ : ∃ x, B.getD (pc + k) 0 = x := ⟨_, rfl⟩
      rw [hx] at y1 hbd HG
      obtain ⟨⟨z0, z1⟩, _⟩ := has2 KR3.out.m
      clear hx
      have HX := Lib.hid (row_new wc [x] 5 1 (Nat.le_refl _) (by decide) (fun z hz => by simp at hz; subst hz; exact hbd))
      have HLL := Lib.hid (show Bytes (((B.drop pc).take K).take k) from take_byte (take_byte (drop_byte HBy.out _) _) _)
      have hsz3 := HB3.out.size
      clear hbd
      generalize ((B.drop pc).take K).take k = L at *
      go_wp2_with (first
        | (at_builtin
           refine append_row rfl (.tmp 33) (.tmp 39) rfl W0.heap.size u8 k L rfl (OWN3.out.alloc _) HLL.out _ 1 1 [x] rfl rfl 1 HX.out (k + 1) rfl (by omega) (by (try simp) <;> omega) ?_
           intro A4 c4 w4 own4 row4 bel4
           have OWN4 := Lib.hid own4
           have BEL4 := Lib.hid bel4
           clear own4 row4 bel4))
      go_roundw
      case rel => exact ⟨k + 1, hlt, by go_num, by rw [HG.out]; exact OWN4.out, (bel_al HB3.out _).trans BEL4.out⟩
      case measure => simp [intOf]; omega
    rw [decide_eq_false hlt]
    have hkK : k = K := by omega
    subst hkK
    clear hlt hk
    have hown := OWN3.out
    rw [List.take_take, Nat.min_self] at hown
    obtain ⟨LB, hLB⟩ : ∃ LB, (B.drop pc).take k = LB := ⟨_, rfl⟩
    rw [hLB] at hown HC
    have hLL : LB.length = k := by rw [← hLB, List.length_take, List.length_drop, HB.out]; omega
    have hLby : Bytes LB := by rw [← hLB]; exact take_byte (drop_byte HBy.out _) _
    obtain ⟨AB, cAB, rfl, hq, hrow⟩ := row_of_own hown hLby
    clear hq
    have RL := Lib.hid hrow
    have HLL := Lib.hid hLL
    have HLby := Lib.hid hLby
    clear hown hrow hLL hLby hLB OWN3
    have LNE := Lib.hid (show 0 < LB.length by rw [← HC.out]; exact List.length_pos_iff.2 hc)
    rw [HC.out] at hn
    have HN := Lib.hid hn
    clear hc hn
    have g0 : ((k : Int) == 0) = false := by rw [beq_eq_false_iff_ne]; have := HLL.out; have := LNE.out; omega
    go_wp2_with fail
    have RN := rRead_no LB AB cAB 0 (by rw [HLL.out]; omega) (.inr (.inr (by simpa using HN.out))) wc RL.out
    rw [HLL.out] at RN
    refine RN.mono ?_; rintro e w2 ⟨rfl, hb⟩
    unfold insV
    clear RN
    have K2 := Lib.hid (KR3.out.below hb)
    have RB4 := Lib.hid (RB3.out.below hb)
    have RU4 := Lib.hid (RU3.out.below hb)
    clear hb KR3 RB3 RU3 HB3 RL HLby
    obtain ⟨W3, e3⟩ : ∃ W3, w2.alloc (.cells #[.int .i64 0, .int .i64 0, .int .i64 0, .int .u32 0] 73) = W3 := ⟨_, rfl⟩
    have hI : HasB W3 w2.heap.size 73 [.int .i64 0, .int .i64 0, .int .i64 0, .int .u32 0] := by rw [← e3]; exact HasB.newAt _ _ _ _ rfl
    have hb3 : Below w2.heap.size w2 W3 := by rw [← e3]; exact bel_al (Below.refl _ _) _
    have K3 := Lib.hid (K2.out.below hb3)
    have RB5 := Lib.hid (RB4.out.below hb3)
    obtain ⟨⟨t0, t1⟩, ⟨t2, t3⟩⟩ : (W3.cell? ⟨w2.heap.size, 0, none⟩ = some (.int .i64 0) ∧ W3.cell? ⟨w2.heap.size, 1, none⟩ = some (.int .i64 0)) ∧ (W3.cell? ⟨w2.heap.size, 2, none⟩ = some (.int .i64 0) ∧ W3.cell? ⟨w2.heap.size, 3, none⟩ = some (.int .u32 0)) := ⟨⟨hI.cell 0, hI.cell 1⟩, ⟨hI.cell 2, hI.cell 3⟩⟩
    have u0 := hI.frozen 0
    have u1 := hI.frozen 1
    have u2 := hI.frozen 2
    have u3 := hI.frozen 3
    have z0 := K2.out.o.lt
    have K4 := RDoS.ins K3.out z0 (.int .i64 0) (.int .i64 0) (.int .i64 0) (.int .u32 0)
    have K5 := Lib.hid K4.1
    have RB6 := Lib.hid (RB5.out.chg K4.2 (by have := HXB.out; omega) (by have := HXB.out; omega))
    clear K4
    have n0 : ¬ w2.heap.size = w.heap.size := by omega
    have n1 : ¬ w2.heap.size = w.heap.size + 1 := by omega
    have n2 : ¬ w2.heap.size = w.heap.size + 1 + 1 := by omega
    have n3 : ¬ w2.heap.size = w.heap.size + 1 + 1 + 1 := by omega
    have n4 : ¬ w.heap.size = w2.heap.size := by omega
    have n5 : ¬ w.heap.size + 1 = w2.heap.size := by omega
    have n6 : ¬ w.heap.size + 1 + 1 = w2.heap.size := by omega
    have n7 : ¬ w.heap.size + 1 + 1 + 1 = w2.heap.size := by omega
    clear hI K2 hb3
    obtain ⟨⟨c0, c1, c2, c3, c4, c5, c6, c7, c8, c9, c10⟩, _⟩ := has11 K3.out.c
    obtain ⟨⟨m0, m1⟩, _⟩ := has2 K3.out.m
    obtain ⟨⟨d0, d1, d2, d3, d4, d5, d6, d7, d8, d9, d10⟩, ⟨f0, f1, f2, f3, f4, f5, f6, f7, f8, f9, f10⟩⟩ := has11 K3.out.d
    obtain ⟨⟨o0, o1⟩, ⟨q0, q1⟩⟩ := has2 K3.out.o
    go_wp2_with fail
    go_region
    all_goals go_wp2_with fail
    all_goals refine bodyPost_ret (v := .tuple #[.agg #[.int .u32 pc, .int .u32 r0, .int .u32 r1, .int .u32 r2, .int .u32 r3, .int .u32 r4, .int .u32 r5, .int .u32 r6, .int .u32 r7, .int .u32 b, .int .u32 s], .agg #[.slice (some ⟨xb, 0, none⟩) 256 cB, .slice (some ⟨yb, 0, none⟩) 256 cU], .int .i64 5, .int .i64 0]) (by simp [results, Try.results25, go_sem, d0, d1, d2, d3, d4, d5, d6, d7, d8, d9, d10, o0, o1]) rfl ?_
    all_goals obtain ⟨x1, x2⟩ := rst13 K5.out.bel (.int .u32 pc) (.int .u32 r0) (.int .u32 r1) (.int .u32 r2) (.int .u32 r3) (.int .u32 r4) (.int .u32 r5) (.int .u32 r6) (.int .u32 r7) (.int .u32 b) (.int .u32 s) (.slice (some ⟨xb, 0, none⟩) 256 cB) (.slice (some ⟨yb, 0, none⟩) 256 cU)
    all_goals exact ⟨_, _, rfl, (RB6.out).chg x1 (by have := HXB.out; omega) (by have := HXB.out; omega), x2, .inl rfl⟩
end Go.Proofs.Ytjcggpaiminecaa.Mm

namespace Go.Proofs.Ytjcggpaiminecaa.Mm
open Go.ChangeShapes Go.WideShapes Go.ChangeAt Go.RowKit
set_option linter.unusedVariables false


theorem rstep_any (xb yb cB cU : Nat) (B : List Int) (hB : B.length = 256) (hBy : Bytes B) (w : World) (rB : RowAt w (some ⟨xb, 0, none⟩) cB B) (rU : BlAt w (some ⟨yb, 0, none⟩) cU U4) {c : Cp} (o : c.Ok) {q : Ou} (hq : StepIs c B T4 q) :
    Calls Try.prog 25 #[c.val, .agg #[.slice (some ⟨xb, 0, none⟩) 256 cB, .slice (some ⟨yb, 0, none⟩) 256 cU]] w (RDoP w xb yb cU q) := by
  obtain ⟨r0, r1, r2, r3, r4, r5, r6, r7, hr⟩ := o.eight
  obtain ⟨pc, r, b, s⟩ := c
  simp only at hr
  subst hr
  obtain ⟨p0, p1⟩ := o.pc
  simp only at p0 p1
  obtain ⟨pn, rfl⟩ : ∃ pn : Nat, pc = pn := ⟨pc.toNat, by omega⟩
  replace p1 : pn < 4294967296 := by omega
  rcases hq with ⟨h1, rfl⟩ | ⟨h1, h2, rfl⟩ | ⟨op, a, b', imm, n, hrd, rfl⟩
  · exact rdo_empty xb yb cB cU B r0 r1 r2 r3 r4 r5 r6 r7 b s pn hB hBy p1 w rB rU h1
  · exact rdo_broken xb yb cB cU B r0 r1 r2 r3 r4 r5 r6 r7 b s pn hB hBy p1 w rB rU h1 h2
  · obtain ⟨q1, q2, q3, ⟨i0, i1⟩, q5⟩ := rd_bds (codeL_byte hBy T4 (pn : Int)) hrd
    obtain ⟨n, rfl⟩ : ∃ k : Nat, n = k := ⟨n.toNat, by omega⟩
    obtain ⟨x, rfl⟩ : ∃ k : Nat, a = k := ⟨a.toNat, by omega⟩
    obtain ⟨y, rfl⟩ : ∃ k : Nat, b' = k := ⟨b'.toNat, by omega⟩
    have hx : x < 8 := by omega
    have hy : y < 8 := by omega
    have hn : 1 ≤ n := by omega
    have hn' : n ≤ 6 := by omega
    obtain ⟨va0, va1⟩ := o.reg x (by omega) (by omega)
    obtain ⟨vb0, vb1⟩ := o.reg y (by omega) (by omega)
    have epc : IntKind.u32.wrap (IntKind.u32.wrap ((pn : Int) + (n : Int)) + imm) = ((pn : Int) + (n : Int) + imm) % 4294967296 := by
      show (((pn : Int) + (n : Int)) % 4294967296 + imm) % 4294967296 = _
      omega
    have wT : ∀ v : Int, 0 ≤ v → wholeB T4 v 4 = decide (v + 4 ≤ 192) := fun v h => by
      obtain ⟨k, rfl⟩ : ∃ k : Nat, v = k := ⟨v.toNat, by omega⟩
      rw [show (4 : Int) = ((4 : Nat) : Int) from rfl, wholeT k 4 (by decide)]
      congr 1
      apply propext
      omega
    have hop : op = 0 ∨ op = 1 ∨ op = 2 ∨ (3 ≤ op ∧ op ≤ 14) ∨ op = 15 ∨ op = 16 ∨ op = 17 ∨ op = 18 ∨ op = 19 ∨ op = 20 ∨ op = 21 ∨ op = 22 ∨ op = 23 := by omega
    rcases hop with rfl | rfl | rfl | hop | rfl | rfl | rfl | rfl | rfl | rfl | rfl | rfl | rfl
    · rw [exec_0]; exact rdo_0 xb yb cB cU B r0 r1 r2 r3 r4 r5 r6 r7 b s pn hB hBy p1 w rB rU imm _ _ x y n hx hy i0 i1 hn hn' hrd rfl rfl va0 va1 vb0 vb1 o
    · rw [exec_1]; exact rdo_1 xb yb cB cU B r0 r1 r2 r3 r4 r5 r6 r7 b s pn hB hBy p1 w rB rU imm _ _ x y n hx hy i0 i1 hn hn' hrd rfl rfl va0 va1 vb0 vb1 o
    · rw [exec_2]; exact rdo_2 xb yb cB cU B r0 r1 r2 r3 r4 r5 r6 r7 b s pn hB hBy p1 w rB rU imm _ _ x y n hx hy i0 i1 hn hn' hrd rfl rfl va0 va1 vb0 vb1 o
    · cases hd : doK op (Cp.reg (⟨(pn : Int), [r0, r1, r2, r3, r4, r5, r6, r7], b, s⟩ : Cp) y)
      · rw [exec_n _ _ _ _ _ _ _ op hop hd]; exact rdo_trap xb yb cB cU B r0 r1 r2 r3 r4 r5 r6 r7 b s pn hB hBy p1 w rB rU op imm _ _ x y n hx hy i0 i1 hn hn' hrd rfl rfl va0 va1 vb0 vb1 o hop hd
      · rw [exec_y _ _ _ _ _ _ _ op hop hd]; exact rdo_sum xb yb cB cU B r0 r1 r2 r3 r4 r5 r6 r7 b s pn hB hBy p1 w rB rU op imm _ _ x y n hx hy i0 i1 hn hn' hrd rfl rfl va0 va1 vb0 vb1 o hop hd
    · by_cases hk : Cp.reg (⟨(pn : Int), [r0, r1, r2, r3, r4, r5, r6, r7], b, s⟩ : Cp) y + 4 ≤ 192
      · rw [exec_15y _ _ _ _ _ _ _ (by rw [wT _ vb0]; exact decide_eq_true hk)]; exact rdo_15yes xb yb cB cU B r0 r1 r2 r3 r4 r5 r6 r7 b s pn hB hBy p1 w rB rU imm _ _ x y n hx hy i0 i1 hn hn' hrd rfl rfl va0 va1 vb0 vb1 o hk
      · rw [exec_15n _ _ _ _ _ _ _ (by rw [wT _ vb0]; exact decide_eq_false hk)]
        by_cases hf : 100000 < Cp.reg (⟨(pn : Int), [r0, r1, r2, r3, r4, r5, r6, r7], b, s⟩ : Cp) y
        · exact rdo_15far xb yb cB cU B r0 r1 r2 r3 r4 r5 r6 r7 b s pn hB hBy p1 w rB rU imm _ _ x y n hx hy i0 i1 hn hn' hrd rfl rfl va0 va1 vb0 vb1 o hf
        · exact rdo_15no xb yb cB cU B r0 r1 r2 r3 r4 r5 r6 r7 b s pn hB hBy p1 w rB rU imm _ _ x y n hx hy i0 i1 hn hn' hrd rfl rfl va0 va1 vb0 vb1 o (by omega) (by omega)
    · by_cases hk : Cp.reg (⟨(pn : Int), [r0, r1, r2, r3, r4, r5, r6, r7], b, s⟩ : Cp) x + 4 ≤ 192
      · rw [exec_16y _ _ _ _ _ _ _ (by rw [wT _ va0]; exact decide_eq_true hk)]; exact rdo_16yes xb yb cB cU B r0 r1 r2 r3 r4 r5 r6 r7 b s pn hB hBy p1 w rB rU imm _ _ x y n hx hy i0 i1 hn hn' hrd rfl rfl va0 va1 vb0 vb1 o hk
      · rw [exec_16n _ _ _ _ _ _ _ (by rw [wT _ va0]; exact decide_eq_false hk)]
        by_cases hf : 100000 < Cp.reg (⟨(pn : Int), [r0, r1, r2, r3, r4, r5, r6, r7], b, s⟩ : Cp) x
        · exact rdo_16far xb yb cB cU B r0 r1 r2 r3 r4 r5 r6 r7 b s pn hB hBy p1 w rB rU imm _ _ x y n hx hy i0 i1 hn hn' hrd rfl rfl va0 va1 vb0 vb1 o hf
        · exact rdo_16no xb yb cB cU B r0 r1 r2 r3 r4 r5 r6 r7 b s pn hB hBy p1 w rB rU imm _ _ x y n hx hy i0 i1 hn hn' hrd rfl rfl va0 va1 vb0 vb1 o (by omega) (by omega)
    · rw [exec_17]; exact rdo_17 xb yb cB cU B r0 r1 r2 r3 r4 r5 r6 r7 b s pn hB hBy p1 w rB rU imm _ _ x y n hx hy i0 i1 hn hn' hrd rfl rfl va0 va1 vb0 vb1 o
    · rw [exec_18]; exact rdo_18 xb yb cB cU B r0 r1 r2 r3 r4 r5 r6 r7 b s pn hB hBy p1 w rB rU imm _ _ x y n hx hy i0 i1 hn hn' hrd rfl rfl va0 va1 vb0 vb1 o
    · rw [exec_19]
      show Calls _ _ _ _ (RDoP w xb yb cU ⟨⟨IntKind.u32.wrap (IntKind.u32.wrap ((pn : Int) + (n : Int)) + imm), _, _, _⟩, _, _, _⟩)
      rw [epc]
      exact rdo_19 xb yb cB cU B r0 r1 r2 r3 r4 r5 r6 r7 b s pn hB hBy p1 w rB rU imm _ _ x y n hx hy i0 i1 hn hn' hrd rfl rfl va0 va1 vb0 vb1 o
    · by_cases hz : Cp.reg (⟨(pn : Int), [r0, r1, r2, r3, r4, r5, r6, r7], b, s⟩ : Cp) x = 0
      · rw [exec_20y _ _ _ _ _ _ _ hz]
        show Calls _ _ _ _ (RDoP w xb yb cU ⟨⟨IntKind.u32.wrap (IntKind.u32.wrap ((pn : Int) + (n : Int)) + imm), _, _, _⟩, _, _, _⟩)
        rw [epc]
        exact rdo_20y xb yb cB cU B r0 r1 r2 r3 r4 r5 r6 r7 b s pn hB hBy p1 w rB rU imm _ _ x y n hx hy i0 i1 hn hn' hrd rfl rfl va0 va1 vb0 vb1 o (by simpa using hz)
      · rw [exec_20n _ _ _ _ _ _ _ hz]
        exact rdo_20n xb yb cB cU B r0 r1 r2 r3 r4 r5 r6 r7 b s pn hB hBy p1 w rB rU imm _ _ x y n hx hy i0 i1 hn hn' hrd rfl rfl va0 va1 vb0 vb1 o (by simpa using hz)
    · rw [exec_21]; exact rdo_21 xb yb cB cU B r0 r1 r2 r3 r4 r5 r6 r7 b s pn hB hBy p1 w rB rU imm _ _ x y n hx hy i0 i1 hn hn' hrd rfl rfl va0 va1 vb0 vb1 o
    · rw [exec_22]; exact rdo_22 xb yb cB cU B r0 r1 r2 r3 r4 r5 r6 r7 b s pn hB hBy p1 w rB rU imm _ _ x y n hx hy i0 i1 hn hn' hrd rfl rfl va0 va1 vb0 vb1 o
    · rw [exec_23]; exact rdo_23 xb yb cB cU B r0 r1 r2 r3 r4 r5 r6 r7 b s pn hB hBy p1 w rB rU imm _ _ x y n hx hy i0 i1 hn hn' hrd rfl rfl va0 va1 vb0 vb1 o
end Go.Proofs.Ytjcggpaiminecaa.Mm
