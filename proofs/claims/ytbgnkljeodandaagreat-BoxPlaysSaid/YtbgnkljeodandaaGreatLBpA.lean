/- The statement BoxRefuses, walked, over the contracts of package box (and the document's own Code, RC). -/
import Derived.Test.YtbgnkljeodandaaGreatLBxS
import Derived.Test.YtbgnkljeodandaaGreatLBoxSlA
import Derived.Test.YtbgnkljeodandaaGreatLBxA
namespace Go.Proofs.YtbgnkljeodandaaGreat.Mm
open Go.ChangeShapes Go.WideShapes Go.ChangeAt Go.RowKit
set_option linter.unusedVariables false
set_option linter.unusedSimpArgs false

theorem boxL (w : World) (a b c d e a' b' c' d' e' : Value) : ∃ W, (w.alloc (.cells #[a, b, c, d, e] 38)).alloc (.cells #[a', b', c', d', e'] 56) = W ∧ HasB W w.heap.size 38 [a, b, c, d, e] ∧ HasB W (w.heap.size + 1) 56 [a', b', c', d', e'] ∧ Below w.heap.size w W :=
 ⟨_, rfl, ((HasB.new w 38 [a, b, c, d, e]).below (bel_al (Below.refl _ _) _)), (by have := HasB.new (w.alloc (.cells #[a, b, c, d, e] 38)) 56 [a', b', c', d', e']; simpa using this), bel_al (bel_al (Below.refl _ _) _) _⟩
set_option maxRecDepth 10000 in
set_option maxHeartbeats 4000000 in
theorem same12_any (l : List Int) (tr : List Ev) (n k : Nat) (tk cd : Int) (ov : Bool) (hl : l.length = n) (ht : tr.length = k) (hn : n ≤ 100000) (hk : k ≤ 100000) (w : World) (A A' T T' : Option Addr) (ca ca' ct ct' : Nat)
    (r1 : KRow .u32 w A ca l) (r2 : KRow .u32 w A' ca' l) (e1 : EvRow w T ct tr) (e2 : EvRow w T' ct' tr) :
    Calls Tryz.prog 33 #[.agg #[.slice A n ca, .int .i64 tk, .slice T k ct, .bool ov, .int .u32 cd], .agg #[.slice A' n ca', .int .i64 tk, .slice T' k ct', .bool ov, .int .u32 cd]] w fun e w' => e = .returned (.int .i64 1) ∧ Below w.heap.size w w' := by
  obtain ⟨W, hW, h1, h2, bel⟩ := boxL w (.slice A n ca) (.int .i64 tk) (.slice T k ct) (.bool ov) (.int .u32 cd) (.slice A' n ca') (.int .i64 tk) (.slice T' k ct') (.bool ov) (.int .u32 cd)
  have H1 := Lib.hid h1
  have H2 := Lib.hid h2
  have BW := Lib.hid bel
  have R1 := Lib.hid (r1.below bel)
  have R2 := Lib.hid (r2.below bel)
  have E1 := Lib.hid (e1.below bel)
  have E2 := Lib.hid (e2.below bel)
  have HL := Lib.hid hl
  have HT := Lib.hid ht
  obtain ⟨a0, a1, a2, a3, a4⟩ := has5 h1
  obtain ⟨b0, b1, b2, b3, b4⟩ := has5 h2
  have hov : (ov != ov) = false := by cases ov <;> rfl
  clear h1 h2 bel r1 r2 e1 e2 hl ht
  go_enter Tryz.func33, Tryz.ntmps33
  go_wp2_with fail
  go_loopw [5] (fun i wr => ∃ (j : Nat), i = .int .i64 j ∧ j ≤ n ∧ Hid (Below W.heap.size W wr)) (fun i _ => n - (intOf i).toNat)
  case atStart => exact ⟨0, rfl, by omega, Lib.hid (Below.refl _ _)⟩
  case round =>
    obtain ⟨j, rfl, hj, HB⟩ := hrel
    clear a0 a1 a2 a3 a4 b0 b1 b2 b3 b4
    obtain ⟨a0, a1, a2, a3, a4⟩ := has5 (H1.out.below HB.out)
    obtain ⟨b0, b1, b2, b3, b4⟩ := has5 (H2.out.below HB.out)
    by_cases hlt : j < n
    · obtain ⟨x, rfl, cx, wx⟩ := (R1.out.below HB.out).at (by rw [HL.out]; exact hlt)
      obtain ⟨y, rfl, cy, wy⟩ := (R2.out.below HB.out).at (by rw [HL.out]; exact hlt)
      generalize l.getD j 0 = v at *
      clear wx wy
      go_wp2_with fail
      go_quiet (fail)
      go_wp2_with fail
      go_roundw
      case rel => exact ⟨j + 1, by go_num, by omega, Lib.hid (below_drewN HB.out _)⟩
      case measure => simp [intOf]; omega
    · obtain rfl : j = n := by omega
      go_wp2_with fail
      have B9 := Lib.hid HB.out
      generalize hq : wr = wq at *
      clear hq HB
      have BQ := Lib.hid (BW.out.trans (B9.out.mono BW.out.size))
      go_loopw [6] (fun i wr => ∃ (j : Nat), i = .int .i64 j ∧ j ≤ k ∧ Hid (Below wq.heap.size wq wr)) (fun i _ => k - (intOf i).toNat)
      case atStart => exact ⟨0, rfl, by omega, Lib.hid (Below.refl _ _)⟩
      case round =>
        obtain ⟨i, rfl, hi, HC⟩ := hrel
        have HB := Lib.hid (B9.out.trans (HC.out.mono B9.out.size))
        clear a0 a1 a2 a3 a4 b0 b1 b2 b3 b4
        obtain ⟨a0, a1, a2, a3, a4⟩ := has5 (H1.out.below HB.out)
        obtain ⟨b0, b1, b2, b3, b4⟩ := has5 (H2.out.below HB.out)
        by_cases hlt2 : i < k
        · obtain ⟨x, rfl, hxb, cx⟩ := (E1.out.below HB.out).2.2.2 (by intro e; have := HT.out; rw [e] at this; have h0 : (0 : Nat) = k := this; omega)
          obtain ⟨y, rfl, hyb, cy⟩ := (E2.out.below HB.out).2.2.2 (by intro e; have := HT.out; rw [e] at this; have h0 : (0 : Nat) = k := this; omega)
          have cx0 := (cx i (by rw [HT.out]; exact hlt2)).c0
          have cx1 := (cx i (by rw [HT.out]; exact hlt2)).c1
          have cy0 := (cy i (by rw [HT.out]; exact hlt2)).c0
          have cy1 := (cy i (by rw [HT.out]; exact hlt2)).c1
          generalize tr.getD i (0, 0) = v at *
          obtain ⟨v0, v1⟩ := v
          simp only at cx0 cx1 cy0 cy1
          clear cx cy
          go_wp2_with fail
          go_quiet (fail)
          go_wp2_with fail
          go_roundw
          case rel => exact ⟨i + 1, by go_num, by omega, Lib.hid (below_drewN HC.out _)⟩
          case measure => simp [intOf]; omega
        · obtain rfl : i = k := by omega
          go_wp2_with fail
          go_ret
          exact ⟨rfl, BW.out.trans (HB.out.mono BW.out.size)⟩
theorem of_cpL (pc r0 r1 r2 r3 r4 r5 r6 r7 b s : Int) (w : World) :
  Calls Tryz.prog 13 #[.agg #[.int .u32 pc, .int .u32 r0, .int .u32 r1, .int .u32 r2, .int .u32 r3, .int .u32 r4, .int .u32 r5, .int .u32 r6, .int .u32 r7, .int .u32 b, .int .u32 s]] w fun e w' =>
   e = .returned (.agg #[.int .u32 pc, .int .u32 r0, .int .u32 r1, .int .u32 r2, .int .u32 r3, .int .u32 r4, .int .u32 r5, .int .u32 r6, .int .u32 r7, .int .u32 b, .int .u32 s]) ∧ Below w.heap.size w w' := by
 go_enter Tryz.func13, Tryz.ntmps13
 go_wp2_with fail
 refine bodyPost_ret (v := .agg #[.int .u32 pc, .int .u32 r0, .int .u32 r1, .int .u32 r2, .int .u32 r3, .int .u32 r4, .int .u32 r5, .int .u32 r6, .int .u32 r7, .int .u32 b, .int .u32 s]) (by simp [results, Tryz.results13, go_sem]) rfl ⟨rfl, ?_⟩
 exact bel_al (bel_al (Below.refl _ _) _) _
theorem boxL2 (w : World) (cs ds : List Value) : ∃ W, (w.alloc (.cells cs.toArray 40)).alloc (.cells ds.toArray 58) = W ∧ HasB W w.heap.size 40 cs ∧ HasB W (w.heap.size + 1) 58 ds ∧ Below w.heap.size w W :=
 ⟨_, rfl, ((HasB.new w 40 cs).below (bel_al (Below.refl _ _) _)), (by have := HasB.new (w.alloc (.cells cs.toArray 40)) 58 ds; simpa using this), bel_al (bel_al (Below.refl _ _) _) _⟩
set_option maxRecDepth 10000 in
set_option maxHeartbeats 4000000 in
theorem same13_few (v0 v1 v2 v3 v4 v5 v6 v7 v8 v9 v10 : Int) (l : List Int) (tr : List Ev) (n k : Nat) (tk cd is wh : Int) (ov : Bool) (hl : l.length = n) (ht : tr.length = k) (hn : n ≤ 100000) (hk : k ≤ 100000) (w : World) (A A' T T' : Option Addr) (ca ca' ct ct' : Nat)
  (r1 : KRow .u32 w A ca l) (r2 : KRow .u32 w A' ca' l) (e1 : EvRow w T ct tr) (e2 : EvRow w T' ct' tr) :
  Calls Tryz.prog 19 #[.agg #[.int .u32 v0, .int .u32 v1, .int .u32 v2, .int .u32 v3, .int .u32 v4, .int .u32 v5, .int .u32 v6, .int .u32 v7, .int .u32 v8, .int .u32 v9, .int .u32 v10, .slice A n ca, .int .i64 tk, .slice T k ct, .bool ov, .int .u32 cd, .int .i64 is, .int .i64 wh], .agg #[.int .u32 v0, .int .u32 v1, .int .u32 v2, .int .u32 v3, .int .u32 v4, .int .u32 v5, .int .u32 v6, .int .u32 v7, .int .u32 v8, .int .u32 v9, .int .u32 v10, .slice A' n ca', .int .i64 tk, .slice T' k ct', .bool ov, .int .u32 cd, .int .i64 is, .int .i64 wh]] w fun e w' => e = .returned (.int .i64 1) ∧ Below w.heap.size w w' := by
 obtain ⟨W, hW, h1, h2, bel⟩ := boxL2 w [.int .u32 v0, .int .u32 v1, .int .u32 v2, .int .u32 v3, .int .u32 v4, .int .u32 v5, .int .u32 v6, .int .u32 v7, .int .u32 v8, .int .u32 v9, .int .u32 v10, .slice A n ca, .int .i64 tk, .slice T k ct, .bool ov, .int .u32 cd, .int .i64 is, .int .i64 wh] [.int .u32 v0, .int .u32 v1, .int .u32 v2, .int .u32 v3, .int .u32 v4, .int .u32 v5, .int .u32 v6, .int .u32 v7, .int .u32 v8, .int .u32 v9, .int .u32 v10, .slice A' n ca', .int .i64 tk, .slice T' k ct', .bool ov, .int .u32 cd, .int .i64 is, .int .i64 wh]
 have H1 := Lib.hid h1
 have H2 := Lib.hid h2
 have BW := Lib.hid bel
 have SC := Lib.hid (fun W' (b : Below W.heap.size W W') => same12_any l tr n k tk cd ov hl ht hn hk W' A A' T T' ca ca' ct ct' ((r1.below bel).below b) ((r2.below bel).below b) ((e1.below bel).below b) ((e2.below bel).below b))
 have KE := Lib.hid (h1.below (Below.refl _ W).drew)
 have KO := Lib.hid (h2.below (Below.refl _ W).drew)
 have E8 := fun w => eq8B v1 v2 v3 v4 v5 v6 v7 v8 w
 obtain ⟨a0, a1, a2, a3, a4, a5, a6, a7, a8, a9, a10, a11, a12, a13, a14, a15, a16, a17⟩ := has18 h1
 obtain ⟨b0, b1, b2, b3, b4, b5, b6, b7, b8, b9, b10, b11, b12, b13, b14, b15, b16, b17⟩ := has18 h2
 clear h1 h2 bel r1 r2 e1 e2 hl ht
 go_enter Tryz.func19, Tryz.ntmps19
 go_upto_region 1 with fail
 go_cut [24] from 5 to 24 (fun s24 wx => s24 = .bool false ∧ Below W.heap.size W wx)
 case first =>
  go_region_with (first | (go_at_call 13; (with_reducible refine (of_cpL v0 v1 v2 v3 v4 v5 v6 v7 v8 v9 v10 _).mono ?_); rintro e wq ⟨rfl, hbq⟩; have KE2 := HasB.below (w := W.drew) KE.out hbq; have KO2 := HasB.below (w := W.drew) KO.out hbq; obtain ⟨j0, j1, j2, j3, j4, j5, j6, j7, j8, j9, j10, j11, j12, j13, j14, j15, j16, j17⟩ := has18 KE2; obtain ⟨i0, i1, i2, i3, i4, i5, i6, i7, i8, i9, i10, i11, i12, i13, i14, i15, i16, i17⟩ := has18 KO2; have HBQ := Lib.hid (show Below W.heap.size W wq from bel_then (Below.refl _ _).drew hbq); clear KE2 KO2 hbq))
  all_goals go_wp2_with fail
  all_goals go_meet
  all_goals exact ⟨rfl, HBQ.out⟩
 case rest =>
  obtain ⟨rfl, hbc⟩ := hcut
  have BC := Lib.hid hbc
  clear a0 a1 a2 a3 a4 a5 a6 a7 a8 a9 a10 a11 a12 a13 a14 a15 a16 a17 b0 b1 b2 b3 b4 b5 b6 b7 b8 b9 b10 b11 b12 b13 b14 b15 b16 b17 E8 KE KO
  obtain ⟨-, -, -, -, -, -, -, -, -, -, -, a11, a12, a13, a14, a15, -, -⟩ := has18 (H1.out.below hbc)
  obtain ⟨-, -, -, -, -, -, -, -, -, -, -, b11, b12, b13, b14, b15, -, -⟩ := has18 (H2.out.below hbc)
  clear hbc
  go_wp2_with fail
  refine (SC.out _ BC.out).mono ?_; rintro e w9 ⟨rfl, hb9⟩
  go_wp2_with fail
  go_ret
  exact ⟨rfl, BW.out.trans ((bel_then BC.out hb9).mono BW.out.size)⟩
theorem same13_any {x : Bx} (o : x.Ok) (ht : x.W.tr.length ≤ 100000) (w : World) (A A' T T' : Option Addr) (ca ca' ct ct' : Nat)
  (r1 : KRow .u32 w A ca x.W.rep) (r2 : KRow .u32 w A' ca' x.W.rep) (e1 : EvRow w T ct x.W.tr) (e2 : EvRow w T' ct' x.W.tr) :
  Calls Tryz.prog 19 #[x.val A ca T ct, x.val A' ca' T' ct'] w fun e w' => e = .returned (.int .i64 1) ∧ Below w.heap.size w w' := by
 obtain ⟨v0, v1, v2, v3, v4, v5, v6, v7, v8, v9, v10, _, hcs⟩ := bx_cs o.c
 unfold Bx.val
 rw [hcs, hcs]
 exact same13_few v0 v1 v2 v3 v4 v5 v6 v7 v8 v9 v10 x.W.rep x.W.tr _ _ x.W.tk x.W.cd x.is x.wh x.W.ov rfl rfl o.rep ht w A A' T T' ca ca' ct ct' r1 r2 e1 e2
theorem wpl_unguard {P : Program} {w : World} {ops : Array Oper} {rest : List Oper} {o : Oper} {a : Act} {Q : Exit → Act → World → Prop} (hw : Region.wanted o (yielded ops a.tmps) = true) (h : wpList P ops Q ({ o with guard := none } :: rest) a w) : wpList P ops Q (o :: rest) a w := by
 unfold wpList at h ⊢
 rw [if_pos (by simp [Region.wanted])] at h
 rw [if_pos hw]
 exact h
theorem rbox_size : (Tryz.prog.info? 58).map (·.size) = some 18 := by kernel_rfl
theorem MSt.keep1 {w0 w w' : World} {p g h j : Nat} {B : List Int} {T : List Bool} (s : MSt w0 p g h B T w) (c : Chg j j w w') (h1 : p ≠ j) (h2 : g ≠ j) (h3 : h ≠ j) (hj : w0.heap.size ≤ j) : MSt w0 p g h B T w' :=
 ⟨s.at_.chg c h1 h1 h2 h2 h3 h3, s.p_, s.g_, s.h_, c.below s.bel s.bel.size hj hj⟩
theorem newK_cases (C D : List Int) : (verE C ≠ 0 ∧ newK C D = verE C) ∨ (verE C = 0 ∧ (480 < C.length ∨ 512 < D.length) ∧ newK C D = 4) ∨ (verE C = 0 ∧ C.length ≤ 480 ∧ D.length ≤ 512 ∧ newK C D = 0) := by
  have hp : powS (1024 : Int) = true := by decide
  have hr : rgtB [((1024 : Int), (1024 : Int))] 4096 = true := reg_one (by omega) (by omega) (by unfold regB; simp [powS])
  unfold newK newE
  by_cases h1 : verE C = 0
  · rw [if_neg (by simp [h1])]
    simp only [hp, hr, Bool.true_and]
    by_cases h2 : (480 < C.length ∨ 512 < D.length)
    · refine .inr (.inl ⟨h1, h2, ?_⟩)
      rw [if_pos]
      rw [Bool.and_eq_false_iff]
      rcases h2 with h | h
      · exact .inl (decide_eq_false (by omega))
      · exact .inr (decide_eq_false (by omega))
    · refine .inr (.inr ⟨h1, by omega, by omega, ?_⟩)
      rw [if_neg, if_neg (by simp)]
      rw [decide_eq_true (by omega), decide_eq_true (by omega)]
      simp
  · exact .inl ⟨h1, by rw [if_pos h1]⟩
theorem rg_start (C D : List Int) (hc : C.length ≤ 480) (hd : D.length ≤ 512) : RgB (newB (List.replicate (64 * 64) 0) (1024, 1024) C D) (splice (splice (List.replicate 2200 0) 1024 C) 1536 D) 1024 2048 := by
  have e : newB (List.replicate (64 * 64) 0) (1024, 1024) C D = splice (splice (splice (List.replicate 4096 0) 1024 (List.replicate 1024 0)) 1024 C) 1536 D := rfl
  rw [e]
  have l1 : (List.replicate 4096 (0 : Int)).length = 4096 := List.length_replicate
  have l2 : (List.replicate 2200 (0 : Int)).length = 2200 := List.length_replicate
  have l0 : (List.replicate 1024 (0 : Int)).length = 1024 := List.length_replicate
  have z1 : ∀ i, (List.replicate 4096 (0 : Int)).getD i 0 = 0 := fun i => by rw [List.getD_eq_getElem?_getD, List.getElem?_replicate]; split <;> rfl
  have z2 : ∀ i, (List.replicate 2200 (0 : Int)).getD i 0 = 0 := fun i => by rw [List.getD_eq_getElem?_getD, List.getElem?_replicate]; split <;> rfl
  have z0 : ∀ i, (List.replicate 1024 (0 : Int)).getD i 0 = 0 := fun i => by rw [List.getD_eq_getElem?_getD, List.getElem?_replicate]; split <;> rfl
  generalize List.replicate 4096 (0 : Int) = X at *
  generalize List.replicate 2200 (0 : Int) = Y at *
  generalize List.replicate 1024 (0 : Int) = Z at *
  have a1 := splice_len X 1024 Z (by omega)
  have a2 := splice_len (splice X 1024 Z) 1024 C (by omega)
  have a3 := splice_len (splice (splice X 1024 Z) 1024 C) 1536 D (by omega)
  have b2 := splice_len Y 1024 C (by omega)
  have b3 := splice_len (splice Y 1024 C) 1536 D (by omega)
  refine ⟨fun i h1 h2 => ?_, by omega, by omega⟩
  rw [splice_getD _ _ _ _ (by omega), splice_getD _ _ _ _ (by omega), splice_getD _ _ _ _ (by omega), splice_getD _ _ _ _ (by omega), splice_getD _ _ _ _ (by omega), z1, z2, z0]
  split
  · rfl
  · split
    · rfl
    · split <;> rfl
theorem rowB {w : World} {g : Nat} {l : List Int} (h : HasB w g 5 (l.map (Value.int .u8))) (hb : Bytes l) (hm : l.length ≤ maxLen) : RowAt w (some ⟨g, 0, none⟩) l.length l := by
 refine ⟨Nat.le_refl _, hm, hb, fun _ => ⟨_, rfl, h.lt, fun i hi => ?_⟩⟩
 have e : (⟨g, 0, none⟩ : Addr).add i = ⟨g, i, none⟩ := by
  unfold Addr.add
  by_cases h0 : i = 0
  · subst h0; rfl
  · rw [if_neg h0]; simp
 rw [e, h.cell i, List.getElem?_map, List.getD_eq_getElem?_getD, List.getElem?_eq_getElem hi]; rfl
theorem blB_ {w : World} {g : Nat} {l : List Bool} (h : HasB w g 4 (l.map Value.bool)) (hm : l.length ≤ maxLen) : BlAt w (some ⟨g, 0, none⟩) l.length l := by
 refine ⟨Nat.le_refl _, hm, _, rfl, h.lt, fun i hi => ?_⟩
 have e : (⟨g, 0, none⟩ : Addr).add i = ⟨g, i, none⟩ := by
  unfold Addr.add
  by_cases h0 : i = 0
  · subst h0; rfl
  · rw [if_neg h0]; simp
 rw [e, h.cell i, List.getElem?_map, List.getD_eq_getElem?_getD, List.getElem?_eq_getElem hi]; rfl
theorem cut_r {w : World} {xb cB : Nat} {B : List Int} (r : RowAt w (some ⟨xb, 0, none⟩) cB B) (hB : B.length = 2200) :
    ∃ AS cs, (∀ W, (Instr.slice 22 (.slice (some ⟨xb, 0, none⟩) 2200 cB) (some (.int .i64 1024)) (some (.int .i64 2048)) none).run Tryz.prog W = .ok (.slice AS 1024 cs) W) ∧ ∀ w', Below w.heap.size w w' → RowAt w' AS cs ((B.drop 1024).take 1024) := by
  have hc := r.1
  refine ⟨some ((⟨xb, 0, none⟩ : Addr).add (1024 * 1)), cB - 1024, fun W => ?_, fun w' hb => ?_⟩
  · rw [run_slice_lh W 22 _ 2200 cB u8_el .i64 .i64 1024 2048 (by omega) (by omega) (by omega), u8_sz]
    have e : ¬ cB = 1024 := by omega
    simp [Result.andThen, sliced, e]
  · rw [Nat.mul_one]
    exact row_take (row_drop (r.below hb) 1024) 1024
theorem slF_rep (T : List Bool) (n : Nat) : ∀ (x : Bx) (B : List Int), (slF T n x B).1.W.rep = x.W.rep := by
  induction n with
  | zero => intro x B; rfl
  | succ n ih =>
    intro x B
    by_cases hx : x.is = 0
    · cases hy : yldB T x B
      · rw [slF_step n hx hy]; exact (ih _ _).trans (bxS_rep _ _ _)
      · rw [slF_yld n hx hy]; exact bxS_rep _ _ _
    · rw [slF_over _ hx]
theorem RfI.more {T : List Bool} {n0 : Nat} {x : Bx} {B : List Int} (h : RfI T n0 x B) (m : Nat) : RfI T (n0 + m) x B := by
 obtain ⟨Bp, i, e, b, l⟩ := h
 exact ⟨Bp, ⟨i.ok, i.b, i.s, i.byt, i.len, by have := i.tr; omega⟩, e, b, l⟩
theorem ref_n {T : List Bool} (hT : RgT T 1024 2048) (n : Nat) : ∀ {n0 : Nat} {x : Bx} {B : List Int}, RfI T n0 x B → RfI T (n0 + n) (slF T22 n x B).1 (slF T22 n x B).2.1 := by
  induction n with
  | zero => intro n0 x B h; exact h
  | succ n ih =>
    intro n0 x B h
    by_cases hx : x.is = 0
    · have j := ref_i hT h hx
      cases hy : yldB T22 x B
      · rw [slF_step n hx hy]
        have := ih j
        rw [show n0 + 1 + n = n0 + (n + 1) by omega] at this
        exact this
      · rw [slF_yld n hx hy]
        have := j.more n
        rw [show n0 + 1 + n = n0 + (n + 1) by omega] at this
        exact this
    · rw [slF_over _ hx]
      exact h.more _
structure PlR (w : World) (p g h b1 b2 b3 : Nat) (T : List Bool) (yb cU : Nat) (R0 : Option Addr) (cr : Nat) (n0 : Nat) (x : Bx) (B Bf : List Int) (QA : Option Addr) (qc : Nat) (TA : Option Addr) (tc : Nat) (TB : Option Addr) (tb xb cB : Nat) (wr : World) : Prop where
 i : BxI T 1024 2048 n0 x B
 eq : RgB B Bf 1024 2048
 by_ : Bytes Bf
 len : Bf.length = 2200
 s : MSt w p g h B T wr
 k1 : HasB wr b1 40 (x.cs QA qc TA tc)
 k2 : HasB wr b2 50 [.slice (some ⟨xb, 0, none⟩) 2200 cB, .slice (some ⟨yb, 0, none⟩) 2200 cU]
 k3 : HasB wr b3 58 (x.cs R0 cr TB tb)
 ra : KRow .u32 wr QA qc x.W.rep
 ta : EvRow wr TA tc x.W.tr
 rb : KRow .u32 wr R0 cr x.W.rep
 tb_ : EvRow wr TB tb x.W.tr
 rx : RowAt wr (some ⟨xb, 0, none⟩) cB Bf
 ry : BlAt wr (some ⟨yb, 0, none⟩) cU U22
 oa : ∀ j, j = b1 ∨ j = b2 ∨ j = b3 → (x.W.rep = [] ∨ Off QA j) ∧ (x.W.tr = [] ∨ Off TA j)
 ob : ∀ j, j = g ∨ j = b1 ∨ j = b2 ∨ j = b3 → (x.W.rep = [] ∨ Off R0 j) ∧ (x.W.tr = [] ∨ Off TB j) ∧ xb ≠ j ∧ yb ≠ j
 d : g < b1 ∧ b1 < b2 ∧ b2 < b3 ∧ w.heap.size ≤ g ∧ p ≠ b1 ∧ p ≠ b2 ∧ p ≠ b3 ∧ h ≠ b1 ∧ h ≠ b2 ∧ h ≠ b3
theorem PlR.f {w : World} {p g h b1 b2 b3 : Nat} {T : List Bool} {yb cU : Nat} {R0 : Option Addr} {cr n0 : Nat} {x : Bx} {B Bf : List Int} {QA : Option Addr} {qc : Nat} {TA : Option Addr} {tc : Nat} {TB : Option Addr} {tb xb cB : Nat} {wr : World}
  (k : PlR w p g h b1 b2 b3 T yb cU R0 cr n0 x B Bf QA qc TA tc TB tb xb cB wr) : RfI T n0 x Bf := ⟨B, k.i, k.eq, k.by_, k.len⟩
def RCodeC : Prop := ∀ (A : Option Addr) (cap n : Nat) (code : List Int), code.length = n → ∀ w : World, RowAt w A cap code → Calls Tryz.prog 12 #[.slice A n cap] w fun e w' => e = .returned (.int .i64 (verE code)) ∧ Below w.heap.size w w'
end Go.Proofs.YtbgnkljeodandaaGreat.Mm
