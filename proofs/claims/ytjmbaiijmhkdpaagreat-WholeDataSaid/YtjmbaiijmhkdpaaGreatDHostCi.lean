/- The program's own host: Box, Bytes. -/
import Derived.Test.YtjmbaiijmhkdpaaGreatDHostCg
namespace Go.Proofs.YtjmbaiijmhkdpaaGreat.Mm
open Go.ChangeShapes Go.WideShapes Go.ChangeAt Go.RowKit
set_option linter.unusedVariables false
set_option linter.unusedSimpArgs false
set_option maxRecDepth 10000
set_option maxHeartbeats 4000000
def BoxOut (w : World) (x : Bx) (E : Int) (e : Ending) (w' : World) : Prop := Below w.heap.size w w' ∧ ∃ RA rc TA tc, e = .returned (.tuple #[x.val RA rc TA tc, .int .i64 E]) ∧ KRow .u32 w' RA rc x.W.rep ∧ EvRow w' TA tc x.W.tr ∧ (∀ a, RA = some a → w.heap.size ≤ a.block) ∧ (∀ a, TA = some a → w.heap.size ≤ a.block)
theorem cs_11 {x : Bx} (o : x.c.Ok) (RA : Option Addr) (rc : Nat) (TA : Option Addr) (tc : Nat) : (x.cs RA rc TA tc)[11]? = some (.slice RA x.W.rep.length rc) := by
  obtain ⟨v0, v1, v2, v3, v4, v5, v6, v7, v8, v9, v10, h1, h2⟩ := bx_cs o
  rw [h2]; rfl
theorem cs_both {x : Bx} (o : x.c.Ok) (RA : Option Addr) (rc : Nat) (TA : Option Addr) (tc : Nat) (RB : Option Addr) (rb : Nat) (TB : Option Addr) (tb : Nat) : ((x.cs RA rc TA tc).set 11 (.slice RB x.W.rep.length rb)).set 13 (.slice TB x.W.tr.length tb) = x.cs RB rb TB tb := by
  obtain ⟨v0, v1, v2, v3, v4, v5, v6, v7, v8, v9, v10, h1, h2⟩ := bx_cs o
  rw [h2, h2]; rfl
set_option maxHeartbeats 16000000 in
theorem box_w (w : World) (hp : Option Addr) (id : Int) (x : Bx) (OX0 : x.c.Ok) (E : Int) (RA : Option Addr) (rc : Nat) (TA : Option Addr) (tc : Nat) (KR : KRow .u32 w RA rc x.W.rep) (TR : EvRow w TA tc x.W.tr) (h1 : x.W.rep.length ≤ 100000) (h2 : x.W.tr.length ≤ 100000)
    (FC : ∀ w', Below w.heap.size w w' → Calls Tryz.prog 38 #[.pointer hp, .int .i64 id] w' fun e w2 => e = .returned (.tuple #[.agg (x.cs RA rc TA tc).toArray, .int .i64 E]) ∧ Below w'.heap.size w' w2) :
    Calls Tryz.prog 22 #[.pointer hp, .int .i64 id] w (BoxOut w x E) := by
  have OX := Lib.hid OX0
  obtain ⟨rn, hrn⟩ : ∃ rn, x.W.rep.length = rn := ⟨_, rfl⟩
  obtain ⟨tn, htn⟩ : ∃ tn, x.W.tr.length = tn := ⟨_, rfl⟩
  have C11' := cs_11 OX0 RA rc TA tc
  have C13' := cs_13 OX0 RA rc TA tc
  have CSS' := fun RB rb TB tb => cs_both OX0 RA rc TA tc RB rb TB tb
  have L0' := bx_len OX0 RA rc TA tc
  rw [hrn] at C11' CSS'
  rw [htn] at C13' CSS'
  obtain ⟨cs0, hcs0⟩ : ∃ cs0, x.cs RA rc TA tc = cs0 := ⟨_, rfl⟩
  rw [hcs0] at C11' C13' CSS' L0' FC
  have C11 := Lib.hid C11'
  have C13 := Lib.hid C13'
  have CSS := Lib.hid CSS'
  have LL := Lib.hid L0'
  have ZL := Lib.hid z_len
  have CU := Lib.hid (fun w' (b : Below w.heap.size w w') => clone_code RA rc rn x.W.rep hrn (by omega) w' (KR.below b))
  have CE := Lib.hid (fun w' (b : Below w.heap.size w w') => clone_ev TA tc tn x.W.tr htn (by omega) w' (TR.below b))
  obtain ⟨W0, e0, X0, B0⟩ : ∃ W0, w.alloc (.cells ([.int .u32 0, .int .u32 0, .int .u32 0, .int .u32 0, .int .u32 0, .int .u32 0, .int .u32 0, .int .u32 0, .int .u32 0, .int .u32 0, .int .u32 0, .slice none 0 0, .int .i64 0, .slice none 0 0, .bool false, .int .u32 0, .int .i64 0, .int .i64 0] : List Value).toArray 63) = W0 ∧ Hid (HasB W0 w.heap.size 63 [.int .u32 0, .int .u32 0, .int .u32 0, .int .u32 0, .int .u32 0, .int .u32 0, .int .u32 0, .int .u32 0, .int .u32 0, .int .u32 0, .int .u32 0, .slice none 0 0, .int .i64 0, .slice none 0 0, .bool false, .int .u32 0, .int .i64 0, .int .i64 0]) ∧ Hid (Below w.heap.size w W0 ∧ w.heap.size < W0.heap.size) :=
    ⟨_, rfl, Lib.hid (HasB.new w 63 [.int .u32 0, .int .u32 0, .int .u32 0, .int .u32 0, .int .u32 0, .int .u32 0, .int .u32 0, .int .u32 0, .int .u32 0, .int .u32 0, .int .u32 0, .slice none 0 0, .int .i64 0, .slice none 0 0, .bool false, .int .u32 0, .int .i64 0, .int .i64 0]), Lib.hid ⟨bel_al (Below.refl w.heap.size w) _, by simp⟩⟩
  have F0 := Lib.hid (FC W0 B0.out.1)
  clear OX0 C11' C13' CSS' L0' hcs0 FC KR TR h1 h2 hrn htn
  go_enter Tryz.func22, Tryz.ntmps22
  go_wp2_with fail
  refine F0.out.mono ?_; rintro e w1 ⟨rfl, b1⟩
  obtain ⟨jb, hjb⟩ : ∃ jb, w1.heap.size = jb := ⟨_, rfl⟩
  have X1 := Lib.hid (X0.out.below b1)
  obtain ⟨W2, e2, X2, Y2, B2, SJ⟩ : ∃ W2, w1.alloc (.cells ([.int .u32 0, .int .u32 0, .int .u32 0, .int .u32 0, .int .u32 0, .int .u32 0, .int .u32 0, .int .u32 0, .int .u32 0, .int .u32 0, .int .u32 0, .slice none 0 0, .int .i64 0, .slice none 0 0, .bool false, .int .u32 0, .int .i64 0, .int .i64 0] : List Value).toArray 63) = W2 ∧ Hid (HasB W2 jb 63 [.int .u32 0, .int .u32 0, .int .u32 0, .int .u32 0, .int .u32 0, .int .u32 0, .int .u32 0, .int .u32 0, .int .u32 0, .int .u32 0, .int .u32 0, .slice none 0 0, .int .i64 0, .slice none 0 0, .bool false, .int .u32 0, .int .i64 0, .int .i64 0]) ∧ Hid (HasB W2 w.heap.size 63 [.int .u32 0, .int .u32 0, .int .u32 0, .int .u32 0, .int .u32 0, .int .u32 0, .int .u32 0, .int .u32 0, .int .u32 0, .int .u32 0, .int .u32 0, .slice none 0 0, .int .i64 0, .slice none 0 0, .bool false, .int .u32 0, .int .i64 0, .int .i64 0]) ∧ Hid (Below w.heap.size w W2) ∧ Hid (w.heap.size ≤ jb ∧ w.heap.size ≠ jb) := by
    have b := bel_al (Below.refl w1.heap.size w1) (.cells ([.int .u32 0, .int .u32 0, .int .u32 0, .int .u32 0, .int .u32 0, .int .u32 0, .int .u32 0, .int .u32 0, .int .u32 0, .int .u32 0, .int .u32 0, .slice none 0 0, .int .i64 0, .slice none 0 0, .bool false, .int .u32 0, .int .i64 0, .int .i64 0] : List Value).toArray 63)
    exact ⟨_, rfl, Lib.hid (by rw [← hjb]; exact HasB.new w1 63 [.int .u32 0, .int .u32 0, .int .u32 0, .int .u32 0, .int .u32 0, .int .u32 0, .int .u32 0, .int .u32 0, .int .u32 0, .int .u32 0, .int .u32 0, .slice none 0 0, .int .i64 0, .slice none 0 0, .bool false, .int .u32 0, .int .i64 0, .int .i64 0]), Lib.hid (X1.out.below b), Lib.hid (bel_then (bel_then B0.out.1 b1) b), Lib.hid (by have := X1.out.lt; omega)⟩
  clear b1 F0 X1 X0
  dsimp only
  go_wp2_with (first
    | (refine st_any rfl 63 (.tmp 6) (.tmp 12) rfl rfl jb [.int .u32 0, .int .u32 0, .int .u32 0, .int .u32 0, .int .u32 0, .int .u32 0, .int .u32 0, .int .u32 0, .int .u32 0, .int .u32 0, .int .u32 0, .slice none 0 0, .int .i64 0, .slice none 0 0, .bool false, .int .u32 0, .int .i64 0, .int .i64 0] cs0 (by rfl) (by rfl) X2.out (by rw [LL.out.1]; rfl) (by rw [LL.out.1]; kernel_rfl) LL.out.2 ?_; intro W3 r3 c3
       have X3 := Lib.hid r3
       have Y3 := Lib.hid (Y2.out.chg c3 SJ.out.2 SJ.out.2)
       have B3 := Lib.hid (Below.trans B2.out (Below.ofNew c3 B2.out.size SJ.out.1))
       clear r3 c3))
  have XB0 := Lib.hid (X3.out.below (Below.refl _ _).drew)
  have BQ0 := Lib.hid (bel_then B3.out (Below.refl _ _).drew)
  have YL := Lib.hid (Y3.out.below (Below.refl _ _).drew)
  have XL := Lib.hid (fun w6 (b : Below W3.drew.heap.size W3.drew w6) => YL.out.below b)
  have d11 := XB0.out.cell 11
  have d13 := XB0.out.cell 13
  rw [C11.out] at d11
  rw [C13.out] at d13
  have BR := Lib.hid (Below.refl W3.drew.heap.size W3.drew)
  clear X2 Y2 B2 X3 Y3 B3
  go_wp2_with fail
  refine wp_region_noPanic ?_
  refine wp_region_held_drew (S := (fun _ => True)) (by kernel_rfl) ?_ (fun hHeld => ?_)
  · (try dsimp only)
    all_goals exact trivial
  refine wT 0 ?_
  refine wT 1 ?_
  refine wT 4 ?_
  refine wT 5 ?_
  refine wpAnyH_ready (rs := [2, 6]) (by kernel_rfl) (by simp) ?_
  refine rC (fun K hK => ?_) ?_
  · go_simp
    refine hK.out _ _ ?_ (fun hHeld => ?_)
    · (try dsimp only)
      all_goals exact trivial
    clear hK K
    (try simp only [Act.put, lsA, lsZ, lsS])
    refine wpAnyH_ready (rs := [3, 6]) (by kernel_rfl) (by simp) ?_
    refine rC (fun K hK => ?_) ?_
    · go_simp
      (with_reducible refine (CU.out _ BQ0.out).mono ?_)
      rintro e w5 ⟨R9, c9, rfl, k9, b9, n9⟩
      have HB5 := Lib.hid (XB0.out.below b9)
      have d13 := HB5.out.cell 13
      rw [C13.out] at d13
      have BQ5 := Lib.hid (bel_then BQ0.out b9)
      have K9 := Lib.hid k9
      have N9 := Lib.hid (fun (a : Addr) (ha : R9 = some a) => (Nat.lt_of_lt_of_le YL.out.lt (n9 a ha) : w.heap.size < a.block))
      have BR5 := Lib.hid b9
      have KJ := Lib.hid (fun (a : Addr) (ha : R9 = some a) => (by have := n9 a ha; have := XB0.out.lt; omega : a.block ≠ jb))
      clear k9 b9 n9
      refine hK.out _ _ ?_ (fun hHeld => ?_)
      · (try dsimp only)
        all_goals exact trivial
      clear hK K
      (try simp only [Act.put, lsA, lsZ, lsS])
      refine wpAnyH_ready (rs := [6]) (by kernel_rfl) (by simp) ?_
      refine rC (fun K hK => ?_) ?_
      · go_simp
        refine hK.out _ _ ?_ (fun hHeld => ?_)
        · (try dsimp only)
          all_goals exact trivial
        clear hK K
        (try simp only [Act.put, lsA, lsZ, lsS])
        refine wT 8 ?_
        refine wT 9 ?_
        refine wpAnyH_ready (rs := [7]) (by kernel_rfl) (by simp) ?_
        refine rC (fun K hK => ?_) ?_
        · go_simp
          (with_reducible refine (CE.out _ BQ5.out).mono ?_)
          rintro e w6 ⟨T9, t9, rfl, e9, b9, n9⟩
          have HB6 := Lib.hid (HB5.out.below b9)
          have d11 := HB6.out.cell 11
          rw [C11.out] at d11
          have f11 := HB6.out.frozen 11
          have BQ6 := Lib.hid (bel_then BQ5.out b9)
          have K6 := Lib.hid (K9.out.below b9)
          have E6 := Lib.hid e9
          have M9 := Lib.hid (fun (a : Addr) (ha : T9 = some a) => (Nat.lt_of_lt_of_le (Nat.lt_of_lt_of_le YL.out.lt BR5.out.size) (n9 a ha) : w.heap.size < a.block))
          have BR6 := Lib.hid (bel_then BR5.out b9)
          have EJ := Lib.hid (fun (a : Addr) (ha : T9 = some a) => (by have := n9 a ha; have := HB5.out.lt; omega : a.block ≠ jb))
          clear e9 b9 n9
          obtain ⟨W7, e7, H7, C7⟩ : ∃ W7, w6.setCell ⟨jb, 11, none⟩ (.slice R9 rn c9) = W7 ∧ Hid (HasB W7 jb 63 (cs0.set 11 (.slice R9 rn c9))) ∧ Hid (Chg jb jb w6 W7) := ⟨_, rfl, Lib.hid (has_set HB6.out 11 _), Lib.hid (chg_set (Chg.refl _ _ _) _ (.inl rfl) _ _)⟩
          have d13b := H7.out.cell 13
          rw [List.getElem?_set_ne (by decide), C13.out] at d13b
          have f13 := H7.out.frozen 13
          obtain ⟨W8, e8, H8, C8⟩ : ∃ W8, W7.setCell ⟨jb, 13, none⟩ (.slice T9 tn t9) = W8 ∧ Hid (HasB W8 jb 63 ((cs0.set 11 (.slice R9 rn c9)).set 13 (.slice T9 tn t9))) ∧ Hid (Chg jb jb W7 W8) := ⟨_, rfl, Lib.hid (has_set H7.out 13 _), Lib.hid (chg_set (Chg.refl _ _ _) _ (.inl rfl) _ _)⟩
          refine hK.out _ _ ?_ (fun hHeld => ?_)
          · (try dsimp only)
            all_goals exact trivial
          clear hK K
          (try simp only [Act.put, lsA, lsZ, lsS])
          refine wpAnyH_ready (rs := [10]) (by kernel_rfl) (by simp) ?_
          refine rC (fun K hK => ?_) ?_
          · go_simp
            (try rw [e7])
            refine hK.out _ _ ?_ (fun hHeld => ?_)
            · (try dsimp only)
              all_goals exact trivial
            clear hK K
            (try simp only [Act.put, lsA, lsZ, lsS])
            refine wT 11 ?_
            refine wT 12 ?_
            refine wpAnyH_ready (rs := [13]) (by kernel_rfl) (by simp) ?_
            refine rC (fun K hK => ?_) ?_
            · go_simp
              (try rw [e8])
              refine hK.out _ _ ?_ (fun hHeld => ?_)
              · (try dsimp only)
                all_goals exact trivial
              clear hK K
              (try simp only [Act.put, lsA, lsZ, lsS])
              refine wpAnyH_done (by kernel_rfl) ?_ _
              refine NoPanic.normal ?_
              clear hHeld
              have HC := Lib.hid (CSS.out R9 c9 T9 t9)
              have H8' : Hid (HasB W8 jb 63 (x.cs R9 c9 T9 t9)) := Lib.hid (by rw [← HC.out]; exact H8.out)
              have LX := Lib.hid (bx_len OX.out R9 c9 T9 t9)
              have K8 := Lib.hid ((K6.out.off C7.out (.inr KJ.out)).off C8.out (.inr KJ.out))
              have E8 := Lib.hid ((E6.out.off C7.out (.inr EJ.out)).off C8.out (.inr EJ.out))
              have B8 := Lib.hid (Below.trans (Below.trans BQ6.out (Below.ofNew C7.out BQ6.out.size SJ.out.1)) (Below.ofNew C8.out (Nat.le_trans BQ6.out.size C7.out.size) SJ.out.1))
              have X8 : Hid (HasB W8 w.heap.size 63 [.int .u32 0, .int .u32 0, .int .u32 0, .int .u32 0, .int .u32 0, .int .u32 0, .int .u32 0, .int .u32 0, .int .u32 0, .int .u32 0, .int .u32 0, .slice none 0 0, .int .i64 0, .slice none 0 0, .bool false, .int .u32 0, .int .i64 0, .int .i64 0]) := Lib.hid (((XL.out w6 BR6.out).chg C7.out SJ.out.2 SJ.out.2).chg C8.out SJ.out.2 SJ.out.2)
              obtain ⟨c2, hc2⟩ : ∃ c2, x.cs R9 c9 T9 t9 = c2 := ⟨_, rfl⟩
              rw [hc2] at H8' LX
              have HC2 := Lib.hid hc2
              clear hc2
              go_wp2_with (first
                | (refine ld_any rfl 63 (.tmp 6) rfl jb (by rfl) c2 H8'.out rfl Tryz.underlying63 (by rw [LX.out.1]; kernel_rfl) ?_)
                | (refine st_any rfl 63 (.tmp 4) (.tmp 26) rfl rfl w.heap.size [.int .u32 0, .int .u32 0, .int .u32 0, .int .u32 0, .int .u32 0, .int .u32 0, .int .u32 0, .int .u32 0, .int .u32 0, .int .u32 0, .int .u32 0, .slice none 0 0, .int .i64 0, .slice none 0 0, .bool false, .int .u32 0, .int .i64 0, .int .i64 0] c2 (by rfl) (by rfl) X8.out (by rw [LX.out.1]; rfl) (by rw [LX.out.1]; kernel_rfl) LX.out.2 ?_; intro W9 r9 c9'))
              (try simp only [Act.put, lsA, lsZ, lsS])
              have V := loadvar_has r9 rfl Tryz.underlying63 (by rw [LX.out.1]; kernel_rfl)
              refine bodyPost_ret (v := .tuple #[.agg c2.toArray, .int .i64 E]) (by simp [results, Tryz.results22, asaddr_run, V]) rfl ?_
              exact ⟨Below.trans B8.out (Below.ofNew c9' B8.out.size (Nat.le_refl _)), R9, c9, T9, t9, by rw [← HC2.out]; rfl, K8.out.off c9' (.inr (fun a ha => Nat.ne_of_gt (N9.out a ha))), E8.out.off c9' (.inr (fun a ha => Nat.ne_of_gt (M9.out a ha))), fun a ha => Nat.le_of_lt (N9.out a ha), fun a ha => Nat.le_of_lt (M9.out a ha)⟩
            exact AllReadyH.nil
          exact AllReadyH.nil
        exact AllReadyH.nil
      exact AllReadyH.nil
    refine rC (fun K hK => ?_) ?_
    · go_simp
      refine hK.out _ _ ?_ (fun hHeld => ?_)
      · (try dsimp only)
        all_goals exact trivial
      clear hK K
      (try simp only [Act.put, lsA, lsZ, lsS])
      refine wpAnyH_ready (rs := [3]) (by kernel_rfl) (by simp) ?_
      refine rC (fun K hK => ?_) ?_
      · go_simp
        (with_reducible refine (CU.out _ BQ0.out).mono ?_)
        rintro e w5 ⟨R9, c9, rfl, k9, b9, n9⟩
        have HB5 := Lib.hid (XB0.out.below b9)
        have d13 := HB5.out.cell 13
        rw [C13.out] at d13
        have BQ5 := Lib.hid (bel_then BQ0.out b9)
        have K9 := Lib.hid k9
        have N9 := Lib.hid (fun (a : Addr) (ha : R9 = some a) => (Nat.lt_of_lt_of_le YL.out.lt (n9 a ha) : w.heap.size < a.block))
        have BR5 := Lib.hid b9
        have KJ := Lib.hid (fun (a : Addr) (ha : R9 = some a) => (by have := n9 a ha; have := XB0.out.lt; omega : a.block ≠ jb))
        clear k9 b9 n9
        refine hK.out _ _ ?_ (fun hHeld => ?_)
        · (try dsimp only)
          all_goals exact trivial
        clear hK K
        (try simp only [Act.put, lsA, lsZ, lsS])
        refine wT 8 ?_
        refine wT 9 ?_
        refine wpAnyH_ready (rs := [7]) (by kernel_rfl) (by simp) ?_
        refine rC (fun K hK => ?_) ?_
        · go_simp
          (with_reducible refine (CE.out _ BQ5.out).mono ?_)
          rintro e w6 ⟨T9, t9, rfl, e9, b9, n9⟩
          have HB6 := Lib.hid (HB5.out.below b9)
          have d11 := HB6.out.cell 11
          rw [C11.out] at d11
          have f11 := HB6.out.frozen 11
          have BQ6 := Lib.hid (bel_then BQ5.out b9)
          have K6 := Lib.hid (K9.out.below b9)
          have E6 := Lib.hid e9
          have M9 := Lib.hid (fun (a : Addr) (ha : T9 = some a) => (Nat.lt_of_lt_of_le (Nat.lt_of_lt_of_le YL.out.lt BR5.out.size) (n9 a ha) : w.heap.size < a.block))
          have BR6 := Lib.hid (bel_then BR5.out b9)
          have EJ := Lib.hid (fun (a : Addr) (ha : T9 = some a) => (by have := n9 a ha; have := HB5.out.lt; omega : a.block ≠ jb))
          clear e9 b9 n9
          obtain ⟨W7, e7, H7, C7⟩ : ∃ W7, w6.setCell ⟨jb, 11, none⟩ (.slice R9 rn c9) = W7 ∧ Hid (HasB W7 jb 63 (cs0.set 11 (.slice R9 rn c9))) ∧ Hid (Chg jb jb w6 W7) := ⟨_, rfl, Lib.hid (has_set HB6.out 11 _), Lib.hid (chg_set (Chg.refl _ _ _) _ (.inl rfl) _ _)⟩
          have d13b := H7.out.cell 13
          rw [List.getElem?_set_ne (by decide), C13.out] at d13b
          have f13 := H7.out.frozen 13
          obtain ⟨W8, e8, H8, C8⟩ : ∃ W8, W7.setCell ⟨jb, 13, none⟩ (.slice T9 tn t9) = W8 ∧ Hid (HasB W8 jb 63 ((cs0.set 11 (.slice R9 rn c9)).set 13 (.slice T9 tn t9))) ∧ Hid (Chg jb jb W7 W8) := ⟨_, rfl, Lib.hid (has_set H7.out 13 _), Lib.hid (chg_set (Chg.refl _ _ _) _ (.inl rfl) _ _)⟩
          refine hK.out _ _ ?_ (fun hHeld => ?_)
          · (try dsimp only)
            all_goals exact trivial
          clear hK K
          (try simp only [Act.put, lsA, lsZ, lsS])
          refine wpAnyH_ready (rs := [10]) (by kernel_rfl) (by simp) ?_
          refine rC (fun K hK => ?_) ?_
          · go_simp
            (try rw [e7])
            refine hK.out _ _ ?_ (fun hHeld => ?_)
            · (try dsimp only)
              all_goals exact trivial
            clear hK K
            (try simp only [Act.put, lsA, lsZ, lsS])
            refine wT 11 ?_
            refine wT 12 ?_
            refine wpAnyH_ready (rs := [13]) (by kernel_rfl) (by simp) ?_
            refine rC (fun K hK => ?_) ?_
            · go_simp
              (try rw [e8])
              refine hK.out _ _ ?_ (fun hHeld => ?_)
              · (try dsimp only)
                all_goals exact trivial
              clear hK K
              (try simp only [Act.put, lsA, lsZ, lsS])
              refine wpAnyH_done (by kernel_rfl) ?_ _
              refine NoPanic.normal ?_
              clear hHeld
              have HC := Lib.hid (CSS.out R9 c9 T9 t9)
              have H8' : Hid (HasB W8 jb 63 (x.cs R9 c9 T9 t9)) := Lib.hid (by rw [← HC.out]; exact H8.out)
              have LX := Lib.hid (bx_len OX.out R9 c9 T9 t9)
              have K8 := Lib.hid ((K6.out.off C7.out (.inr KJ.out)).off C8.out (.inr KJ.out))
              have E8 := Lib.hid ((E6.out.off C7.out (.inr EJ.out)).off C8.out (.inr EJ.out))
              have B8 := Lib.hid (Below.trans (Below.trans BQ6.out (Below.ofNew C7.out BQ6.out.size SJ.out.1)) (Below.ofNew C8.out (Nat.le_trans BQ6.out.size C7.out.size) SJ.out.1))
              have X8 : Hid (HasB W8 w.heap.size 63 [.int .u32 0, .int .u32 0, .int .u32 0, .int .u32 0, .int .u32 0, .int .u32 0, .int .u32 0, .int .u32 0, .int .u32 0, .int .u32 0, .int .u32 0, .slice none 0 0, .int .i64 0, .slice none 0 0, .bool false, .int .u32 0, .int .i64 0, .int .i64 0]) := Lib.hid (((XL.out w6 BR6.out).chg C7.out SJ.out.2 SJ.out.2).chg C8.out SJ.out.2 SJ.out.2)
              obtain ⟨c2, hc2⟩ : ∃ c2, x.cs R9 c9 T9 t9 = c2 := ⟨_, rfl⟩
              rw [hc2] at H8' LX
              have HC2 := Lib.hid hc2
              clear hc2
              go_wp2_with (first
                | (refine ld_any rfl 63 (.tmp 6) rfl jb (by rfl) c2 H8'.out rfl Tryz.underlying63 (by rw [LX.out.1]; kernel_rfl) ?_)
                | (refine st_any rfl 63 (.tmp 4) (.tmp 26) rfl rfl w.heap.size [.int .u32 0, .int .u32 0, .int .u32 0, .int .u32 0, .int .u32 0, .int .u32 0, .int .u32 0, .int .u32 0, .int .u32 0, .int .u32 0, .int .u32 0, .slice none 0 0, .int .i64 0, .slice none 0 0, .bool false, .int .u32 0, .int .i64 0, .int .i64 0] c2 (by rfl) (by rfl) X8.out (by rw [LX.out.1]; rfl) (by rw [LX.out.1]; kernel_rfl) LX.out.2 ?_; intro W9 r9 c9'))
              (try simp only [Act.put, lsA, lsZ, lsS])
              have V := loadvar_has r9 rfl Tryz.underlying63 (by rw [LX.out.1]; kernel_rfl)
              refine bodyPost_ret (v := .tuple #[.agg c2.toArray, .int .i64 E]) (by simp [results, Tryz.results22, asaddr_run, V]) rfl ?_
              exact ⟨Below.trans B8.out (Below.ofNew c9' B8.out.size (Nat.le_refl _)), R9, c9, T9, t9, by rw [← HC2.out]; rfl, K8.out.off c9' (.inr (fun a ha => Nat.ne_of_gt (N9.out a ha))), E8.out.off c9' (.inr (fun a ha => Nat.ne_of_gt (M9.out a ha))), fun a ha => Nat.le_of_lt (N9.out a ha), fun a ha => Nat.le_of_lt (M9.out a ha)⟩
            exact AllReadyH.nil
          exact AllReadyH.nil
        exact AllReadyH.nil
      exact AllReadyH.nil
    exact AllReadyH.nil
  refine rC (fun K hK => ?_) ?_
  · go_simp
    refine hK.out _ _ ?_ (fun hHeld => ?_)
    · (try dsimp only)
      all_goals exact trivial
    clear hK K
    (try simp only [Act.put, lsA, lsZ, lsS])
    refine wpAnyH_ready (rs := [2]) (by kernel_rfl) (by simp) ?_
    refine rC (fun K hK => ?_) ?_
    · go_simp
      refine hK.out _ _ ?_ (fun hHeld => ?_)
      · (try dsimp only)
        all_goals exact trivial
      clear hK K
      (try simp only [Act.put, lsA, lsZ, lsS])
      refine wpAnyH_ready (rs := [3]) (by kernel_rfl) (by simp) ?_
      refine rC (fun K hK => ?_) ?_
      · go_simp
        (with_reducible refine (CU.out _ BQ0.out).mono ?_)
        rintro e w5 ⟨R9, c9, rfl, k9, b9, n9⟩
        have HB5 := Lib.hid (XB0.out.below b9)
        have d13 := HB5.out.cell 13
        rw [C13.out] at d13
        have BQ5 := Lib.hid (bel_then BQ0.out b9)
        have K9 := Lib.hid k9
        have N9 := Lib.hid (fun (a : Addr) (ha : R9 = some a) => (Nat.lt_of_lt_of_le YL.out.lt (n9 a ha) : w.heap.size < a.block))
        have BR5 := Lib.hid b9
        have KJ := Lib.hid (fun (a : Addr) (ha : R9 = some a) => (by have := n9 a ha; have := XB0.out.lt; omega : a.block ≠ jb))
        clear k9 b9 n9
        refine hK.out _ _ ?_ (fun hHeld => ?_)
        · (try dsimp only)
          all_goals exact trivial
        clear hK K
        (try simp only [Act.put, lsA, lsZ, lsS])
        refine wT 8 ?_
        refine wT 9 ?_
        refine wpAnyH_ready (rs := [7]) (by kernel_rfl) (by simp) ?_
        refine rC (fun K hK => ?_) ?_
        · go_simp
          (with_reducible refine (CE.out _ BQ5.out).mono ?_)
          rintro e w6 ⟨T9, t9, rfl, e9, b9, n9⟩
          have HB6 := Lib.hid (HB5.out.below b9)
          have d11 := HB6.out.cell 11
          rw [C11.out] at d11
          have f11 := HB6.out.frozen 11
          have BQ6 := Lib.hid (bel_then BQ5.out b9)
          have K6 := Lib.hid (K9.out.below b9)
          have E6 := Lib.hid e9
          have M9 := Lib.hid (fun (a : Addr) (ha : T9 = some a) => (Nat.lt_of_lt_of_le (Nat.lt_of_lt_of_le YL.out.lt BR5.out.size) (n9 a ha) : w.heap.size < a.block))
          have BR6 := Lib.hid (bel_then BR5.out b9)
          have EJ := Lib.hid (fun (a : Addr) (ha : T9 = some a) => (by have := n9 a ha; have := HB5.out.lt; omega : a.block ≠ jb))
          clear e9 b9 n9
          obtain ⟨W7, e7, H7, C7⟩ : ∃ W7, w6.setCell ⟨jb, 11, none⟩ (.slice R9 rn c9) = W7 ∧ Hid (HasB W7 jb 63 (cs0.set 11 (.slice R9 rn c9))) ∧ Hid (Chg jb jb w6 W7) := ⟨_, rfl, Lib.hid (has_set HB6.out 11 _), Lib.hid (chg_set (Chg.refl _ _ _) _ (.inl rfl) _ _)⟩
          have d13b := H7.out.cell 13
          rw [List.getElem?_set_ne (by decide), C13.out] at d13b
          have f13 := H7.out.frozen 13
          obtain ⟨W8, e8, H8, C8⟩ : ∃ W8, W7.setCell ⟨jb, 13, none⟩ (.slice T9 tn t9) = W8 ∧ Hid (HasB W8 jb 63 ((cs0.set 11 (.slice R9 rn c9)).set 13 (.slice T9 tn t9))) ∧ Hid (Chg jb jb W7 W8) := ⟨_, rfl, Lib.hid (has_set H7.out 13 _), Lib.hid (chg_set (Chg.refl _ _ _) _ (.inl rfl) _ _)⟩
          refine hK.out _ _ ?_ (fun hHeld => ?_)
          · (try dsimp only)
            all_goals exact trivial
          clear hK K
          (try simp only [Act.put, lsA, lsZ, lsS])
          refine wpAnyH_ready (rs := [10]) (by kernel_rfl) (by simp) ?_
          refine rC (fun K hK => ?_) ?_
          · go_simp
            (try rw [e7])
            refine hK.out _ _ ?_ (fun hHeld => ?_)
            · (try dsimp only)
              all_goals exact trivial
            clear hK K
            (try simp only [Act.put, lsA, lsZ, lsS])
            refine wT 11 ?_
            refine wT 12 ?_
            refine wpAnyH_ready (rs := [13]) (by kernel_rfl) (by simp) ?_
            refine rC (fun K hK => ?_) ?_
            · go_simp
              (try rw [e8])
              refine hK.out _ _ ?_ (fun hHeld => ?_)
              · (try dsimp only)
                all_goals exact trivial
              clear hK K
              (try simp only [Act.put, lsA, lsZ, lsS])
              refine wpAnyH_done (by kernel_rfl) ?_ _
              refine NoPanic.normal ?_
              clear hHeld
              have HC := Lib.hid (CSS.out R9 c9 T9 t9)
              have H8' : Hid (HasB W8 jb 63 (x.cs R9 c9 T9 t9)) := Lib.hid (by rw [← HC.out]; exact H8.out)
              have LX := Lib.hid (bx_len OX.out R9 c9 T9 t9)
              have K8 := Lib.hid ((K6.out.off C7.out (.inr KJ.out)).off C8.out (.inr KJ.out))
              have E8 := Lib.hid ((E6.out.off C7.out (.inr EJ.out)).off C8.out (.inr EJ.out))
              have B8 := Lib.hid (Below.trans (Below.trans BQ6.out (Below.ofNew C7.out BQ6.out.size SJ.out.1)) (Below.ofNew C8.out (Nat.le_trans BQ6.out.size C7.out.size) SJ.out.1))
              have X8 : Hid (HasB W8 w.heap.size 63 [.int .u32 0, .int .u32 0, .int .u32 0, .int .u32 0, .int .u32 0, .int .u32 0, .int .u32 0, .int .u32 0, .int .u32 0, .int .u32 0, .int .u32 0, .slice none 0 0, .int .i64 0, .slice none 0 0, .bool false, .int .u32 0, .int .i64 0, .int .i64 0]) := Lib.hid (((XL.out w6 BR6.out).chg C7.out SJ.out.2 SJ.out.2).chg C8.out SJ.out.2 SJ.out.2)
              obtain ⟨c2, hc2⟩ : ∃ c2, x.cs R9 c9 T9 t9 = c2 := ⟨_, rfl⟩
              rw [hc2] at H8' LX
              have HC2 := Lib.hid hc2
              clear hc2
              go_wp2_with (first
                | (refine ld_any rfl 63 (.tmp 6) rfl jb (by rfl) c2 H8'.out rfl Tryz.underlying63 (by rw [LX.out.1]; kernel_rfl) ?_)
                | (refine st_any rfl 63 (.tmp 4) (.tmp 26) rfl rfl w.heap.size [.int .u32 0, .int .u32 0, .int .u32 0, .int .u32 0, .int .u32 0, .int .u32 0, .int .u32 0, .int .u32 0, .int .u32 0, .int .u32 0, .int .u32 0, .slice none 0 0, .int .i64 0, .slice none 0 0, .bool false, .int .u32 0, .int .i64 0, .int .i64 0] c2 (by rfl) (by rfl) X8.out (by rw [LX.out.1]; rfl) (by rw [LX.out.1]; kernel_rfl) LX.out.2 ?_; intro W9 r9 c9'))
              (try simp only [Act.put, lsA, lsZ, lsS])
              have V := loadvar_has r9 rfl Tryz.underlying63 (by rw [LX.out.1]; kernel_rfl)
              refine bodyPost_ret (v := .tuple #[.agg c2.toArray, .int .i64 E]) (by simp [results, Tryz.results22, asaddr_run, V]) rfl ?_
              exact ⟨Below.trans B8.out (Below.ofNew c9' B8.out.size (Nat.le_refl _)), R9, c9, T9, t9, by rw [← HC2.out]; rfl, K8.out.off c9' (.inr (fun a ha => Nat.ne_of_gt (N9.out a ha))), E8.out.off c9' (.inr (fun a ha => Nat.ne_of_gt (M9.out a ha))), fun a ha => Nat.le_of_lt (N9.out a ha), fun a ha => Nat.le_of_lt (M9.out a ha)⟩
            exact AllReadyH.nil
          exact AllReadyH.nil
        exact AllReadyH.nil
      exact AllReadyH.nil
    exact AllReadyH.nil
  exact AllReadyH.nil
theorem hBox : HBoxC := by
  intro w hb h F id ⟨p, g, y, mb, RA, TA, rc, tc, I⟩ htr hid
  rcases map_look I.map id with ⟨v, hv, LK⟩ | ⟨hv, LK⟩
  · obtain ⟨k, rfl, hk⟩ := atI_some hv
    obtain ⟨s, hs, rfl⟩ := valO_some hk
    have ok := (I.sx k s hs).1
    obtain ⟨l1, l2⟩ := bx_len ok.c (RA k) (rc k) (TA k) (tc k)
    refine (box_w w (some ⟨hb, 0, none⟩) (k : Int) s.x ok.c 0 (RA k) (rc k) (TA k) (tc k) (I.rep k s hs) (I.tr k s hs).row (by have := ok.rep; omega) (by have := htr k s hs; omega) (fun w' b => ?_)).mono ?_
    · have := find_w w' ⟨p, 0, none⟩ hb mb (I.own.below b) (I.map.below b).lt (k : Int) _ l1 l2 true (fun w2 e => LK w2 (e.trans (b.block mb I.map.lt)))
      exact this
    · rintro e w' ⟨b, R1, r1, T1, t1, rfl, h1, h2, h3, h4⟩
      exact ⟨b, .inl ⟨k, s, rfl, hs, R1, r1, T1, t1, rfl, h1, h2, h3, h4⟩⟩
  · have zl := z_len
    refine (box_w w (some ⟨hb, 0, none⟩) id zeroX zeroX_ok.c 8 none 0 none 0 (kRow_nil _ w) (evRow_nil w) (by simp [zeroX]) (by simp [zeroX]) (fun w' b => ?_)).mono ?_
    · have := find_w w' ⟨p, 0, none⟩ hb mb (I.own.below b) (I.map.below b).lt id _ zl.1 zl.2 false (fun w2 e => LK w2 (e.trans (b.block mb I.map.lt)))
      exact this
    · rintro e w' ⟨b, R1, r1, T1, t1, rfl, h1, h2, h3, h4⟩
      refine ⟨b, .inr ⟨fun k s hk hs => ?_, R1, r1, T1, t1, rfl⟩⟩
      subst hk
      rw [atI_nat, valO_has hs] at hv
      cases hv
set_option maxHeartbeats 8000000 in
theorem hBytes : HBytesC := by
  intro w hb z h F id ⟨p, g, y, mb, RA, TA, rc, tc, I⟩ H hid
  have IH0 := Lib.hid I
  have HZ := Lib.hid H
  have FC := Lib.hid (find_h I id)
  have LT := Lib.hid I.lt
  clear I H hid
  go_enter Tryz.func23, Tryz.ntmps23
  go_wp2_with fail
  refine FC.out.mono ?_; rintro e w1 ⟨b1, hq⟩
  have I1 := Lib.hid (IH0.out.below b1)
  have B1 := Lib.hid b1
  clear FC b1
  obtain ⟨jb, hjb⟩ : ∃ jb, w1.heap.size = jb := ⟨_, rfl⟩
  obtain ⟨W2, e2, X2, I2, B2, S2⟩ : ∃ W2, w1.alloc (.cells ([.int .u32 0, .int .u32 0, .int .u32 0, .int .u32 0, .int .u32 0, .int .u32 0, .int .u32 0, .int .u32 0, .int .u32 0, .int .u32 0, .int .u32 0, .slice none 0 0, .int .i64 0, .slice none 0 0, .bool false, .int .u32 0, .int .i64 0, .int .i64 0] : List Value).toArray 63) = W2 ∧ Hid (HasB W2 jb 63 [.int .u32 0, .int .u32 0, .int .u32 0, .int .u32 0, .int .u32 0, .int .u32 0, .int .u32 0, .int .u32 0, .int .u32 0, .int .u32 0, .int .u32 0, .slice none 0 0, .int .i64 0, .slice none 0 0, .bool false, .int .u32 0, .int .i64 0, .int .i64 0]) ∧ Hid (HIn W2 hb p g y mb RA TA rc tc h F) ∧ Hid (Below w.heap.size w W2) ∧ Hid (w.heap.size ≤ jb) := by
    have b := bel_al (Below.refl w1.heap.size w1) (.cells ([.int .u32 0, .int .u32 0, .int .u32 0, .int .u32 0, .int .u32 0, .int .u32 0, .int .u32 0, .int .u32 0, .int .u32 0, .int .u32 0, .int .u32 0, .slice none 0 0, .int .i64 0, .slice none 0 0, .bool false, .int .u32 0, .int .i64 0, .int .i64 0] : List Value).toArray 63)
    exact ⟨_, rfl, Lib.hid (by rw [← hjb]; exact HasB.new w1 63 [.int .u32 0, .int .u32 0, .int .u32 0, .int .u32 0, .int .u32 0, .int .u32 0, .int .u32 0, .int .u32 0, .int .u32 0, .int .u32 0, .int .u32 0, .slice none 0 0, .int .i64 0, .slice none 0 0, .bool false, .int .u32 0, .int .i64 0, .int .i64 0]), Lib.hid (I1.out.below b), Lib.hid (bel_then B1.out b), Lib.hid (by rw [← hjb]; exact B1.out.size)⟩
  have ZL := Lib.hid z_len
  rcases hq with ⟨k, s, rfl, hs, rfl⟩ | ⟨hno, rfl⟩
  · have LL := Lib.hid (bx_len (IH0.out.sx k s hs).1.c (RA k) (rc k) (TA k) (tc k))
    have RGC := Lib.hid (fun w' => sb_region IH0.out hs w')
    have HHAS := Lib.hid hs
    obtain ⟨cs0, hcs0⟩ : ∃ cs0, s.x.cs (RA k) (rc k) (TA k) (tc k) = cs0 := ⟨_, rfl⟩
    rw [hcs0] at LL RGC
    rw [hcs0]
    clear hcs0 hs I1 B1
    dsimp only
    go_wp2_with (first
      | (refine st_any rfl 63 (.tmp 6) (.tmp 15) rfl rfl jb [.int .u32 0, .int .u32 0, .int .u32 0, .int .u32 0, .int .u32 0, .int .u32 0, .int .u32 0, .int .u32 0, .int .u32 0, .int .u32 0, .int .u32 0, .slice none 0 0, .int .i64 0, .slice none 0 0, .bool false, .int .u32 0, .int .i64 0, .int .i64 0] cs0 (by rfl) (by rfl) X2.out (by rw [LL.out.1]; rfl) (by rw [LL.out.1]; kernel_rfl) LL.out.2 ?_; intro W3 r3 c3
         have I3 := Lib.hid (I2.out.same c3.size (fun i hi => c3.block i (I2.out.lim i hi) (by have := IH0.out.lim i hi; have := S2.out; omega) (by have := IH0.out.lim i hi; have := S2.out; omega)))
         have B3 := Lib.hid (Below.trans B2.out (Below.ofNew c3 B2.out.size S2.out))
         have X3 := Lib.hid r3
         clear r3 c3)
      | (refine ld_any rfl 63 (.tmp 6) rfl jb (by rfl) cs0 X3.out rfl Tryz.underlying63 (by rw [LL.out.1]; kernel_rfl) ?_))
    refine (RGC.out _).mono ?_; rintro e w4 ⟨rfl, b4⟩
    have I4 := Lib.hid (I3.out.below b4)
    have B4 := Lib.hid (bel_then B3.out b4)
    clear b4 I3 B3 X3 I2 B2 X2 RGC
    obtain ⟨bi, hbi⟩ : ∃ bi, s.r.1 = bi := ⟨_, rfl⟩
    obtain ⟨si, hsi⟩ : ∃ si, s.r.2 = si := ⟨_, rfl⟩
    rw [hbi, hsi]
    have HBI := Lib.hid hbi
    have HSI := Lib.hid hsi
    clear hbi hsi
    obtain ⟨jr, hjr⟩ : ∃ jr, w4.heap.size = jr := ⟨_, rfl⟩
    obtain ⟨W5, e5, X5, I5, B5, S5⟩ : ∃ W5, w4.alloc (.cells #[.int .i64 0, .int .i64 0] 52) = W5 ∧ Hid (HasB W5 jr 52 [.int .i64 0, .int .i64 0]) ∧ Hid (HIn W5 hb p g y mb RA TA rc tc h F) ∧ Hid (Below w.heap.size w W5) ∧ Hid (w.heap.size ≤ jr) := by
      have b := bel_al (Below.refl w4.heap.size w4) (.cells #[.int .i64 0, .int .i64 0] 52)
      exact ⟨_, rfl, Lib.hid (by rw [← hjr]; exact HasB.new w4 52 _), Lib.hid (I4.out.below b), Lib.hid (bel_then B4.out b), Lib.hid (by rw [← hjr]; exact B4.out.size)⟩
    clear I4 B4
    dsimp only
    go_wp2_with (first
      | (refine st_any rfl 52 (.tmp 8) (.tmp 21) rfl rfl jr [.int .i64 0, .int .i64 0] [.int .i64 bi, .int .i64 si] (by rfl) (by rfl) X5.out rfl (by kernel_rfl) (by simp [Value.oneCell']) ?_; intro W6 r6 c6
         have I6 := Lib.hid (I5.out.same c6.size (fun i hi => c6.block i (I5.out.lim i hi) (by have := IH0.out.lim i hi; have := S5.out; omega) (by have := IH0.out.lim i hi; have := S5.out; omega)))
         have B6 := Lib.hid (Below.trans B5.out (Below.ofNew c6 B5.out.size S5.out))
         have X6 := Lib.hid r6
         clear r6 c6))
    have WH : Hid (wholeB h.T bi si = true ∧ 0 ≤ si ∧ si.toNat = 2 * s.hf ∧ bi.toNat = s.b ∧ 2 * s.hf ≤ maxLen) := Lib.hid (by
      have q := rg_nat (HZ.out.rg k s HHAS.out)
      have e1 : bi = (s.b : Int) := HBI.out.symm
      have e2 : si = ((2 * s.hf : Nat) : Int) := HSI.out.symm
      have := (HZ.out.w HHAS.out).wh (s.b : Int) (2 * s.hf) (by omega) (by omega) (by push_cast; omega)
      rw [e1, e2]
      refine ⟨?_, by omega, by omega, by omega, by unfold maxLen; omega⟩
      rw [this]
      exact decide_eq_true (by push_cast; omega))
    have RD0 := read_i (I6.out.mem.below (Below.refl _ _).drew) bi si WH.out.1
    have HBO : Hid (HasB W6.drew hb 86 [.pointer (some ⟨p, 0, none⟩), .map (some mb)]) := Lib.hid (I6.out.own.below (Below.refl _ _).drew)
    have HBR : Hid (HasB W6.drew jr 52 [.int .i64 bi, .int .i64 si]) := Lib.hid (X6.out.below (Below.refl _ _).drew)
    have BD : Hid (Below w.heap.size w W6.drew) := Lib.hid (bel_then B6.out (Below.refl _ _).drew)
    have RD := Lib.hid RD0
    have D5 : Hid (W6.drew.cell? ⟨hb, 0, none⟩ = some (.pointer (some ⟨p, 0, none⟩)) ∧ W6.drew.cell? ⟨jr, 0, none⟩ = some (.int .i64 bi) ∧ W6.drew.cell? ⟨jr, 1, none⟩ = some (.int .i64 si)) := Lib.hid ⟨HBO.out.cell 0, HBR.out.cell 0, HBR.out.cell 1⟩
    have BFIN : Hid (∀ w9, HasB w9 W6.drew.heap.size 5 (((h.B.drop bi.toNat).take si.toNat).map (Value.int .u8)) → Below w.heap.size w w9 → HBytesP w h (k : Int) (.returned (.tuple #[.slice (some ⟨W6.drew.heap.size, 0, none⟩) si.toNat si.toNat, .int .i64 0])) w9) := Lib.hid (fun w9 h9 b9 => by
      have wh := WH.out
      rw [wh.2.2.1, wh.2.2.2.1] at h9
      refine ⟨b9, .inl ⟨k, s, rfl, HHAS.out, some ⟨W6.drew.heap.size, 0, none⟩, 2 * s.hf, by rw [wh.2.2.1], ?_, fun a ha => by cases ha; exact BD.out.size⟩⟩
      have hl := bytesO_len HZ.out HHAS.out
      have hb9 : Bytes (bytesO h s) := fun v hv => HZ.out.by_ v (List.mem_of_mem_drop (List.mem_of_mem_take hv))
      have := row_blk (l := bytesO h s) hb9 (by rw [hl]; exact wh.2.2.2.2) h9
      rw [hl] at this
      exact this)
    clear RD0 I6 B6 X6 I5 B5 X5
    go_wp2_with fail
    refine wp_region_noPanic ?_
    refine wp_region_held_drew (S := (fun w' => w'.cell? ⟨hb, 0, none⟩ = some (.pointer (some ⟨p, 0, none⟩)) ∧ w'.cell? ⟨jr, 0, none⟩ = some (.int .i64 bi) ∧ w'.cell? ⟨jr, 1, none⟩ = some (.int .i64 si))) (by kernel_rfl) ?_ (fun hHeld => ?_)
    · (try dsimp only)
      exact D5.out
    refine wT 0 ?_
    refine wT 1 ?_
    refine wT 2 ?_
    refine wT 3 ?_
    refine wT 4 ?_
    refine wT 5 ?_
    refine wT 6 ?_
    refine wT 7 ?_
    refine wpAnyH_ready (rs := [8]) (by kernel_rfl) (by simp) ?_
    refine rC (fun K hK => ?_) ?_
    · go_simp
      (with_reducible refine RD.out.mono ?_)
      rintro e w9 ⟨rfl, h9, b9⟩
      have E5 : Hid (w9.cell? ⟨hb, 0, none⟩ = some (.pointer (some ⟨p, 0, none⟩)) ∧ w9.cell? ⟨jr, 0, none⟩ = some (.int .i64 bi) ∧ w9.cell? ⟨jr, 1, none⟩ = some (.int .i64 si)) := Lib.hid ⟨(HBO.out.below b9).cell 0, (HBR.out.below b9).cell 0, (HBR.out.below b9).cell 1⟩
      have H9 := Lib.hid h9
      have B9 := Lib.hid (bel_then BD.out b9)
      have S9 := Lib.hid (BD.out.size)
      clear h9 b9
      refine hK.out _ _ ?_ (fun hHeld => ?_)
      · (try dsimp only)
        exact E5.out
      clear hK K
      (try simp only [Act.put, lsA, lsZ, lsS])
      refine wT 9 ?_
      refine wT 10 ?_
      refine wT 11 ?_
      refine wT 12 ?_
      refine wT 13 ?_
      refine wpAnyH_done (by kernel_rfl) ?_ _
      refine NoPanic.normal ?_
      clear hHeld
      go_wp2_with fail
      (try simp only [Act.put, lsA, lsZ, lsS])
      refine bodyPost_ret (v := .tuple #[.slice (some ⟨W6.drew.heap.size, 0, none⟩) si.toNat si.toNat, .int .i64 0]) (by simp [results, Tryz.results23]) rfl ?_
      exact BFIN.out w9 H9.out B9.out
    exact AllReadyH.nil
  · dsimp only
    go_wp2_with (first
      | (refine st_any rfl 63 (.tmp 6) (.tmp 15) rfl rfl jb [.int .u32 0, .int .u32 0, .int .u32 0, .int .u32 0, .int .u32 0, .int .u32 0, .int .u32 0, .int .u32 0, .int .u32 0, .int .u32 0, .int .u32 0, .slice none 0 0, .int .i64 0, .slice none 0 0, .bool false, .int .u32 0, .int .i64 0, .int .i64 0] [.int .u32 0, .int .u32 0, .int .u32 0, .int .u32 0, .int .u32 0, .int .u32 0, .int .u32 0, .int .u32 0, .int .u32 0, .int .u32 0, .int .u32 0, .slice none 0 0, .int .i64 0, .slice none 0 0, .bool false, .int .u32 0, .int .i64 0, .int .i64 0] (by rfl) (by rfl) X2.out rfl (by kernel_rfl) ZL.out.2 ?_; intro W3 r3 c3; have B3 := Lib.hid (Below.trans B2.out (Below.ofNew c3 B2.out.size S2.out))))
    (try simp only [Act.put, lsA, lsZ, lsS])
    refine bodyPost_ret (v := .tuple #[.slice none 0 0, .int .i64 8]) (by simp [results, Tryz.results23]) rfl ?_
    exact ⟨B3.out, .inr ⟨hno, rfl⟩⟩
end Go.Proofs.YtjmbaiijmhkdpaaGreat.Mm
