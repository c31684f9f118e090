/- The document's own step, whatever the processor and the memory. -/
import Derived.Test.YtbgnkljeodandaaGreatLBrA
import Derived.Test.YtbgnkljeodandaaGreatLBrC
import Derived.Deep.RegionWith
import Derived.Deep.DeepCutAuto
import Derived.Deep.CutBlock
import Derived.Deep.CutRange
namespace Go.Proofs.YtbgnkljeodandaaGreat.Mm
open Go.ChangeShapes Go.WideShapes Go.ChangeAt Go.RowKit
set_option linter.unusedVariables false

def RegR (w : World) (I D : Nat) (pc r0 r1 r2 r3 r4 r5 r6 r7 b s op x y imm : Int) (M0 M1 : Value) (F : Cp) (xb cB : Nat) (B : List Int) (W : World) : Prop :=
 RDoS w pc r0 r1 r2 r3 r4 r5 r6 r7 b s M0 M1 W ∧ HasB W I 100 [.int .i64 op, .int .i64 x, .int .i64 y, .int .u32 imm] ∧ HasB W D 47 F.cs ∧ RowAt W (some ⟨xb, 0, none⟩) cB B
set_option maxRecDepth 100000 in
set_option maxHeartbeats 8000000 in
theorem rdo_17 (xb yb cB cU : Nat) (B : List Int) (r0 r1 r2 r3 r4 r5 r6 r7 b s : Int) (pc : Nat) (hB : B.length = 2200) (hBy : Bytes B) (h1 : pc < 4294967296) (w : World) (rB : RowAt w (some ⟨xb, 0, none⟩) cB B) (rU : BlAt w (some ⟨yb, 0, none⟩) cU U22) (imm va vb : Int)  (x y n : Nat) (hx : x < 8) (hy : y < 8) (i0 : 0 ≤ imm) (i1 : imm < 4294967296) (hn : 1 ≤ n) (hn' : n ≤ 6) (hrd : Rd (codeL B T22 (pc : Int)) 17 x y imm n) (hva : Cp.reg ⟨pc, [r0, r1, r2, r3, r4, r5, r6, r7], b, s⟩ x = va) (hvb : Cp.reg ⟨pc, [r0, r1, r2, r3, r4, r5, r6, r7], b, s⟩ y = vb) (va0 : 0 ≤ va) (va1 : va < 4294967296) (vb0 : 0 ≤ vb) (vb1 : vb < 4294967296) (ok : Cp.Ok ⟨pc, [r0, r1, r2, r3, r4, r5, r6, r7], b, s⟩) :
  Calls Tryz.prog 31 #[.agg #[.int .u32 pc, .int .u32 r0, .int .u32 r1, .int .u32 r2, .int .u32 r3, .int .u32 r4, .int .u32 r5, .int .u32 r6, .int .u32 r7, .int .u32 b, .int .u32 s], .agg #[.slice (some ⟨xb, 0, none⟩) 2200 cB, .slice (some ⟨yb, 0, none⟩) 2200 cU]] w (RDoP w xb yb cU ⟨(⟨(((pc : Int) + (n : Int)) % 4294967296), [r0, r1, r2, r3, r4, r5, r6, r7], b, s⟩ : Cp).setR x (dataV b s va), B, 0, 0⟩) := by
 obtain ⟨rv, hrv⟩ : ∃ rv, dataV b s va = rv := ⟨_, rfl⟩
 have hrvb : U32 rv := hrv ▸ wrap_u _
 rw [hrv]
 replace hrv := Lib.hid hrv
 obtain ⟨F, hF⟩ : ∃ F, (⟨(((pc : Int) + (n : Int)) % 4294967296), [r0, r1, r2, r3, r4, r5, r6, r7], b, s⟩ : Cp).setR x rv = F := ⟨_, rfl⟩
 have hFok : F.Ok := hF ▸ (ok.setPc (wrap_u ((pc : Int) + (n : Int)))).setR x hrvb
 rw [hF]
 have HF := Lib.hid hF
 clear hF
 obtain ⟨s0, s1, s2, s3, s4, s5, s6, s7, hs⟩ := hFok.eight
 obtain ⟨pc2, r', b2, z2⟩ := F
 simp only at hs
 subst hs
 clear hFok
 refine rdo_head xb yb cB cU B r0 r1 r2 r3 r4 r5 r6 r7 b s pc hB hBy h1 w rB rU (17) imm va vb x y n hx hy i0 i1 hn hn' hrd hva hvb va0 va1 vb0 vb1 ok (fun Q hQ I2 I4 W8 t8 t9 t17 t18 t19 t20 t21 t22 t23 t24 t25 t26 t27 t28 t29 t30 t31 t32 t33 t34 t35 t36 t37 t38 t39 t40 t41 t42 t43 t44 t45 t46 t47 t48 t49 t50 t51 t52 t53 t54 t55 t56 t57 t58 t59 t60 t61 t62 t63 t64 t65 t66 t67 t68 t69 t70 t71 k8 i8 d8 RB8 RU8 hxb z0 z4 => ?_)
 have HXB := Lib.hid hxb
 have HB := Lib.hid hB
 have HBy := Lib.hid hBy
 have HVA := Lib.hid hva
 have HVB := Lib.hid hvb
 have OK := Lib.hid ok
 replace RB8 := Lib.hid RB8
 replace RU8 := Lib.hid RU8
 have xI : (x : Int) < 8 := by omega
 have N0 : (1 : Int) ≤ (n : Int) := by omega
 have N1 : (n : Int) ≤ 6 := by omega
 clear rB rU hB hBy hrd hva hvb ok hxb
 dsimp only [rdoRest, rightC, Option.getD, Tryz.f31]
 subst hQ
 obtain ⟨⟨v0, v1⟩, ⟨v2, v3⟩⟩ : (W8.cell? ⟨I2, 0, none⟩ = some (.int .i64 (17)) ∧ W8.cell? ⟨I2, 1, none⟩ = some (.int .i64 x)) ∧ (W8.cell? ⟨I2, 2, none⟩ = some (.int .i64 y) ∧ W8.cell? ⟨I2, 3, none⟩ = some (.int .u32 imm)) := ⟨⟨i8.cell 0, i8.cell 1⟩, ⟨i8.cell 2, i8.cell 3⟩⟩
 obtain ⟨b0', b1'⟩ := OK.out.b
 obtain ⟨s0', s1'⟩ := OK.out.s
 have cd := fun w => rDataV_any (.int .u32 pc) (.int .u32 r0) (.int .u32 r1) (.int .u32 r2) (.int .u32 r3) (.int .u32 r4) (.int .u32 r5) (.int .u32 r6) (.int .u32 r7) va b s b0' b1' s0' s1' va0 va1 w
 rw [hrv.out] at cd
 have CD := Lib.hid cd
 clear cd
 have KD := Lib.hid (k8.below (Below.refl _ _).drew)
 have ID := Lib.hid (HasB.below i8 (Below.refl _ _).drew)
 have DD := Lib.hid (HasB.below d8 (Below.refl _ _).drew)
 have RD := Lib.hid (RB8.out.below (Below.refl _ _).drew)
 obtain ⟨⟨c0, c1, c2, c3, c4, c5, c6, c7, c8, c9, c10⟩, _⟩ := has11 k8.c
 clear k8 i8 d8 RB8
 go_upto_region 34 with fail
 go_cut [] from 164 to 170 (fun wx => RegR w I2 I4 pc r0 r1 r2 r3 r4 r5 r6 r7 b s (17) x y imm (.slice (some ⟨xb, 0, none⟩) 2200 cB) (.slice (some ⟨yb, 0, none⟩) 2200 cU) ⟨pc2, [s0, s1, s2, s3, s4, s5, s6, s7], b2, z2⟩ xb cB B wx)
 case first =>
  go_region_with (first | (go_at_call 51; (with_reducible refine (CD.out _).mono ?_); rintro e w3 ⟨rfl, hb3⟩; obtain ⟨W9, e9, ⟨u9, h9⟩, g9, k9, i9, d9', ch9⟩ := reg_world (KD.out.below hb3) (ID.out.below hb3) (DD.out.below hb3) (by omega) (by omega) x hx rv; have ji := (ID.out.below hb3).cell 1; simp only [List.getElem?_cons_succ, List.getElem?_cons_zero] at ji; rw [HF.out] at d9'; have HRR := Lib.hid (show RegR w I2 I4 pc r0 r1 r2 r3 r4 r5 r6 r7 b s (17) x y imm (.slice (some ⟨xb, 0, none⟩) 2200 cB) (.slice (some ⟨yb, 0, none⟩) 2200 cU) ⟨pc2, [s0, s1, s2, s3, s4, s5, s6, s7], b2, z2⟩ xb cB B W9 from ⟨k9, i9, d9', (RD.out.below hb3).chg ch9 (by have := HXB.out; omega) (by have := HXB.out; omega)⟩); clear k9 i9 d9' ch9 hb3))
  all_goals go_wp2_with fail
  all_goals go_meet
  all_goals exact HRR.out
 case rest =>
  obtain ⟨k9, i9, d9', rb9⟩ := hcut
  clear v0 v1 v2 v3 c0 c1 c2 c3 c4 c5 c6 c7 c8 c9 c10 CD KD ID DD RD
  dsimp only [Cp.cs, List.map_cons, List.map_nil, List.cons_append, List.nil_append] at d9'
  have K9 := Lib.hid k9
  have RB9 := Lib.hid rb9
  obtain ⟨⟨j0, j1⟩, ⟨j2, j3⟩⟩ : (wc.cell? ⟨I2, 0, none⟩ = some (.int .i64 (17)) ∧ wc.cell? ⟨I2, 1, none⟩ = some (.int .i64 x)) ∧ (wc.cell? ⟨I2, 2, none⟩ = some (.int .i64 y) ∧ wc.cell? ⟨I2, 3, none⟩ = some (.int .u32 imm)) := ⟨⟨i9.cell 0, i9.cell 1⟩, ⟨i9.cell 2, i9.cell 3⟩⟩
  obtain ⟨⟨n0, n1, n2, n3, n4, n5, n6, n7, n8, n9, n10⟩, _⟩ := has11 d9'
  obtain ⟨⟨m0, m1⟩, _⟩ := has2 k9.m
  clear k9 i9 d9' rb9
  obtain ⟨⟨d0, d1, d2, d3, d4, d5, d6, d7, d8, d9, d10⟩, ⟨f0, f1, f2, f3, f4, f5, f6, f7, f8, f9, f10⟩⟩ := has11 K9.out.d
  obtain ⟨⟨o0, o1⟩, ⟨q0, q1⟩⟩ := has2 K9.out.o
  go_wp2_with fail
  go_region
  all_goals go_wp2_with fail
  all_goals refine bodyPost_ret (v := .tuple #[.agg #[.int .u32 pc2, .int .u32 s0, .int .u32 s1, .int .u32 s2, .int .u32 s3, .int .u32 s4, .int .u32 s5, .int .u32 s6, .int .u32 s7, .int .u32 b2, .int .u32 z2], .agg #[.slice (some ⟨xb, 0, none⟩) 2200 cB, .slice (some ⟨yb, 0, none⟩) 2200 cU], .int .i64 0, .int .i64 0]) (by simp [results, Tryz.results31, go_sem, d0, d1, d2, d3, d4, d5, d6, d7, d8, d9, d10, o0, o1]) rfl ?_
  all_goals obtain ⟨x1, x2⟩ := rst13 K9.out.bel (.int .u32 pc2) (.int .u32 s0) (.int .u32 s1) (.int .u32 s2) (.int .u32 s3) (.int .u32 s4) (.int .u32 s5) (.int .u32 s6) (.int .u32 s7) (.int .u32 b2) (.int .u32 z2) (.slice (some ⟨xb, 0, none⟩) 2200 cB) (.slice (some ⟨yb, 0, none⟩) 2200 cU)
  all_goals exact ⟨_, _, rfl, (RB9.out).chg x1 (by have := HXB.out; omega) (by have := HXB.out; omega), x2, .inl rfl⟩
set_option maxRecDepth 100000 in
set_option maxHeartbeats 8000000 in
theorem rdo_18 (xb yb cB cU : Nat) (B : List Int) (r0 r1 r2 r3 r4 r5 r6 r7 b s : Int) (pc : Nat) (hB : B.length = 2200) (hBy : Bytes B) (h1 : pc < 4294967296) (w : World) (rB : RowAt w (some ⟨xb, 0, none⟩) cB B) (rU : BlAt w (some ⟨yb, 0, none⟩) cU U22) (imm va vb : Int)  (x y n : Nat) (hx : x < 8) (hy : y < 8) (i0 : 0 ≤ imm) (i1 : imm < 4294967296) (hn : 1 ≤ n) (hn' : n ≤ 6) (hrd : Rd (codeL B T22 (pc : Int)) 18 x y imm n) (hva : Cp.reg ⟨pc, [r0, r1, r2, r3, r4, r5, r6, r7], b, s⟩ x = va) (hvb : Cp.reg ⟨pc, [r0, r1, r2, r3, r4, r5, r6, r7], b, s⟩ y = vb) (va0 : 0 ≤ va) (va1 : va < 4294967296) (vb0 : 0 ≤ vb) (vb1 : vb < 4294967296) (ok : Cp.Ok ⟨pc, [r0, r1, r2, r3, r4, r5, r6, r7], b, s⟩) :
  Calls Tryz.prog 31 #[.agg #[.int .u32 pc, .int .u32 r0, .int .u32 r1, .int .u32 r2, .int .u32 r3, .int .u32 r4, .int .u32 r5, .int .u32 r6, .int .u32 r7, .int .u32 b, .int .u32 s], .agg #[.slice (some ⟨xb, 0, none⟩) 2200 cB, .slice (some ⟨yb, 0, none⟩) 2200 cU]] w (RDoP w xb yb cU ⟨(⟨(((pc : Int) + (n : Int)) % 4294967296), [r0, r1, r2, r3, r4, r5, r6, r7], b, s⟩ : Cp).setR x (codeV b s va), B, 0, 0⟩) := by
 obtain ⟨rv, hrv⟩ : ∃ rv, codeV b s va = rv := ⟨_, rfl⟩
 have hrvb : U32 rv := hrv ▸ wrap_u _
 rw [hrv]
 replace hrv := Lib.hid hrv
 obtain ⟨F, hF⟩ : ∃ F, (⟨(((pc : Int) + (n : Int)) % 4294967296), [r0, r1, r2, r3, r4, r5, r6, r7], b, s⟩ : Cp).setR x rv = F := ⟨_, rfl⟩
 have hFok : F.Ok := hF ▸ (ok.setPc (wrap_u ((pc : Int) + (n : Int)))).setR x hrvb
 rw [hF]
 have HF := Lib.hid hF
 clear hF
 obtain ⟨s0, s1, s2, s3, s4, s5, s6, s7, hs⟩ := hFok.eight
 obtain ⟨pc2, r', b2, z2⟩ := F
 simp only at hs
 subst hs
 clear hFok
 refine rdo_head xb yb cB cU B r0 r1 r2 r3 r4 r5 r6 r7 b s pc hB hBy h1 w rB rU (18) imm va vb x y n hx hy i0 i1 hn hn' hrd hva hvb va0 va1 vb0 vb1 ok (fun Q hQ I2 I4 W8 t8 t9 t17 t18 t19 t20 t21 t22 t23 t24 t25 t26 t27 t28 t29 t30 t31 t32 t33 t34 t35 t36 t37 t38 t39 t40 t41 t42 t43 t44 t45 t46 t47 t48 t49 t50 t51 t52 t53 t54 t55 t56 t57 t58 t59 t60 t61 t62 t63 t64 t65 t66 t67 t68 t69 t70 t71 k8 i8 d8 RB8 RU8 hxb z0 z4 => ?_)
 have HXB := Lib.hid hxb
 have HB := Lib.hid hB
 have HBy := Lib.hid hBy
 have HVA := Lib.hid hva
 have HVB := Lib.hid hvb
 have OK := Lib.hid ok
 replace RB8 := Lib.hid RB8
 replace RU8 := Lib.hid RU8
 have xI : (x : Int) < 8 := by omega
 have N0 : (1 : Int) ≤ (n : Int) := by omega
 have N1 : (n : Int) ≤ 6 := by omega
 clear rB rU hB hBy hrd hva hvb ok hxb
 dsimp only [rdoRest, rightC, Option.getD, Tryz.f31]
 subst hQ
 obtain ⟨⟨v0, v1⟩, ⟨v2, v3⟩⟩ : (W8.cell? ⟨I2, 0, none⟩ = some (.int .i64 (18)) ∧ W8.cell? ⟨I2, 1, none⟩ = some (.int .i64 x)) ∧ (W8.cell? ⟨I2, 2, none⟩ = some (.int .i64 y) ∧ W8.cell? ⟨I2, 3, none⟩ = some (.int .u32 imm)) := ⟨⟨i8.cell 0, i8.cell 1⟩, ⟨i8.cell 2, i8.cell 3⟩⟩
 obtain ⟨b0', b1'⟩ := OK.out.b
 obtain ⟨s0', s1'⟩ := OK.out.s
 have cd := fun w => rCodeV_any (.int .u32 pc) (.int .u32 r0) (.int .u32 r1) (.int .u32 r2) (.int .u32 r3) (.int .u32 r4) (.int .u32 r5) (.int .u32 r6) (.int .u32 r7) va b s b0' b1' s0' s1' va0 va1 w
 rw [hrv.out] at cd
 have CD := Lib.hid cd
 clear cd
 have KD := Lib.hid (k8.below (Below.refl _ _).drew)
 have ID := Lib.hid (HasB.below i8 (Below.refl _ _).drew)
 have DD := Lib.hid (HasB.below d8 (Below.refl _ _).drew)
 have RD := Lib.hid (RB8.out.below (Below.refl _ _).drew)
 obtain ⟨⟨c0, c1, c2, c3, c4, c5, c6, c7, c8, c9, c10⟩, _⟩ := has11 k8.c
 clear k8 i8 d8 RB8
 go_upto_region 36 with fail
 go_cut [] from 174 to 180 (fun wx => RegR w I2 I4 pc r0 r1 r2 r3 r4 r5 r6 r7 b s (18) x y imm (.slice (some ⟨xb, 0, none⟩) 2200 cB) (.slice (some ⟨yb, 0, none⟩) 2200 cU) ⟨pc2, [s0, s1, s2, s3, s4, s5, s6, s7], b2, z2⟩ xb cB B wx)
 case first =>
  go_region_with (first | (go_at_call 52; (with_reducible refine (CD.out _).mono ?_); rintro e w3 ⟨rfl, hb3⟩; obtain ⟨W9, e9, ⟨u9, h9⟩, g9, k9, i9, d9', ch9⟩ := reg_world (KD.out.below hb3) (ID.out.below hb3) (DD.out.below hb3) (by omega) (by omega) x hx rv; have ji := (ID.out.below hb3).cell 1; simp only [List.getElem?_cons_succ, List.getElem?_cons_zero] at ji; rw [HF.out] at d9'; have HRR := Lib.hid (show RegR w I2 I4 pc r0 r1 r2 r3 r4 r5 r6 r7 b s (18) x y imm (.slice (some ⟨xb, 0, none⟩) 2200 cB) (.slice (some ⟨yb, 0, none⟩) 2200 cU) ⟨pc2, [s0, s1, s2, s3, s4, s5, s6, s7], b2, z2⟩ xb cB B W9 from ⟨k9, i9, d9', (RD.out.below hb3).chg ch9 (by have := HXB.out; omega) (by have := HXB.out; omega)⟩); clear k9 i9 d9' ch9 hb3))
  all_goals go_wp2_with fail
  all_goals go_meet
  all_goals exact HRR.out
 case rest =>
  obtain ⟨k9, i9, d9', rb9⟩ := hcut
  clear v0 v1 v2 v3 c0 c1 c2 c3 c4 c5 c6 c7 c8 c9 c10 CD KD ID DD RD
  dsimp only [Cp.cs, List.map_cons, List.map_nil, List.cons_append, List.nil_append] at d9'
  have K9 := Lib.hid k9
  have RB9 := Lib.hid rb9
  obtain ⟨⟨j0, j1⟩, ⟨j2, j3⟩⟩ : (wc.cell? ⟨I2, 0, none⟩ = some (.int .i64 (18)) ∧ wc.cell? ⟨I2, 1, none⟩ = some (.int .i64 x)) ∧ (wc.cell? ⟨I2, 2, none⟩ = some (.int .i64 y) ∧ wc.cell? ⟨I2, 3, none⟩ = some (.int .u32 imm)) := ⟨⟨i9.cell 0, i9.cell 1⟩, ⟨i9.cell 2, i9.cell 3⟩⟩
  obtain ⟨⟨n0, n1, n2, n3, n4, n5, n6, n7, n8, n9, n10⟩, _⟩ := has11 d9'
  obtain ⟨⟨m0, m1⟩, _⟩ := has2 k9.m
  clear k9 i9 d9' rb9
  obtain ⟨⟨d0, d1, d2, d3, d4, d5, d6, d7, d8, d9, d10⟩, ⟨f0, f1, f2, f3, f4, f5, f6, f7, f8, f9, f10⟩⟩ := has11 K9.out.d
  obtain ⟨⟨o0, o1⟩, ⟨q0, q1⟩⟩ := has2 K9.out.o
  go_wp2_with fail
  go_region
  all_goals go_wp2_with fail
  all_goals refine bodyPost_ret (v := .tuple #[.agg #[.int .u32 pc2, .int .u32 s0, .int .u32 s1, .int .u32 s2, .int .u32 s3, .int .u32 s4, .int .u32 s5, .int .u32 s6, .int .u32 s7, .int .u32 b2, .int .u32 z2], .agg #[.slice (some ⟨xb, 0, none⟩) 2200 cB, .slice (some ⟨yb, 0, none⟩) 2200 cU], .int .i64 0, .int .i64 0]) (by simp [results, Tryz.results31, go_sem, d0, d1, d2, d3, d4, d5, d6, d7, d8, d9, d10, o0, o1]) rfl ?_
  all_goals obtain ⟨x1, x2⟩ := rst13 K9.out.bel (.int .u32 pc2) (.int .u32 s0) (.int .u32 s1) (.int .u32 s2) (.int .u32 s3) (.int .u32 s4) (.int .u32 s5) (.int .u32 s6) (.int .u32 s7) (.int .u32 b2) (.int .u32 z2) (.slice (some ⟨xb, 0, none⟩) 2200 cB) (.slice (some ⟨yb, 0, none⟩) 2200 cU)
  all_goals exact ⟨_, _, rfl, (RB9.out).chg x1 (by have := HXB.out; omega) (by have := HXB.out; omega), x2, .inl rfl⟩
set_option maxRecDepth 100000 in
set_option maxHeartbeats 8000000 in
theorem rdo_15far (xb yb cB cU : Nat) (B : List Int) (r0 r1 r2 r3 r4 r5 r6 r7 b s : Int) (pc : Nat) (hB : B.length = 2200) (hBy : Bytes B) (h1 : pc < 4294967296) (w : World) (rB : RowAt w (some ⟨xb, 0, none⟩) cB B) (rU : BlAt w (some ⟨yb, 0, none⟩) cU U22) (imm va vb : Int)  (x y n : Nat) (hx : x < 8) (hy : y < 8) (i0 : 0 ≤ imm) (i1 : imm < 4294967296) (hn : 1 ≤ n) (hn' : n ≤ 6) (hrd : Rd (codeL B T22 (pc : Int)) 15 x y imm n) (hva : Cp.reg ⟨pc, [r0, r1, r2, r3, r4, r5, r6, r7], b, s⟩ x = va) (hvb : Cp.reg ⟨pc, [r0, r1, r2, r3, r4, r5, r6, r7], b, s⟩ y = vb) (va0 : 0 ≤ va) (va1 : va < 4294967296) (vb0 : 0 ≤ vb) (vb1 : vb < 4294967296) (ok : Cp.Ok ⟨pc, [r0, r1, r2, r3, r4, r5, r6, r7], b, s⟩) (hf : 100000 < vb) :
  Calls Tryz.prog 31 #[.agg #[.int .u32 pc, .int .u32 r0, .int .u32 r1, .int .u32 r2, .int .u32 r3, .int .u32 r4, .int .u32 r5, .int .u32 r6, .int .u32 r7, .int .u32 b, .int .u32 s], .agg #[.slice (some ⟨xb, 0, none⟩) 2200 cB, .slice (some ⟨yb, 0, none⟩) 2200 cU]] w (RDoP w xb yb cU ⟨⟨pc, [r0, r1, r2, r3, r4, r5, r6, r7], b, s⟩, B, 3, 0⟩) := by
 have vf : decide ((100000 : Int) < vb) = true := decide_eq_true hf
 refine rdo_head xb yb cB cU B r0 r1 r2 r3 r4 r5 r6 r7 b s pc hB hBy h1 w rB rU (15) imm va vb x y n hx hy i0 i1 hn hn' hrd hva hvb va0 va1 vb0 vb1 ok (fun Q hQ I2 I4 W8 t8 t9 t17 t18 t19 t20 t21 t22 t23 t24 t25 t26 t27 t28 t29 t30 t31 t32 t33 t34 t35 t36 t37 t38 t39 t40 t41 t42 t43 t44 t45 t46 t47 t48 t49 t50 t51 t52 t53 t54 t55 t56 t57 t58 t59 t60 t61 t62 t63 t64 t65 t66 t67 t68 t69 t70 t71 k8 i8 d8 RB8 RU8 hxb z0 z4 => ?_)
 have HXB := Lib.hid hxb
 have HB := Lib.hid hB
 have HBy := Lib.hid hBy
 have HVA := Lib.hid hva
 have HVB := Lib.hid hvb
 have OK := Lib.hid ok
 replace RB8 := Lib.hid RB8
 replace RU8 := Lib.hid RU8
 have xI : (x : Int) < 8 := by omega
 have N0 : (1 : Int) ≤ (n : Int) := by omega
 have N1 : (n : Int) ≤ 6 := by omega
 clear rB rU hB hBy hrd hva hvb ok hxb
 dsimp only [rdoRest, rightC, Option.getD, Tryz.f31]
 subst hQ
 obtain ⟨⟨v0, v1⟩, ⟨v2, v3⟩⟩ : (W8.cell? ⟨I2, 0, none⟩ = some (.int .i64 (15)) ∧ W8.cell? ⟨I2, 1, none⟩ = some (.int .i64 x)) ∧ (W8.cell? ⟨I2, 2, none⟩ = some (.int .i64 y) ∧ W8.cell? ⟨I2, 3, none⟩ = some (.int .u32 imm)) := ⟨⟨i8.cell 0, i8.cell 1⟩, ⟨i8.cell 2, i8.cell 3⟩⟩
 obtain ⟨⟨c0, c1, c2, c3, c4, c5, c6, c7, c8, c9, c10⟩, _⟩ := has11 k8.c
 obtain ⟨⟨m0, m1⟩, _⟩ := has2 k8.m
 have K8 := Lib.hid k8
 clear k8 i8 d8
 obtain ⟨⟨d0, d1, d2, d3, d4, d5, d6, d7, d8, d9, d10⟩, ⟨f0, f1, f2, f3, f4, f5, f6, f7, f8, f9, f10⟩⟩ := has11 K8.out.d
 obtain ⟨⟨o0, o1⟩, ⟨q0, q1⟩⟩ := has2 K8.out.o
 go_wp2_with fail
 go_region
 all_goals go_wp2_with fail
 all_goals refine bodyPost_ret (v := .tuple #[.agg #[.int .u32 pc, .int .u32 r0, .int .u32 r1, .int .u32 r2, .int .u32 r3, .int .u32 r4, .int .u32 r5, .int .u32 r6, .int .u32 r7, .int .u32 b, .int .u32 s], .agg #[.slice (some ⟨xb, 0, none⟩) 2200 cB, .slice (some ⟨yb, 0, none⟩) 2200 cU], .int .i64 3, .int .i64 0]) (by simp [results, Tryz.results31, go_sem, d0, d1, d2, d3, d4, d5, d6, d7, d8, d9, d10, o0, o1]) rfl ?_
 all_goals obtain ⟨x1, x2⟩ := rst13 K8.out.bel (.int .u32 pc) (.int .u32 r0) (.int .u32 r1) (.int .u32 r2) (.int .u32 r3) (.int .u32 r4) (.int .u32 r5) (.int .u32 r6) (.int .u32 r7) (.int .u32 b) (.int .u32 s) (.slice (some ⟨xb, 0, none⟩) 2200 cB) (.slice (some ⟨yb, 0, none⟩) 2200 cU)
 all_goals exact ⟨_, _, rfl, (RB8.out).chg x1 (by have := HXB.out; omega) (by have := HXB.out; omega), x2, .inl rfl⟩
set_option maxRecDepth 100000 in
set_option maxHeartbeats 8000000 in
theorem rdo_15no (xb yb cB cU : Nat) (B : List Int) (r0 r1 r2 r3 r4 r5 r6 r7 b s : Int) (pc : Nat) (hB : B.length = 2200) (hBy : Bytes B) (h1 : pc < 4294967296) (w : World) (rB : RowAt w (some ⟨xb, 0, none⟩) cB B) (rU : BlAt w (some ⟨yb, 0, none⟩) cU U22) (imm va vb : Int)  (x y n : Nat) (hx : x < 8) (hy : y < 8) (i0 : 0 ≤ imm) (i1 : imm < 4294967296) (hn : 1 ≤ n) (hn' : n ≤ 6) (hrd : Rd (codeL B T22 (pc : Int)) 15 x y imm n) (hva : Cp.reg ⟨pc, [r0, r1, r2, r3, r4, r5, r6, r7], b, s⟩ x = va) (hvb : Cp.reg ⟨pc, [r0, r1, r2, r3, r4, r5, r6, r7], b, s⟩ y = vb) (va0 : 0 ≤ va) (va1 : va < 4294967296) (vb0 : 0 ≤ vb) (vb1 : vb < 4294967296) (ok : Cp.Ok ⟨pc, [r0, r1, r2, r3, r4, r5, r6, r7], b, s⟩) (hf : vb ≤ 100000) (hg : vb < 1024 ∨ 2048 < vb + 4) :
  Calls Tryz.prog 31 #[.agg #[.int .u32 pc, .int .u32 r0, .int .u32 r1, .int .u32 r2, .int .u32 r3, .int .u32 r4, .int .u32 r5, .int .u32 r6, .int .u32 r7, .int .u32 b, .int .u32 s], .agg #[.slice (some ⟨xb, 0, none⟩) 2200 cB, .slice (some ⟨yb, 0, none⟩) 2200 cU]] w (RDoP w xb yb cU ⟨⟨pc, [r0, r1, r2, r3, r4, r5, r6, r7], b, s⟩, B, 3, 0⟩) := by
 obtain ⟨vn, hvn⟩ : ∃ vn : Nat, vb = vn := ⟨vb.toNat, by omega⟩
 have HVN := Lib.hid hvn
 have HF1 := Lib.hid hf
 clear hf
 have HG1 := Lib.hid hg
 clear hg hvn
 refine rdo_head xb yb cB cU B r0 r1 r2 r3 r4 r5 r6 r7 b s pc hB hBy h1 w rB rU (15) imm va vb x y n hx hy i0 i1 hn hn' hrd hva hvb va0 va1 vb0 vb1 ok (fun Q hQ I2 I4 W8 t8 t9 t17 t18 t19 t20 t21 t22 t23 t24 t25 t26 t27 t28 t29 t30 t31 t32 t33 t34 t35 t36 t37 t38 t39 t40 t41 t42 t43 t44 t45 t46 t47 t48 t49 t50 t51 t52 t53 t54 t55 t56 t57 t58 t59 t60 t61 t62 t63 t64 t65 t66 t67 t68 t69 t70 t71 k8 i8 d8 RB8 RU8 hxb z0 z4 => ?_)
 have HXB := Lib.hid hxb
 have HB := Lib.hid hB
 have HBy := Lib.hid hBy
 have HVA := Lib.hid hva
 have HVB := Lib.hid hvb
 have OK := Lib.hid ok
 replace RB8 := Lib.hid RB8
 replace RU8 := Lib.hid RU8
 have xI : (x : Int) < 8 := by omega
 have N0 : (1 : Int) ≤ (n : Int) := by omega
 have N1 : (n : Int) ≤ 6 := by omega
 clear rB rU hB hBy hrd hva hvb ok hxb
 dsimp only [rdoRest, rightC, Option.getD, Tryz.f31]
 subst hQ
 obtain ⟨⟨v0, v1⟩, ⟨v2, v3⟩⟩ : (W8.cell? ⟨I2, 0, none⟩ = some (.int .i64 (15)) ∧ W8.cell? ⟨I2, 1, none⟩ = some (.int .i64 x)) ∧ (W8.cell? ⟨I2, 2, none⟩ = some (.int .i64 y) ∧ W8.cell? ⟨I2, 3, none⟩ = some (.int .u32 imm)) := ⟨⟨i8.cell 0, i8.cell 1⟩, ⟨i8.cell 2, i8.cell 3⟩⟩
 obtain ⟨⟨m0, m1⟩, _⟩ := has2 k8.m
 have ca := fun W r => all22 ⟨xb, 0, none⟩ yb vn 4 cB cU (by have := HVN.out; omega) (by decide) (by decide) W r
 rw [show decide (1024 ≤ vn ∧ vn + 4 ≤ 2048) = false from decide_eq_false (by have := HVN.out; have := HG1.out; omega), ← HVN.out] at ca
 have CA := Lib.hid ca
 clear ca
 have vf : decide ((100000 : Int) < vb) = false := decide_eq_false (by have := HVN.out; have := HG1.out; have := HF1.out; omega)
 go_wp2_with fail
 refine (CA.out _ RU8.out).mono ?_; rintro e wA ⟨rfl, hbA⟩
 have kA := k8.below hbA
 have iA := HasB.below i8 hbA
 have dA := HasB.below d8 hbA
 have RBA := Lib.hid (RB8.out.below hbA)
 clear v0 v1 v2 v3 m0 m1 k8 i8 d8 RB8 hbA CA
 obtain ⟨⟨v0, v1⟩, ⟨v2, v3⟩⟩ : (wA.cell? ⟨I2, 0, none⟩ = some (.int .i64 (15)) ∧ wA.cell? ⟨I2, 1, none⟩ = some (.int .i64 x)) ∧ (wA.cell? ⟨I2, 2, none⟩ = some (.int .i64 y) ∧ wA.cell? ⟨I2, 3, none⟩ = some (.int .u32 imm)) := ⟨⟨iA.cell 0, iA.cell 1⟩, ⟨iA.cell 2, iA.cell 3⟩⟩
 obtain ⟨⟨c0, c1, c2, c3, c4, c5, c6, c7, c8, c9, c10⟩, _⟩ := has11 kA.c
 obtain ⟨⟨m0, m1⟩, _⟩ := has2 kA.m
 have K8 := Lib.hid kA
 clear kA iA dA
 obtain ⟨⟨d0, d1, d2, d3, d4, d5, d6, d7, d8, d9, d10⟩, ⟨f0, f1, f2, f3, f4, f5, f6, f7, f8, f9, f10⟩⟩ := has11 K8.out.d
 obtain ⟨⟨o0, o1⟩, ⟨q0, q1⟩⟩ := has2 K8.out.o
 go_wp2_with fail
 go_region
 all_goals go_wp2_with fail
 all_goals refine bodyPost_ret (v := .tuple #[.agg #[.int .u32 pc, .int .u32 r0, .int .u32 r1, .int .u32 r2, .int .u32 r3, .int .u32 r4, .int .u32 r5, .int .u32 r6, .int .u32 r7, .int .u32 b, .int .u32 s], .agg #[.slice (some ⟨xb, 0, none⟩) 2200 cB, .slice (some ⟨yb, 0, none⟩) 2200 cU], .int .i64 3, .int .i64 0]) (by simp [results, Tryz.results31, go_sem, d0, d1, d2, d3, d4, d5, d6, d7, d8, d9, d10, o0, o1]) rfl ?_
 all_goals obtain ⟨x1, x2⟩ := rst13 K8.out.bel (.int .u32 pc) (.int .u32 r0) (.int .u32 r1) (.int .u32 r2) (.int .u32 r3) (.int .u32 r4) (.int .u32 r5) (.int .u32 r6) (.int .u32 r7) (.int .u32 b) (.int .u32 s) (.slice (some ⟨xb, 0, none⟩) 2200 cB) (.slice (some ⟨yb, 0, none⟩) 2200 cU)
 all_goals exact ⟨_, _, rfl, (RBA.out).chg x1 (by have := HXB.out; omega) (by have := HXB.out; omega), x2, .inl rfl⟩
set_option maxRecDepth 100000 in
set_option maxHeartbeats 8000000 in
theorem rdo_15yes (xb yb cB cU : Nat) (B : List Int) (r0 r1 r2 r3 r4 r5 r6 r7 b s : Int) (pc : Nat) (hB : B.length = 2200) (hBy : Bytes B) (h1 : pc < 4294967296) (w : World) (rB : RowAt w (some ⟨xb, 0, none⟩) cB B) (rU : BlAt w (some ⟨yb, 0, none⟩) cU U22) (imm va vb : Int)  (x y n : Nat) (hx : x < 8) (hy : y < 8) (i0 : 0 ≤ imm) (i1 : imm < 4294967296) (hn : 1 ≤ n) (hn' : n ≤ 6) (hrd : Rd (codeL B T22 (pc : Int)) 15 x y imm n) (hva : Cp.reg ⟨pc, [r0, r1, r2, r3, r4, r5, r6, r7], b, s⟩ x = va) (hvb : Cp.reg ⟨pc, [r0, r1, r2, r3, r4, r5, r6, r7], b, s⟩ y = vb) (va0 : 0 ≤ va) (va1 : va < 4294967296) (vb0 : 0 ≤ vb) (vb1 : vb < 4294967296) (ok : Cp.Ok ⟨pc, [r0, r1, r2, r3, r4, r5, r6, r7], b, s⟩) (hg : 1024 ≤ vb ∧ vb + 4 ≤ 2048) :
  Calls Tryz.prog 31 #[.agg #[.int .u32 pc, .int .u32 r0, .int .u32 r1, .int .u32 r2, .int .u32 r3, .int .u32 r4, .int .u32 r5, .int .u32 r6, .int .u32 r7, .int .u32 b, .int .u32 s], .agg #[.slice (some ⟨xb, 0, none⟩) 2200 cB, .slice (some ⟨yb, 0, none⟩) 2200 cU]] w (RDoP w xb yb cU ⟨(⟨(((pc : Int) + (n : Int)) % 4294967296), [r0, r1, r2, r3, r4, r5, r6, r7], b, s⟩ : Cp).setR x (v4 B vb.toNat), B, 0, 0⟩) := by
 obtain ⟨vn, hvn⟩ : ∃ vn : Nat, vb = vn := ⟨vb.toNat, by omega⟩
 have HVN := Lib.hid hvn
 have HG1 := Lib.hid hg
 clear hg hvn
 obtain ⟨rv, hrv⟩ : ∃ rv, v4 B vn = rv := ⟨_, rfl⟩
 have hrvb : U32 rv := hrv ▸ v4_bd B vn hBy
 rw [show vb.toNat = vn by have := HVN.out; omega, hrv]
 replace hrv := Lib.hid hrv
 obtain ⟨F, hF⟩ : ∃ F, (⟨(((pc : Int) + (n : Int)) % 4294967296), [r0, r1, r2, r3, r4, r5, r6, r7], b, s⟩ : Cp).setR x rv = F := ⟨_, rfl⟩
 have hFok : F.Ok := hF ▸ (ok.setPc (wrap_u ((pc : Int) + (n : Int)))).setR x hrvb
 rw [hF]
 have HF := Lib.hid hF
 clear hF
 obtain ⟨s0, s1, s2, s3, s4, s5, s6, s7, hs⟩ := hFok.eight
 obtain ⟨pc2, r', b2, z2⟩ := F
 simp only at hs
 subst hs
 clear hFok
 refine rdo_head xb yb cB cU B r0 r1 r2 r3 r4 r5 r6 r7 b s pc hB hBy h1 w rB rU (15) imm va vb x y n hx hy i0 i1 hn hn' hrd hva hvb va0 va1 vb0 vb1 ok (fun Q hQ I2 I4 W8 t8 t9 t17 t18 t19 t20 t21 t22 t23 t24 t25 t26 t27 t28 t29 t30 t31 t32 t33 t34 t35 t36 t37 t38 t39 t40 t41 t42 t43 t44 t45 t46 t47 t48 t49 t50 t51 t52 t53 t54 t55 t56 t57 t58 t59 t60 t61 t62 t63 t64 t65 t66 t67 t68 t69 t70 t71 k8 i8 d8 RB8 RU8 hxb z0 z4 => ?_)
 have HXB := Lib.hid hxb
 have HB := Lib.hid hB
 have HBy := Lib.hid hBy
 have HVA := Lib.hid hva
 have HVB := Lib.hid hvb
 have OK := Lib.hid ok
 replace RB8 := Lib.hid RB8
 replace RU8 := Lib.hid RU8
 have xI : (x : Int) < 8 := by omega
 have N0 : (1 : Int) ≤ (n : Int) := by omega
 have N1 : (n : Int) ≤ 6 := by omega
 clear rB rU hB hBy hrd hva hvb ok hxb
 dsimp only [rdoRest, rightC, Option.getD, Tryz.f31]
 subst hQ
 obtain ⟨⟨v0, v1⟩, ⟨v2, v3⟩⟩ : (W8.cell? ⟨I2, 0, none⟩ = some (.int .i64 (15)) ∧ W8.cell? ⟨I2, 1, none⟩ = some (.int .i64 x)) ∧ (W8.cell? ⟨I2, 2, none⟩ = some (.int .i64 y) ∧ W8.cell? ⟨I2, 3, none⟩ = some (.int .u32 imm)) := ⟨⟨i8.cell 0, i8.cell 1⟩, ⟨i8.cell 2, i8.cell 3⟩⟩
 obtain ⟨⟨m0, m1⟩, _⟩ := has2 k8.m
 have ca := fun W r => all22 ⟨xb, 0, none⟩ yb vn 4 cB cU (by have := HVN.out; omega) (by decide) (by decide) W r
 rw [show decide (1024 ≤ vn ∧ vn + 4 ≤ 2048) = true from decide_eq_true (by have := HVN.out; have := HG1.out; omega), ← HVN.out] at ca
 have CA := Lib.hid ca
 clear ca
 have vf : decide ((100000 : Int) < vb) = false := decide_eq_false (by have := HVN.out; have := HG1.out; omega)
 go_wp2_with fail
 refine (CA.out _ RU8.out).mono ?_; rintro e wA ⟨rfl, hbA⟩
 have kA := k8.below hbA
 have iA := HasB.below i8 hbA
 have dA := HasB.below d8 hbA
 have RBA := Lib.hid (RB8.out.below hbA)
 clear v0 v1 v2 v3 m0 m1 k8 i8 d8 RB8 hbA CA
 obtain ⟨⟨v0, v1⟩, ⟨v2, v3⟩⟩ : (wA.cell? ⟨I2, 0, none⟩ = some (.int .i64 (15)) ∧ wA.cell? ⟨I2, 1, none⟩ = some (.int .i64 x)) ∧ (wA.cell? ⟨I2, 2, none⟩ = some (.int .i64 y) ∧ wA.cell? ⟨I2, 3, none⟩ = some (.int .u32 imm)) := ⟨⟨iA.cell 0, iA.cell 1⟩, ⟨iA.cell 2, iA.cell 3⟩⟩
 obtain ⟨⟨m0, m1⟩, _⟩ := has2 kA.m
 have cd := fun W r => rNum_any ⟨xb, 0, none⟩ ⟨yb, 0, none⟩ 2200 vn cB cU B HB.out (by decide) (by have := HVN.out; have := HG1.out; omega) W r
 rw [hrv.out, ← HVN.out] at cd
 have CD := Lib.hid cd
 clear cd
 have KD := Lib.hid (kA.below (Below.refl _ _).drew)
 have ID := Lib.hid (HasB.below iA (Below.refl _ _).drew)
 have DD := Lib.hid (HasB.below dA (Below.refl _ _).drew)
 have RD := Lib.hid (RBA.out.below (Below.refl _ _).drew)
 clear kA iA dA RBA
 go_upto_region 28 with fail
 go_cut [] from 133 to 140 (fun wx => RegR w I2 I4 pc r0 r1 r2 r3 r4 r5 r6 r7 b s (15) x y imm (.slice (some ⟨xb, 0, none⟩) 2200 cB) (.slice (some ⟨yb, 0, none⟩) 2200 cU) ⟨pc2, [s0, s1, s2, s3, s4, s5, s6, s7], b2, z2⟩ xb cB B wx)
 case first =>
  have wv : IntKind.i64.wrap vb = vb := IntWalk.i64_in _ (by omega)
  go_region_with (first | (go_at_call 49; (with_reducible refine (CD.out _ RD.out).mono ?_); rintro e w3 ⟨rfl, hb3⟩; obtain ⟨W9, e9, ⟨u9, h9⟩, g9, k9, i9, d9', ch9⟩ := reg_world (KD.out.below hb3) (ID.out.below hb3) (DD.out.below hb3) (by omega) (by omega) x hx rv; have ji := (ID.out.below hb3).cell 1; simp only [List.getElem?_cons_succ, List.getElem?_cons_zero] at ji; rw [HF.out] at d9'; have HRR := Lib.hid (show RegR w I2 I4 pc r0 r1 r2 r3 r4 r5 r6 r7 b s (15) x y imm (.slice (some ⟨xb, 0, none⟩) 2200 cB) (.slice (some ⟨yb, 0, none⟩) 2200 cU) ⟨pc2, [s0, s1, s2, s3, s4, s5, s6, s7], b2, z2⟩ xb cB B W9 from ⟨k9, i9, d9', (RD.out.below hb3).chg ch9 (by have := HXB.out; omega) (by have := HXB.out; omega)⟩); clear k9 i9 d9' ch9 hb3))
  all_goals go_wp2_with fail
  all_goals go_meet
  all_goals exact HRR.out
 case rest =>
  obtain ⟨k9, i9, d9', rb9⟩ := hcut
  clear v0 v1 v2 v3 m0 m1 CD KD ID DD RD
  dsimp only [Cp.cs, List.map_cons, List.map_nil, List.cons_append, List.nil_append] at d9'
  have K9 := Lib.hid k9
  have RB9 := Lib.hid rb9
  obtain ⟨⟨j0, j1⟩, ⟨j2, j3⟩⟩ : (wc.cell? ⟨I2, 0, none⟩ = some (.int .i64 (15)) ∧ wc.cell? ⟨I2, 1, none⟩ = some (.int .i64 x)) ∧ (wc.cell? ⟨I2, 2, none⟩ = some (.int .i64 y) ∧ wc.cell? ⟨I2, 3, none⟩ = some (.int .u32 imm)) := ⟨⟨i9.cell 0, i9.cell 1⟩, ⟨i9.cell 2, i9.cell 3⟩⟩
  obtain ⟨⟨n0, n1, n2, n3, n4, n5, n6, n7, n8, n9, n10⟩, _⟩ := has11 d9'
  obtain ⟨⟨m0, m1⟩, _⟩ := has2 k9.m
  clear k9 i9 d9' rb9
  obtain ⟨⟨d0, d1, d2, d3, d4, d5, d6, d7, d8, d9, d10⟩, ⟨f0, f1, f2, f3, f4, f5, f6, f7, f8, f9, f10⟩⟩ := has11 K9.out.d
  obtain ⟨⟨o0, o1⟩, ⟨q0, q1⟩⟩ := has2 K9.out.o
  go_wp2_with fail
  go_region
  all_goals go_wp2_with fail
  all_goals refine bodyPost_ret (v := .tuple #[.agg #[.int .u32 pc2, .int .u32 s0, .int .u32 s1, .int .u32 s2, .int .u32 s3, .int .u32 s4, .int .u32 s5, .int .u32 s6, .int .u32 s7, .int .u32 b2, .int .u32 z2], .agg #[.slice (some ⟨xb, 0, none⟩) 2200 cB, .slice (some ⟨yb, 0, none⟩) 2200 cU], .int .i64 0, .int .i64 0]) (by simp [results, Tryz.results31, go_sem, d0, d1, d2, d3, d4, d5, d6, d7, d8, d9, d10, o0, o1]) rfl ?_
  all_goals obtain ⟨x1, x2⟩ := rst13 K9.out.bel (.int .u32 pc2) (.int .u32 s0) (.int .u32 s1) (.int .u32 s2) (.int .u32 s3) (.int .u32 s4) (.int .u32 s5) (.int .u32 s6) (.int .u32 s7) (.int .u32 b2) (.int .u32 z2) (.slice (some ⟨xb, 0, none⟩) 2200 cB) (.slice (some ⟨yb, 0, none⟩) 2200 cU)
  all_goals exact ⟨_, _, rfl, (RB9.out).chg x1 (by have := HXB.out; omega) (by have := HXB.out; omega), x2, .inl rfl⟩
def RegS (w : World) (I D : Nat) (pc r0 r1 r2 r3 r4 r5 r6 r7 b s op x y imm : Int) (M1 : Value) (ds : List Value) (B : List Int) (W : World) : Prop :=
 ∃ g' c', RDoS w pc r0 r1 r2 r3 r4 r5 r6 r7 b s (.slice (some ⟨g', 0, none⟩) 2200 c') M1 W ∧ HasB W I 100 [.int .i64 op, .int .i64 x, .int .i64 y, .int .u32 imm] ∧ HasB W D 47 ds ∧ RowAt W (some ⟨g', 0, none⟩) c' B ∧ w.heap.size + 1 + 1 + 1 < g'
set_option maxRecDepth 100000 in
set_option maxHeartbeats 8000000 in
theorem rdo_16far (xb yb cB cU : Nat) (B : List Int) (r0 r1 r2 r3 r4 r5 r6 r7 b s : Int) (pc : Nat) (hB : B.length = 2200) (hBy : Bytes B) (h1 : pc < 4294967296) (w : World) (rB : RowAt w (some ⟨xb, 0, none⟩) cB B) (rU : BlAt w (some ⟨yb, 0, none⟩) cU U22) (imm va vb : Int)  (x y n : Nat) (hx : x < 8) (hy : y < 8) (i0 : 0 ≤ imm) (i1 : imm < 4294967296) (hn : 1 ≤ n) (hn' : n ≤ 6) (hrd : Rd (codeL B T22 (pc : Int)) 16 x y imm n) (hva : Cp.reg ⟨pc, [r0, r1, r2, r3, r4, r5, r6, r7], b, s⟩ x = va) (hvb : Cp.reg ⟨pc, [r0, r1, r2, r3, r4, r5, r6, r7], b, s⟩ y = vb) (va0 : 0 ≤ va) (va1 : va < 4294967296) (vb0 : 0 ≤ vb) (vb1 : vb < 4294967296) (ok : Cp.Ok ⟨pc, [r0, r1, r2, r3, r4, r5, r6, r7], b, s⟩) (hf : 100000 < va) :
  Calls Tryz.prog 31 #[.agg #[.int .u32 pc, .int .u32 r0, .int .u32 r1, .int .u32 r2, .int .u32 r3, .int .u32 r4, .int .u32 r5, .int .u32 r6, .int .u32 r7, .int .u32 b, .int .u32 s], .agg #[.slice (some ⟨xb, 0, none⟩) 2200 cB, .slice (some ⟨yb, 0, none⟩) 2200 cU]] w (RDoP w xb yb cU ⟨⟨pc, [r0, r1, r2, r3, r4, r5, r6, r7], b, s⟩, B, 3, 0⟩) := by
 have vf : decide ((100000 : Int) < va) = true := decide_eq_true hf
 refine rdo_head xb yb cB cU B r0 r1 r2 r3 r4 r5 r6 r7 b s pc hB hBy h1 w rB rU (16) imm va vb x y n hx hy i0 i1 hn hn' hrd hva hvb va0 va1 vb0 vb1 ok (fun Q hQ I2 I4 W8 t8 t9 t17 t18 t19 t20 t21 t22 t23 t24 t25 t26 t27 t28 t29 t30 t31 t32 t33 t34 t35 t36 t37 t38 t39 t40 t41 t42 t43 t44 t45 t46 t47 t48 t49 t50 t51 t52 t53 t54 t55 t56 t57 t58 t59 t60 t61 t62 t63 t64 t65 t66 t67 t68 t69 t70 t71 k8 i8 d8 RB8 RU8 hxb z0 z4 => ?_)
 have HXB := Lib.hid hxb
 have HB := Lib.hid hB
 have HBy := Lib.hid hBy
 have HVA := Lib.hid hva
 have HVB := Lib.hid hvb
 have OK := Lib.hid ok
 replace RB8 := Lib.hid RB8
 replace RU8 := Lib.hid RU8
 have xI : (x : Int) < 8 := by omega
 have N0 : (1 : Int) ≤ (n : Int) := by omega
 have N1 : (n : Int) ≤ 6 := by omega
 clear rB rU hB hBy hrd hva hvb ok hxb
 dsimp only [rdoRest, rightC, Option.getD, Tryz.f31]
 subst hQ
 obtain ⟨⟨v0, v1⟩, ⟨v2, v3⟩⟩ : (W8.cell? ⟨I2, 0, none⟩ = some (.int .i64 (16)) ∧ W8.cell? ⟨I2, 1, none⟩ = some (.int .i64 x)) ∧ (W8.cell? ⟨I2, 2, none⟩ = some (.int .i64 y) ∧ W8.cell? ⟨I2, 3, none⟩ = some (.int .u32 imm)) := ⟨⟨i8.cell 0, i8.cell 1⟩, ⟨i8.cell 2, i8.cell 3⟩⟩
 obtain ⟨⟨c0, c1, c2, c3, c4, c5, c6, c7, c8, c9, c10⟩, _⟩ := has11 k8.c
 obtain ⟨⟨m0, m1⟩, _⟩ := has2 k8.m
 have K8 := Lib.hid k8
 clear k8 i8 d8
 obtain ⟨⟨d0, d1, d2, d3, d4, d5, d6, d7, d8, d9, d10⟩, ⟨f0, f1, f2, f3, f4, f5, f6, f7, f8, f9, f10⟩⟩ := has11 K8.out.d
 obtain ⟨⟨o0, o1⟩, ⟨q0, q1⟩⟩ := has2 K8.out.o
 go_wp2_with fail
 go_region
 all_goals go_wp2_with fail
 all_goals refine bodyPost_ret (v := .tuple #[.agg #[.int .u32 pc, .int .u32 r0, .int .u32 r1, .int .u32 r2, .int .u32 r3, .int .u32 r4, .int .u32 r5, .int .u32 r6, .int .u32 r7, .int .u32 b, .int .u32 s], .agg #[.slice (some ⟨xb, 0, none⟩) 2200 cB, .slice (some ⟨yb, 0, none⟩) 2200 cU], .int .i64 3, .int .i64 0]) (by simp [results, Tryz.results31, go_sem, d0, d1, d2, d3, d4, d5, d6, d7, d8, d9, d10, o0, o1]) rfl ?_
 all_goals obtain ⟨x1, x2⟩ := rst13 K8.out.bel (.int .u32 pc) (.int .u32 r0) (.int .u32 r1) (.int .u32 r2) (.int .u32 r3) (.int .u32 r4) (.int .u32 r5) (.int .u32 r6) (.int .u32 r7) (.int .u32 b) (.int .u32 s) (.slice (some ⟨xb, 0, none⟩) 2200 cB) (.slice (some ⟨yb, 0, none⟩) 2200 cU)
 all_goals exact ⟨_, _, rfl, (RB8.out).chg x1 (by have := HXB.out; omega) (by have := HXB.out; omega), x2, .inl rfl⟩
set_option maxRecDepth 100000 in
set_option maxHeartbeats 8000000 in
theorem rdo_16no (xb yb cB cU : Nat) (B : List Int) (r0 r1 r2 r3 r4 r5 r6 r7 b s : Int) (pc : Nat) (hB : B.length = 2200) (hBy : Bytes B) (h1 : pc < 4294967296) (w : World) (rB : RowAt w (some ⟨xb, 0, none⟩) cB B) (rU : BlAt w (some ⟨yb, 0, none⟩) cU U22) (imm va vb : Int)  (x y n : Nat) (hx : x < 8) (hy : y < 8) (i0 : 0 ≤ imm) (i1 : imm < 4294967296) (hn : 1 ≤ n) (hn' : n ≤ 6) (hrd : Rd (codeL B T22 (pc : Int)) 16 x y imm n) (hva : Cp.reg ⟨pc, [r0, r1, r2, r3, r4, r5, r6, r7], b, s⟩ x = va) (hvb : Cp.reg ⟨pc, [r0, r1, r2, r3, r4, r5, r6, r7], b, s⟩ y = vb) (va0 : 0 ≤ va) (va1 : va < 4294967296) (vb0 : 0 ≤ vb) (vb1 : vb < 4294967296) (ok : Cp.Ok ⟨pc, [r0, r1, r2, r3, r4, r5, r6, r7], b, s⟩) (hf : va ≤ 100000) (hg : va < 1024 ∨ 2048 < va + 4) :
  Calls Tryz.prog 31 #[.agg #[.int .u32 pc, .int .u32 r0, .int .u32 r1, .int .u32 r2, .int .u32 r3, .int .u32 r4, .int .u32 r5, .int .u32 r6, .int .u32 r7, .int .u32 b, .int .u32 s], .agg #[.slice (some ⟨xb, 0, none⟩) 2200 cB, .slice (some ⟨yb, 0, none⟩) 2200 cU]] w (RDoP w xb yb cU ⟨⟨pc, [r0, r1, r2, r3, r4, r5, r6, r7], b, s⟩, B, 3, 0⟩) := by
 obtain ⟨vn, hvn⟩ : ∃ vn : Nat, va = vn := ⟨va.toNat, by omega⟩
 have HVN := Lib.hid hvn
 have HF1 := Lib.hid hf
 clear hf
 have HG1 := Lib.hid hg
 clear hg hvn
 refine rdo_head xb yb cB cU B r0 r1 r2 r3 r4 r5 r6 r7 b s pc hB hBy h1 w rB rU (16) imm va vb x y n hx hy i0 i1 hn hn' hrd hva hvb va0 va1 vb0 vb1 ok (fun Q hQ I2 I4 W8 t8 t9 t17 t18 t19 t20 t21 t22 t23 t24 t25 t26 t27 t28 t29 t30 t31 t32 t33 t34 t35 t36 t37 t38 t39 t40 t41 t42 t43 t44 t45 t46 t47 t48 t49 t50 t51 t52 t53 t54 t55 t56 t57 t58 t59 t60 t61 t62 t63 t64 t65 t66 t67 t68 t69 t70 t71 k8 i8 d8 RB8 RU8 hxb z0 z4 => ?_)
 have HXB := Lib.hid hxb
 have HB := Lib.hid hB
 have HBy := Lib.hid hBy
 have HVA := Lib.hid hva
 have HVB := Lib.hid hvb
 have OK := Lib.hid ok
 replace RB8 := Lib.hid RB8
 replace RU8 := Lib.hid RU8
 have xI : (x : Int) < 8 := by omega
 have N0 : (1 : Int) ≤ (n : Int) := by omega
 have N1 : (n : Int) ≤ 6 := by omega
 clear rB rU hB hBy hrd hva hvb ok hxb
 dsimp only [rdoRest, rightC, Option.getD, Tryz.f31]
 subst hQ
 obtain ⟨⟨v0, v1⟩, ⟨v2, v3⟩⟩ : (W8.cell? ⟨I2, 0, none⟩ = some (.int .i64 (16)) ∧ W8.cell? ⟨I2, 1, none⟩ = some (.int .i64 x)) ∧ (W8.cell? ⟨I2, 2, none⟩ = some (.int .i64 y) ∧ W8.cell? ⟨I2, 3, none⟩ = some (.int .u32 imm)) := ⟨⟨i8.cell 0, i8.cell 1⟩, ⟨i8.cell 2, i8.cell 3⟩⟩
 obtain ⟨⟨m0, m1⟩, _⟩ := has2 k8.m
 have ca := fun W r => all22 ⟨xb, 0, none⟩ yb vn 4 cB cU (by have := HVN.out; omega) (by decide) (by decide) W r
 rw [show decide (1024 ≤ vn ∧ vn + 4 ≤ 2048) = false from decide_eq_false (by have := HVN.out; have := HG1.out; omega), ← HVN.out] at ca
 have CA := Lib.hid ca
 clear ca
 have vf : decide ((100000 : Int) < va) = false := decide_eq_false (by have := HVN.out; have := HG1.out; have := HF1.out; omega)
 go_wp2_with fail
 refine (CA.out _ RU8.out).mono ?_; rintro e wA ⟨rfl, hbA⟩
 have kA := k8.below hbA
 have iA := HasB.below i8 hbA
 have dA := HasB.below d8 hbA
 have RBA := Lib.hid (RB8.out.below hbA)
 clear v0 v1 v2 v3 m0 m1 k8 i8 d8 RB8 hbA CA
 obtain ⟨⟨v0, v1⟩, ⟨v2, v3⟩⟩ : (wA.cell? ⟨I2, 0, none⟩ = some (.int .i64 (16)) ∧ wA.cell? ⟨I2, 1, none⟩ = some (.int .i64 x)) ∧ (wA.cell? ⟨I2, 2, none⟩ = some (.int .i64 y) ∧ wA.cell? ⟨I2, 3, none⟩ = some (.int .u32 imm)) := ⟨⟨iA.cell 0, iA.cell 1⟩, ⟨iA.cell 2, iA.cell 3⟩⟩
 obtain ⟨⟨c0, c1, c2, c3, c4, c5, c6, c7, c8, c9, c10⟩, _⟩ := has11 kA.c
 obtain ⟨⟨m0, m1⟩, _⟩ := has2 kA.m
 have K8 := Lib.hid kA
 clear kA iA dA
 obtain ⟨⟨d0, d1, d2, d3, d4, d5, d6, d7, d8, d9, d10⟩, ⟨f0, f1, f2, f3, f4, f5, f6, f7, f8, f9, f10⟩⟩ := has11 K8.out.d
 obtain ⟨⟨o0, o1⟩, ⟨q0, q1⟩⟩ := has2 K8.out.o
 go_wp2_with fail
 go_region
 all_goals go_wp2_with fail
 all_goals refine bodyPost_ret (v := .tuple #[.agg #[.int .u32 pc, .int .u32 r0, .int .u32 r1, .int .u32 r2, .int .u32 r3, .int .u32 r4, .int .u32 r5, .int .u32 r6, .int .u32 r7, .int .u32 b, .int .u32 s], .agg #[.slice (some ⟨xb, 0, none⟩) 2200 cB, .slice (some ⟨yb, 0, none⟩) 2200 cU], .int .i64 3, .int .i64 0]) (by simp [results, Tryz.results31, go_sem, d0, d1, d2, d3, d4, d5, d6, d7, d8, d9, d10, o0, o1]) rfl ?_
 all_goals obtain ⟨x1, x2⟩ := rst13 K8.out.bel (.int .u32 pc) (.int .u32 r0) (.int .u32 r1) (.int .u32 r2) (.int .u32 r3) (.int .u32 r4) (.int .u32 r5) (.int .u32 r6) (.int .u32 r7) (.int .u32 b) (.int .u32 s) (.slice (some ⟨xb, 0, none⟩) 2200 cB) (.slice (some ⟨yb, 0, none⟩) 2200 cU)
 all_goals exact ⟨_, _, rfl, (RBA.out).chg x1 (by have := HXB.out; omega) (by have := HXB.out; omega), x2, .inl rfl⟩
set_option maxRecDepth 100000 in
set_option maxHeartbeats 8000000 in
theorem rdo_16yes (xb yb cB cU : Nat) (B : List Int) (r0 r1 r2 r3 r4 r5 r6 r7 b s : Int) (pc : Nat) (hB : B.length = 2200) (hBy : Bytes B) (h1 : pc < 4294967296) (w : World) (rB : RowAt w (some ⟨xb, 0, none⟩) cB B) (rU : BlAt w (some ⟨yb, 0, none⟩) cU U22) (imm va vb : Int)  (x y n : Nat) (hx : x < 8) (hy : y < 8) (i0 : 0 ≤ imm) (i1 : imm < 4294967296) (hn : 1 ≤ n) (hn' : n ≤ 6) (hrd : Rd (codeL B T22 (pc : Int)) 16 x y imm n) (hva : Cp.reg ⟨pc, [r0, r1, r2, r3, r4, r5, r6, r7], b, s⟩ x = va) (hvb : Cp.reg ⟨pc, [r0, r1, r2, r3, r4, r5, r6, r7], b, s⟩ y = vb) (va0 : 0 ≤ va) (va1 : va < 4294967296) (vb0 : 0 ≤ vb) (vb1 : vb < 4294967296) (ok : Cp.Ok ⟨pc, [r0, r1, r2, r3, r4, r5, r6, r7], b, s⟩) (hg : 1024 ≤ va ∧ va + 4 ≤ 2048) :
  Calls Tryz.prog 31 #[.agg #[.int .u32 pc, .int .u32 r0, .int .u32 r1, .int .u32 r2, .int .u32 r3, .int .u32 r4, .int .u32 r5, .int .u32 r6, .int .u32 r7, .int .u32 b, .int .u32 s], .agg #[.slice (some ⟨xb, 0, none⟩) 2200 cB, .slice (some ⟨yb, 0, none⟩) 2200 cU]] w (RDoP w xb yb cU ⟨(⟨(((pc : Int) + (n : Int)) % 4294967296), [r0, r1, r2, r3, r4, r5, r6, r7], b, s⟩ : Cp), splice B va.toNat (b4 vb), 0, 0⟩) := by
 obtain ⟨vn, hvn⟩ : ∃ vn : Nat, va = vn := ⟨va.toNat, by omega⟩
 have HVN := Lib.hid hvn
 have HG1 := Lib.hid hg
 clear hg hvn
 rw [show va.toNat = vn by have := HVN.out; omega]
 refine rdo_head xb yb cB cU B r0 r1 r2 r3 r4 r5 r6 r7 b s pc hB hBy h1 w rB rU (16) imm va vb x y n hx hy i0 i1 hn hn' hrd hva hvb va0 va1 vb0 vb1 ok (fun Q hQ I2 I4 W8 t8 t9 t17 t18 t19 t20 t21 t22 t23 t24 t25 t26 t27 t28 t29 t30 t31 t32 t33 t34 t35 t36 t37 t38 t39 t40 t41 t42 t43 t44 t45 t46 t47 t48 t49 t50 t51 t52 t53 t54 t55 t56 t57 t58 t59 t60 t61 t62 t63 t64 t65 t66 t67 t68 t69 t70 t71 k8 i8 d8 RB8 RU8 hxb z0 z4 => ?_)
 have HXB := Lib.hid hxb
 have HB := Lib.hid hB
 have HBy := Lib.hid hBy
 have HVA := Lib.hid hva
 have HVB := Lib.hid hvb
 have OK := Lib.hid ok
 replace RB8 := Lib.hid RB8
 replace RU8 := Lib.hid RU8
 have xI : (x : Int) < 8 := by omega
 have N0 : (1 : Int) ≤ (n : Int) := by omega
 have N1 : (n : Int) ≤ 6 := by omega
 clear rB rU hB hBy hrd hva hvb ok hxb
 dsimp only [rdoRest, rightC, Option.getD, Tryz.f31]
 subst hQ
 obtain ⟨⟨v0, v1⟩, ⟨v2, v3⟩⟩ : (W8.cell? ⟨I2, 0, none⟩ = some (.int .i64 (16)) ∧ W8.cell? ⟨I2, 1, none⟩ = some (.int .i64 x)) ∧ (W8.cell? ⟨I2, 2, none⟩ = some (.int .i64 y) ∧ W8.cell? ⟨I2, 3, none⟩ = some (.int .u32 imm)) := ⟨⟨i8.cell 0, i8.cell 1⟩, ⟨i8.cell 2, i8.cell 3⟩⟩
 obtain ⟨⟨m0, m1⟩, _⟩ := has2 k8.m
 have ca := fun W r => all22 ⟨xb, 0, none⟩ yb vn 4 cB cU (by have := HVN.out; omega) (by decide) (by decide) W r
 rw [show decide (1024 ≤ vn ∧ vn + 4 ≤ 2048) = true from decide_eq_true (by have := HVN.out; have := HG1.out; omega), ← HVN.out] at ca
 have CA := Lib.hid ca
 clear ca
 have vf : decide ((100000 : Int) < va) = false := decide_eq_false (by have := HVN.out; have := HG1.out; omega)
 go_wp2_with fail
 refine (CA.out _ RU8.out).mono ?_; rintro e wA ⟨rfl, hbA⟩
 have kA := k8.below hbA
 have iA := HasB.below i8 hbA
 have dA := HasB.below d8 hbA
 have RBA := Lib.hid (RB8.out.below hbA)
 have RUA := Lib.hid (RU8.out.below hbA)
 clear v0 v1 v2 v3 m0 m1 k8 i8 d8 RB8 hbA CA
 obtain ⟨⟨v0, v1⟩, ⟨v2, v3⟩⟩ : (wA.cell? ⟨I2, 0, none⟩ = some (.int .i64 (16)) ∧ wA.cell? ⟨I2, 1, none⟩ = some (.int .i64 x)) ∧ (wA.cell? ⟨I2, 2, none⟩ = some (.int .i64 y) ∧ wA.cell? ⟨I2, 3, none⟩ = some (.int .u32 imm)) := ⟨⟨iA.cell 0, iA.cell 1⟩, ⟨iA.cell 2, iA.cell 3⟩⟩
 obtain ⟨⟨m0, m1⟩, _⟩ := has2 kA.m
 have cb := fun W => rBytes_bel vb vb0 vb1 W
 have CB := Lib.hid cb
 have cw := fun W q (hyb : yb < W.heap.size) (r : RowAt W (some ⟨xb, 0, none⟩) cB B) (rl : RowAt W (some ⟨q, 0, none⟩) 4 (b4 vb)) => rWrite_any xb yb 2200 vn 4 cB cU 4 (some ⟨q, 0, none⟩) B (b4 vb) HB.out rfl (by decide) (by decide) (by have := HVN.out; have := HG1.out; omega) W r hyb rl
 rw [← HVN.out] at cw
 have CW := Lib.hid cw
 clear cb cw
 have hyb : yb < wA.heap.size := by obtain ⟨_, _, y', hy, hyb, _⟩ := RUA.out; injection hy with hy; subst hy; exact hyb
 have HYB := Lib.hid hyb
 have ZA := Lib.hid (Nat.lt_of_lt_of_le (show w.heap.size + 1 + 1 + 1 < I2 from z0) (Nat.le_of_lt iA.lt))
 have KD := Lib.hid (kA.below (Below.refl _ _).drew)
 have ID := Lib.hid (HasB.below iA (Below.refl _ _).drew)
 have DD := Lib.hid (HasB.below dA (Below.refl _ _).drew)
 have RD := Lib.hid (RBA.out.below (Below.refl _ _).drew)
 clear kA iA dA RBA hyb
 go_upto_region 32 with fail
 go_cut [] from 155 to 160 (fun wx => RegS w I2 I4 pc r0 r1 r2 r3 r4 r5 r6 r7 b s (16) x y imm (.slice (some ⟨yb, 0, none⟩) 2200 cU) [.int .u32 (((pc : Int) + (n : Int)) % 4294967296), .int .u32 r0, .int .u32 r1, .int .u32 r2, .int .u32 r3, .int .u32 r4, .int .u32 r5, .int .u32 r6, .int .u32 r7, .int .u32 b, .int .u32 s] (splice B vn (b4 vb)) wx)
 case first =>
  have wv : IntKind.i64.wrap va = va := IntWalk.i64_in _ (by omega)
  go_region_with (first
   | (go_at_call 50; (with_reducible refine (CB.out _).mono ?_); rintro e w4 ⟨q4, rfl, row4, hb4⟩; have K5 := Lib.hid (KD.out.below hb4); have I5 := Lib.hid (HasB.below ID.out hb4); have D5 := Lib.hid (HasB.below DD.out hb4); have RB5 := Lib.hid (RD.out.below hb4); have ROW := Lib.hid row4; have hz4 : wA.heap.size ≤ w4.heap.size := hb4.size; have HYB5 := Lib.hid (Nat.lt_of_lt_of_le HYB.out hz4); obtain ⟨⟨mm0, mm1⟩, _⟩ := has2 K5.out.m; clear row4 hb4)
   | (go_at_call 16; (with_reducible refine (CW.out _ _ HYB5.out RB5.out ROW.out).mono ?_); rintro e w5 ⟨g', c', rfl, row5, l5, l5', hb5⟩; obtain ⟨W9, e9, ⟨h0, h1⟩, ⟨g0, g1⟩, k9, i9, d9', ch9⟩ := mem_world (K5.out.below hb5) (HasB.below I5.out hb5) (HasB.below D5.out hb5) z0 z4 (.slice (some ⟨g', 0, none⟩) 2200 c') (.slice (some ⟨yb, 0, none⟩) 2200 cU); have HRR := Lib.hid (show RegS w I2 I4 pc r0 r1 r2 r3 r4 r5 r6 r7 b s (16) x y imm (.slice (some ⟨yb, 0, none⟩) 2200 cU) [.int .u32 (((pc : Int) + (n : Int)) % 4294967296), .int .u32 r0, .int .u32 r1, .int .u32 r2, .int .u32 r3, .int .u32 r4, .int .u32 r5, .int .u32 r6, .int .u32 r7, .int .u32 b, .int .u32 s] (splice B vn (b4 vb)) W9 from ⟨g', c', k9, i9, d9', row5.chg ch9 (by have := ZA.out; omega) (by have := ZA.out; omega), by have := ZA.out; omega⟩); clear k9 i9 d9' ch9 hb5 row5 l5 l5'))
  all_goals go_wp2_with fail
  all_goals go_meet
  all_goals exact HRR.out
 case rest =>
  obtain ⟨g', c', k9, i9, d9', rb9, hg'⟩ := hcut
  clear v0 v1 v2 v3 m0 m1 CB CW KD ID DD RD
  have K9 := Lib.hid k9
  have RB9 := Lib.hid rb9
  have HG2 := Lib.hid hg'
  obtain ⟨⟨j0, j1⟩, ⟨j2, j3⟩⟩ : (wc.cell? ⟨I2, 0, none⟩ = some (.int .i64 (16)) ∧ wc.cell? ⟨I2, 1, none⟩ = some (.int .i64 x)) ∧ (wc.cell? ⟨I2, 2, none⟩ = some (.int .i64 y) ∧ wc.cell? ⟨I2, 3, none⟩ = some (.int .u32 imm)) := ⟨⟨i9.cell 0, i9.cell 1⟩, ⟨i9.cell 2, i9.cell 3⟩⟩
  obtain ⟨⟨n0, n1, n2, n3, n4, n5, n6, n7, n8, n9, n10⟩, _⟩ := has11 d9'
  obtain ⟨⟨m0, m1⟩, _⟩ := has2 k9.m
  clear k9 i9 d9' rb9 hg'
  obtain ⟨⟨d0, d1, d2, d3, d4, d5, d6, d7, d8, d9, d10⟩, ⟨f0, f1, f2, f3, f4, f5, f6, f7, f8, f9, f10⟩⟩ := has11 K9.out.d
  obtain ⟨⟨o0, o1⟩, ⟨q0, q1⟩⟩ := has2 K9.out.o
  go_wp2_with fail
  go_region
  all_goals go_wp2_with fail
  all_goals refine bodyPost_ret (v := .tuple #[.agg #[.int .u32 (((pc : Int) + (n : Int)) % 4294967296), .int .u32 r0, .int .u32 r1, .int .u32 r2, .int .u32 r3, .int .u32 r4, .int .u32 r5, .int .u32 r6, .int .u32 r7, .int .u32 b, .int .u32 s], .agg #[.slice (some ⟨g', 0, none⟩) 2200 c', .slice (some ⟨yb, 0, none⟩) 2200 cU], .int .i64 0, .int .i64 0]) (by simp [results, Tryz.results31, go_sem, d0, d1, d2, d3, d4, d5, d6, d7, d8, d9, d10, o0, o1]) rfl ?_
  all_goals obtain ⟨x1, x2⟩ := rst13 K9.out.bel (.int .u32 (((pc : Int) + (n : Int)) % 4294967296)) (.int .u32 r0) (.int .u32 r1) (.int .u32 r2) (.int .u32 r3) (.int .u32 r4) (.int .u32 r5) (.int .u32 r6) (.int .u32 r7) (.int .u32 b) (.int .u32 s) (.slice (some ⟨g', 0, none⟩) 2200 c') (.slice (some ⟨yb, 0, none⟩) 2200 cU)
  all_goals exact ⟨_, _, rfl, (RB9.out).chg x1 (by have := HG2.out; omega) (by have := HG2.out; omega), x2, .inr (by have := HG2.out; omega)⟩
theorem rstep22_any (xb yb cB cU : Nat) (B : List Int) (hB : B.length = 2200) (hBy : Bytes B) (w : World) (rB : RowAt w (some ⟨xb, 0, none⟩) cB B) (rU : BlAt w (some ⟨yb, 0, none⟩) cU U22) {c : Cp} (o : c.Ok) {q : Ou} (hq : StepIs c B T22 q) :
    Calls Tryz.prog 31 #[c.val, .agg #[.slice (some ⟨xb, 0, none⟩) 2200 cB, .slice (some ⟨yb, 0, none⟩) 2200 cU]] w (RDoP w xb yb cU q) := by
  obtain ⟨r0, r1, r2, r3, r4, r5, r6, r7, hr⟩ := o.eight
  obtain ⟨pc, r, b, s⟩ := c
  simp only at hr
  subst hr
  obtain ⟨p0, p1⟩ := o.pc
  simp only at p0 p1
  obtain ⟨pn, rfl⟩ : ∃ pn : Nat, pc = pn := ⟨pc.toNat, by omega⟩
  replace p1 : pn < 4294967296 := by omega
  rcases hq with ⟨h1, rfl⟩ | ⟨h1, h2, rfl⟩ | ⟨op, a, b', imm, n, hrd, rfl⟩
  · exact rdo_empty xb yb cB cU B r0 r1 r2 r3 r4 r5 r6 r7 b s pn hB hBy p1 w rB rU h1
  · exact rdo_broken xb yb cB cU B r0 r1 r2 r3 r4 r5 r6 r7 b s pn hB hBy p1 w rB rU h1 h2
  · obtain ⟨q1, q2, q3, ⟨i0, i1⟩, q5⟩ := rd_bds (codeL_byte hBy T22 (pn : Int)) hrd
    obtain ⟨n, rfl⟩ : ∃ k : Nat, n = k := ⟨n.toNat, by omega⟩
    obtain ⟨x, rfl⟩ : ∃ k : Nat, a = k := ⟨a.toNat, by omega⟩
    obtain ⟨y, rfl⟩ : ∃ k : Nat, b' = k := ⟨b'.toNat, by omega⟩
    have hx : x < 8 := by omega
    have hy : y < 8 := by omega
    have hn : 1 ≤ n := by omega
    have hn' : n ≤ 6 := by omega
    obtain ⟨va0, va1⟩ := o.reg x (by omega) (by omega)
    obtain ⟨vb0, vb1⟩ := o.reg y (by omega) (by omega)
    have epc : IntKind.u32.wrap (IntKind.u32.wrap ((pn : Int) + (n : Int)) + imm) = ((pn : Int) + (n : Int) + imm) % 4294967296 := by
      show (((pn : Int) + (n : Int)) % 4294967296 + imm) % 4294967296 = _
      omega
    have wT : ∀ v : Int, 0 ≤ v → wholeB T22 v 4 = decide (1024 ≤ v ∧ v + 4 ≤ 2048) := fun v h => by
      obtain ⟨k, rfl⟩ : ∃ k : Nat, v = k := ⟨v.toNat, by omega⟩
      rw [show (4 : Int) = ((4 : Nat) : Int) from rfl, wholeT k 4 (by decide)]
      congr 1
      apply propext
      omega
    have hop : op = 0 ∨ op = 1 ∨ op = 2 ∨ (3 ≤ op ∧ op ≤ 14) ∨ op = 15 ∨ op = 16 ∨ op = 17 ∨ op = 18 ∨ op = 19 ∨ op = 20 ∨ op = 21 ∨ op = 22 ∨ op = 23 := by omega
    rcases hop with rfl | rfl | rfl | hop | rfl | rfl | rfl | rfl | rfl | rfl | rfl | rfl | rfl
    · rw [exec_0]; exact rdo_0 xb yb cB cU B r0 r1 r2 r3 r4 r5 r6 r7 b s pn hB hBy p1 w rB rU imm _ _ x y n hx hy i0 i1 hn hn' hrd rfl rfl va0 va1 vb0 vb1 o
    · rw [exec_1]; exact rdo_1 xb yb cB cU B r0 r1 r2 r3 r4 r5 r6 r7 b s pn hB hBy p1 w rB rU imm _ _ x y n hx hy i0 i1 hn hn' hrd rfl rfl va0 va1 vb0 vb1 o
    · rw [exec_2]; exact rdo_2 xb yb cB cU B r0 r1 r2 r3 r4 r5 r6 r7 b s pn hB hBy p1 w rB rU imm _ _ x y n hx hy i0 i1 hn hn' hrd rfl rfl va0 va1 vb0 vb1 o
    · cases hd : doK op (Cp.reg (⟨(pn : Int), [r0, r1, r2, r3, r4, r5, r6, r7], b, s⟩ : Cp) y)
      · rw [exec_n _ _ _ _ _ _ _ op hop hd]; exact rdo_trap xb yb cB cU B r0 r1 r2 r3 r4 r5 r6 r7 b s pn hB hBy p1 w rB rU op imm _ _ x y n hx hy i0 i1 hn hn' hrd rfl rfl va0 va1 vb0 vb1 o hop hd
      · rw [exec_y _ _ _ _ _ _ _ op hop hd]; exact rdo_sum xb yb cB cU B r0 r1 r2 r3 r4 r5 r6 r7 b s pn hB hBy p1 w rB rU op imm _ _ x y n hx hy i0 i1 hn hn' hrd rfl rfl va0 va1 vb0 vb1 o hop hd
    · by_cases hk : 1024 ≤ Cp.reg (⟨(pn : Int), [r0, r1, r2, r3, r4, r5, r6, r7], b, s⟩ : Cp) y ∧ Cp.reg (⟨(pn : Int), [r0, r1, r2, r3, r4, r5, r6, r7], b, s⟩ : Cp) y + 4 ≤ 2048
      · rw [exec_15y _ _ _ _ _ _ _ (by rw [wT _ vb0]; exact decide_eq_true hk)]; exact rdo_15yes xb yb cB cU B r0 r1 r2 r3 r4 r5 r6 r7 b s pn hB hBy p1 w rB rU imm _ _ x y n hx hy i0 i1 hn hn' hrd rfl rfl va0 va1 vb0 vb1 o hk
      · rw [exec_15n _ _ _ _ _ _ _ (by rw [wT _ vb0]; exact decide_eq_false hk)]
        by_cases hf : 100000 < Cp.reg (⟨(pn : Int), [r0, r1, r2, r3, r4, r5, r6, r7], b, s⟩ : Cp) y
        · exact rdo_15far xb yb cB cU B r0 r1 r2 r3 r4 r5 r6 r7 b s pn hB hBy p1 w rB rU imm _ _ x y n hx hy i0 i1 hn hn' hrd rfl rfl va0 va1 vb0 vb1 o hf
        · exact rdo_15no xb yb cB cU B r0 r1 r2 r3 r4 r5 r6 r7 b s pn hB hBy p1 w rB rU imm _ _ x y n hx hy i0 i1 hn hn' hrd rfl rfl va0 va1 vb0 vb1 o (by omega) (by omega)
    · by_cases hk : 1024 ≤ Cp.reg (⟨(pn : Int), [r0, r1, r2, r3, r4, r5, r6, r7], b, s⟩ : Cp) x ∧ Cp.reg (⟨(pn : Int), [r0, r1, r2, r3, r4, r5, r6, r7], b, s⟩ : Cp) x + 4 ≤ 2048
      · rw [exec_16y _ _ _ _ _ _ _ (by rw [wT _ va0]; exact decide_eq_true hk)]; exact rdo_16yes xb yb cB cU B r0 r1 r2 r3 r4 r5 r6 r7 b s pn hB hBy p1 w rB rU imm _ _ x y n hx hy i0 i1 hn hn' hrd rfl rfl va0 va1 vb0 vb1 o hk
      · rw [exec_16n _ _ _ _ _ _ _ (by rw [wT _ va0]; exact decide_eq_false hk)]
        by_cases hf : 100000 < Cp.reg (⟨(pn : Int), [r0, r1, r2, r3, r4, r5, r6, r7], b, s⟩ : Cp) x
        · exact rdo_16far xb yb cB cU B r0 r1 r2 r3 r4 r5 r6 r7 b s pn hB hBy p1 w rB rU imm _ _ x y n hx hy i0 i1 hn hn' hrd rfl rfl va0 va1 vb0 vb1 o hf
        · exact rdo_16no xb yb cB cU B r0 r1 r2 r3 r4 r5 r6 r7 b s pn hB hBy p1 w rB rU imm _ _ x y n hx hy i0 i1 hn hn' hrd rfl rfl va0 va1 vb0 vb1 o (by omega) (by omega)
    · rw [exec_17]; exact rdo_17 xb yb cB cU B r0 r1 r2 r3 r4 r5 r6 r7 b s pn hB hBy p1 w rB rU imm _ _ x y n hx hy i0 i1 hn hn' hrd rfl rfl va0 va1 vb0 vb1 o
    · rw [exec_18]; exact rdo_18 xb yb cB cU B r0 r1 r2 r3 r4 r5 r6 r7 b s pn hB hBy p1 w rB rU imm _ _ x y n hx hy i0 i1 hn hn' hrd rfl rfl va0 va1 vb0 vb1 o
    · rw [exec_19]
      show Calls _ _ _ _ (RDoP w xb yb cU ⟨⟨IntKind.u32.wrap (IntKind.u32.wrap ((pn : Int) + (n : Int)) + imm), _, _, _⟩, _, _, _⟩)
      rw [epc]
      exact rdo_19 xb yb cB cU B r0 r1 r2 r3 r4 r5 r6 r7 b s pn hB hBy p1 w rB rU imm _ _ x y n hx hy i0 i1 hn hn' hrd rfl rfl va0 va1 vb0 vb1 o
    · by_cases hz : Cp.reg (⟨(pn : Int), [r0, r1, r2, r3, r4, r5, r6, r7], b, s⟩ : Cp) x = 0
      · rw [exec_20y _ _ _ _ _ _ _ hz]
        show Calls _ _ _ _ (RDoP w xb yb cU ⟨⟨IntKind.u32.wrap (IntKind.u32.wrap ((pn : Int) + (n : Int)) + imm), _, _, _⟩, _, _, _⟩)
        rw [epc]
        exact rdo_20y xb yb cB cU B r0 r1 r2 r3 r4 r5 r6 r7 b s pn hB hBy p1 w rB rU imm _ _ x y n hx hy i0 i1 hn hn' hrd rfl rfl va0 va1 vb0 vb1 o (by simpa using hz)
      · rw [exec_20n _ _ _ _ _ _ _ hz]
        exact rdo_20n xb yb cB cU B r0 r1 r2 r3 r4 r5 r6 r7 b s pn hB hBy p1 w rB rU imm _ _ x y n hx hy i0 i1 hn hn' hrd rfl rfl va0 va1 vb0 vb1 o (by simpa using hz)
    · rw [exec_21]; exact rdo_21 xb yb cB cU B r0 r1 r2 r3 r4 r5 r6 r7 b s pn hB hBy p1 w rB rU imm _ _ x y n hx hy i0 i1 hn hn' hrd rfl rfl va0 va1 vb0 vb1 o
    · rw [exec_22]; exact rdo_22 xb yb cB cU B r0 r1 r2 r3 r4 r5 r6 r7 b s pn hB hBy p1 w rB rU imm _ _ x y n hx hy i0 i1 hn hn' hrd rfl rfl va0 va1 vb0 vb1 o
    · rw [exec_23]; exact rdo_23 xb yb cB cU B r0 r1 r2 r3 r4 r5 r6 r7 b s pn hB hBy p1 w rB rU imm _ _ x y n hx hy i0 i1 hn hn' hrd rfl rfl va0 va1 vb0 vb1 o
end Go.Proofs.YtbgnkljeodandaaGreat.Mm
