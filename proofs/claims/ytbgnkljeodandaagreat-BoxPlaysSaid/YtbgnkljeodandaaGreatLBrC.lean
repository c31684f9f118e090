/- The document's own step: sums. -/
import Derived.Test.YtbgnkljeodandaaGreatLBrA
import Derived.Test.YtbgnkljeodandaaGreatLWoA
namespace Go.Proofs.YtbgnkljeodandaaGreat.Mm
open Go.ChangeShapes Go.WideShapes Go.ChangeAt Go.RowKit
set_option linter.unusedVariables false

set_option maxRecDepth 100000 in
set_option maxHeartbeats 8000000 in
theorem rdo_0 (xb yb cB cU : Nat) (B : List Int) (r0 r1 r2 r3 r4 r5 r6 r7 b s : Int) (pc : Nat) (hB : B.length = 2200) (hBy : Bytes B) (h1 : pc < 4294967296) (w : World) (rB : RowAt w (some ⟨xb, 0, none⟩) cB B) (rU : BlAt w (some ⟨yb, 0, none⟩) cU U22) (imm va vb : Int)  (x y n : Nat) (hx : x < 8) (hy : y < 8) (i0 : 0 ≤ imm) (i1 : imm < 4294967296) (hn : 1 ≤ n) (hn' : n ≤ 6) (hrd : Rd (codeL B T22 (pc : Int)) 0 x y imm n) (hva : Cp.reg ⟨pc, [r0, r1, r2, r3, r4, r5, r6, r7], b, s⟩ x = va) (hvb : Cp.reg ⟨pc, [r0, r1, r2, r3, r4, r5, r6, r7], b, s⟩ y = vb) (va0 : 0 ≤ va) (va1 : va < 4294967296) (vb0 : 0 ≤ vb) (vb1 : vb < 4294967296) (ok : Cp.Ok ⟨pc, [r0, r1, r2, r3, r4, r5, r6, r7], b, s⟩) :
  Calls Tryz.prog 31 #[.agg #[.int .u32 pc, .int .u32 r0, .int .u32 r1, .int .u32 r2, .int .u32 r3, .int .u32 r4, .int .u32 r5, .int .u32 r6, .int .u32 r7, .int .u32 b, .int .u32 s], .agg #[.slice (some ⟨xb, 0, none⟩) 2200 cB, .slice (some ⟨yb, 0, none⟩) 2200 cU]] w (RDoP w xb yb cU ⟨⟨pc, [r0, r1, r2, r3, r4, r5, r6, r7], b, s⟩, B, 1, 0⟩) := by
 refine rdo_head xb yb cB cU B r0 r1 r2 r3 r4 r5 r6 r7 b s pc hB hBy h1 w rB rU (0) imm va vb x y n hx hy i0 i1 hn hn' hrd hva hvb va0 va1 vb0 vb1 ok (fun Q hQ I2 I4 W8 t8 t9 t17 t18 t19 t20 t21 t22 t23 t24 t25 t26 t27 t28 t29 t30 t31 t32 t33 t34 t35 t36 t37 t38 t39 t40 t41 t42 t43 t44 t45 t46 t47 t48 t49 t50 t51 t52 t53 t54 t55 t56 t57 t58 t59 t60 t61 t62 t63 t64 t65 t66 t67 t68 t69 t70 t71 k8 i8 d8 RB8 RU8 hxb z0 z4 => ?_)
 have HXB := Lib.hid hxb
 have HB := Lib.hid hB
 have HBy := Lib.hid hBy
 have HVA := Lib.hid hva
 have HVB := Lib.hid hvb
 have OK := Lib.hid ok
 replace RB8 := Lib.hid RB8
 replace RU8 := Lib.hid RU8
 have xI : (x : Int) < 8 := by omega
 have N0 : (1 : Int) ≤ (n : Int) := by omega
 have N1 : (n : Int) ≤ 6 := by omega
 clear rB rU hB hBy hrd hva hvb ok hxb
 dsimp only [rdoRest, rightC, Option.getD, Tryz.f31]
 subst hQ
 obtain ⟨⟨v0, v1⟩, ⟨v2, v3⟩⟩ : (W8.cell? ⟨I2, 0, none⟩ = some (.int .i64 (0)) ∧ W8.cell? ⟨I2, 1, none⟩ = some (.int .i64 x)) ∧ (W8.cell? ⟨I2, 2, none⟩ = some (.int .i64 y) ∧ W8.cell? ⟨I2, 3, none⟩ = some (.int .u32 imm)) := ⟨⟨i8.cell 0, i8.cell 1⟩, ⟨i8.cell 2, i8.cell 3⟩⟩
 have K8 := Lib.hid k8
 obtain ⟨⟨c0, c1, c2, c3, c4, c5, c6, c7, c8, c9, c10⟩, _⟩ := has11 k8.c
 obtain ⟨⟨m0, m1⟩, _⟩ := has2 k8.m
 clear k8 i8 d8
 obtain ⟨⟨d0, d1, d2, d3, d4, d5, d6, d7, d8, d9, d10⟩, ⟨f0, f1, f2, f3, f4, f5, f6, f7, f8, f9, f10⟩⟩ := has11 K8.out.d
 obtain ⟨⟨o0, o1⟩, ⟨q0, q1⟩⟩ := has2 K8.out.o
 go_wp2_with fail
 go_region
 all_goals go_wp2_with fail
 all_goals refine bodyPost_ret (v := .tuple #[.agg #[.int .u32 pc, .int .u32 r0, .int .u32 r1, .int .u32 r2, .int .u32 r3, .int .u32 r4, .int .u32 r5, .int .u32 r6, .int .u32 r7, .int .u32 b, .int .u32 s], .agg #[.slice (some ⟨xb, 0, none⟩) 2200 cB, .slice (some ⟨yb, 0, none⟩) 2200 cU], .int .i64 1, .int .i64 0]) (by simp [results, Tryz.results31, go_sem, d0, d1, d2, d3, d4, d5, d6, d7, d8, d9, d10, o0, o1]) rfl ?_
 all_goals obtain ⟨x1, x2⟩ := rst13 K8.out.bel (.int .u32 pc) (.int .u32 r0) (.int .u32 r1) (.int .u32 r2) (.int .u32 r3) (.int .u32 r4) (.int .u32 r5) (.int .u32 r6) (.int .u32 r7) (.int .u32 b) (.int .u32 s) (.slice (some ⟨xb, 0, none⟩) 2200 cB) (.slice (some ⟨yb, 0, none⟩) 2200 cU)
 all_goals exact ⟨_, _, rfl, (RB8.out).chg x1 (by have := HXB.out; omega) (by have := HXB.out; omega), x2, .inl rfl⟩
set_option maxRecDepth 100000 in
set_option maxHeartbeats 8000000 in
theorem rdo_1 (xb yb cB cU : Nat) (B : List Int) (r0 r1 r2 r3 r4 r5 r6 r7 b s : Int) (pc : Nat) (hB : B.length = 2200) (hBy : Bytes B) (h1 : pc < 4294967296) (w : World) (rB : RowAt w (some ⟨xb, 0, none⟩) cB B) (rU : BlAt w (some ⟨yb, 0, none⟩) cU U22) (imm va vb : Int)  (x y n : Nat) (hx : x < 8) (hy : y < 8) (i0 : 0 ≤ imm) (i1 : imm < 4294967296) (hn : 1 ≤ n) (hn' : n ≤ 6) (hrd : Rd (codeL B T22 (pc : Int)) 1 x y imm n) (hva : Cp.reg ⟨pc, [r0, r1, r2, r3, r4, r5, r6, r7], b, s⟩ x = va) (hvb : Cp.reg ⟨pc, [r0, r1, r2, r3, r4, r5, r6, r7], b, s⟩ y = vb) (va0 : 0 ≤ va) (va1 : va < 4294967296) (vb0 : 0 ≤ vb) (vb1 : vb < 4294967296) (ok : Cp.Ok ⟨pc, [r0, r1, r2, r3, r4, r5, r6, r7], b, s⟩) :
  Calls Tryz.prog 31 #[.agg #[.int .u32 pc, .int .u32 r0, .int .u32 r1, .int .u32 r2, .int .u32 r3, .int .u32 r4, .int .u32 r5, .int .u32 r6, .int .u32 r7, .int .u32 b, .int .u32 s], .agg #[.slice (some ⟨xb, 0, none⟩) 2200 cB, .slice (some ⟨yb, 0, none⟩) 2200 cU]] w (RDoP w xb yb cU ⟨(⟨(((pc : Int) + (n : Int)) % 4294967296), [r0, r1, r2, r3, r4, r5, r6, r7], b, s⟩ : Cp).setR x imm, B, 0, 0⟩) := by
 obtain ⟨F, hF⟩ : ∃ F, (⟨(((pc : Int) + (n : Int)) % 4294967296), [r0, r1, r2, r3, r4, r5, r6, r7], b, s⟩ : Cp).setR x imm = F := ⟨_, rfl⟩
 have hFok : F.Ok := hF ▸ (ok.setPc (wrap_u ((pc : Int) + (n : Int)))).setR x ⟨i0, i1⟩
 rw [hF]
 have HF := Lib.hid hF
 clear hF
 obtain ⟨s0, s1, s2, s3, s4, s5, s6, s7, hs⟩ := hFok.eight
 obtain ⟨pc2, r', b2, z2⟩ := F
 simp only at hs
 subst hs
 clear hFok
 refine rdo_head xb yb cB cU B r0 r1 r2 r3 r4 r5 r6 r7 b s pc hB hBy h1 w rB rU (1) imm va vb x y n hx hy i0 i1 hn hn' hrd hva hvb va0 va1 vb0 vb1 ok (fun Q hQ I2 I4 W8 t8 t9 t17 t18 t19 t20 t21 t22 t23 t24 t25 t26 t27 t28 t29 t30 t31 t32 t33 t34 t35 t36 t37 t38 t39 t40 t41 t42 t43 t44 t45 t46 t47 t48 t49 t50 t51 t52 t53 t54 t55 t56 t57 t58 t59 t60 t61 t62 t63 t64 t65 t66 t67 t68 t69 t70 t71 k8 i8 d8 RB8 RU8 hxb z0 z4 => ?_)
 have HXB := Lib.hid hxb
 have HB := Lib.hid hB
 have HBy := Lib.hid hBy
 have HVA := Lib.hid hva
 have HVB := Lib.hid hvb
 have OK := Lib.hid ok
 replace RB8 := Lib.hid RB8
 replace RU8 := Lib.hid RU8
 have xI : (x : Int) < 8 := by omega
 have N0 : (1 : Int) ≤ (n : Int) := by omega
 have N1 : (n : Int) ≤ 6 := by omega
 clear rB rU hB hBy hrd hva hvb ok hxb
 dsimp only [rdoRest, rightC, Option.getD, Tryz.f31]
 subst hQ
 obtain ⟨⟨v0, v1⟩, ⟨v2, v3⟩⟩ : (W8.cell? ⟨I2, 0, none⟩ = some (.int .i64 (1)) ∧ W8.cell? ⟨I2, 1, none⟩ = some (.int .i64 x)) ∧ (W8.cell? ⟨I2, 2, none⟩ = some (.int .i64 y) ∧ W8.cell? ⟨I2, 3, none⟩ = some (.int .u32 imm)) := ⟨⟨i8.cell 0, i8.cell 1⟩, ⟨i8.cell 2, i8.cell 3⟩⟩
 obtain ⟨W9, e9, ⟨u9, h9⟩, g9, k9, i9, d9', ch9⟩ := reg_world k8 i8 d8 (by omega) (by omega) x hx (imm)
 rw [HF.out] at d9'
 dsimp only [Cp.cs, List.map_cons, List.map_nil, List.cons_append, List.nil_append] at d9'
 have RB9 := Lib.hid (RB8.out.chg ch9 (by have := HXB.out; omega) (by have := HXB.out; omega))
 have K9 := Lib.hid k9
 obtain ⟨⟨j0, j1⟩, ⟨j2, j3⟩⟩ : (W9.cell? ⟨I2, 0, none⟩ = some (.int .i64 (1)) ∧ W9.cell? ⟨I2, 1, none⟩ = some (.int .i64 x)) ∧ (W9.cell? ⟨I2, 2, none⟩ = some (.int .i64 y) ∧ W9.cell? ⟨I2, 3, none⟩ = some (.int .u32 imm)) := ⟨⟨i9.cell 0, i9.cell 1⟩, ⟨i9.cell 2, i9.cell 3⟩⟩
 obtain ⟨⟨n0, n1, n2, n3, n4, n5, n6, n7, n8, n9, n10⟩, _⟩ := has11 d9'
 obtain ⟨⟨m0, m1⟩, _⟩ := has2 k9.m
 clear k8 i8 d8 k9 i9 d9' ch9
 obtain ⟨⟨d0, d1, d2, d3, d4, d5, d6, d7, d8, d9, d10⟩, ⟨f0, f1, f2, f3, f4, f5, f6, f7, f8, f9, f10⟩⟩ := has11 K9.out.d
 obtain ⟨⟨o0, o1⟩, ⟨q0, q1⟩⟩ := has2 K9.out.o
 go_wp2_with fail
 go_region
 all_goals go_wp2_with fail
 all_goals refine bodyPost_ret (v := .tuple #[.agg #[.int .u32 pc2, .int .u32 s0, .int .u32 s1, .int .u32 s2, .int .u32 s3, .int .u32 s4, .int .u32 s5, .int .u32 s6, .int .u32 s7, .int .u32 b2, .int .u32 z2], .agg #[.slice (some ⟨xb, 0, none⟩) 2200 cB, .slice (some ⟨yb, 0, none⟩) 2200 cU], .int .i64 0, .int .i64 0]) (by simp [results, Tryz.results31, go_sem, d0, d1, d2, d3, d4, d5, d6, d7, d8, d9, d10, o0, o1]) rfl ?_
 all_goals obtain ⟨x1, x2⟩ := rst13 K9.out.bel (.int .u32 pc2) (.int .u32 s0) (.int .u32 s1) (.int .u32 s2) (.int .u32 s3) (.int .u32 s4) (.int .u32 s5) (.int .u32 s6) (.int .u32 s7) (.int .u32 b2) (.int .u32 z2) (.slice (some ⟨xb, 0, none⟩) 2200 cB) (.slice (some ⟨yb, 0, none⟩) 2200 cU)
 all_goals exact ⟨_, _, rfl, (RB9.out).chg x1 (by have := HXB.out; omega) (by have := HXB.out; omega), x2, .inl rfl⟩
set_option maxRecDepth 100000 in
set_option maxHeartbeats 8000000 in
theorem rdo_2 (xb yb cB cU : Nat) (B : List Int) (r0 r1 r2 r3 r4 r5 r6 r7 b s : Int) (pc : Nat) (hB : B.length = 2200) (hBy : Bytes B) (h1 : pc < 4294967296) (w : World) (rB : RowAt w (some ⟨xb, 0, none⟩) cB B) (rU : BlAt w (some ⟨yb, 0, none⟩) cU U22) (imm va vb : Int)  (x y n : Nat) (hx : x < 8) (hy : y < 8) (i0 : 0 ≤ imm) (i1 : imm < 4294967296) (hn : 1 ≤ n) (hn' : n ≤ 6) (hrd : Rd (codeL B T22 (pc : Int)) 2 x y imm n) (hva : Cp.reg ⟨pc, [r0, r1, r2, r3, r4, r5, r6, r7], b, s⟩ x = va) (hvb : Cp.reg ⟨pc, [r0, r1, r2, r3, r4, r5, r6, r7], b, s⟩ y = vb) (va0 : 0 ≤ va) (va1 : va < 4294967296) (vb0 : 0 ≤ vb) (vb1 : vb < 4294967296) (ok : Cp.Ok ⟨pc, [r0, r1, r2, r3, r4, r5, r6, r7], b, s⟩) :
  Calls Tryz.prog 31 #[.agg #[.int .u32 pc, .int .u32 r0, .int .u32 r1, .int .u32 r2, .int .u32 r3, .int .u32 r4, .int .u32 r5, .int .u32 r6, .int .u32 r7, .int .u32 b, .int .u32 s], .agg #[.slice (some ⟨xb, 0, none⟩) 2200 cB, .slice (some ⟨yb, 0, none⟩) 2200 cU]] w (RDoP w xb yb cU ⟨(⟨(((pc : Int) + (n : Int)) % 4294967296), [r0, r1, r2, r3, r4, r5, r6, r7], b, s⟩ : Cp).setR x vb, B, 0, 0⟩) := by
 obtain ⟨F, hF⟩ : ∃ F, (⟨(((pc : Int) + (n : Int)) % 4294967296), [r0, r1, r2, r3, r4, r5, r6, r7], b, s⟩ : Cp).setR x vb = F := ⟨_, rfl⟩
 have hFok : F.Ok := hF ▸ (ok.setPc (wrap_u ((pc : Int) + (n : Int)))).setR x ⟨vb0, vb1⟩
 rw [hF]
 have HF := Lib.hid hF
 clear hF
 obtain ⟨s0, s1, s2, s3, s4, s5, s6, s7, hs⟩ := hFok.eight
 obtain ⟨pc2, r', b2, z2⟩ := F
 simp only at hs
 subst hs
 clear hFok
 refine rdo_head xb yb cB cU B r0 r1 r2 r3 r4 r5 r6 r7 b s pc hB hBy h1 w rB rU (2) imm va vb x y n hx hy i0 i1 hn hn' hrd hva hvb va0 va1 vb0 vb1 ok (fun Q hQ I2 I4 W8 t8 t9 t17 t18 t19 t20 t21 t22 t23 t24 t25 t26 t27 t28 t29 t30 t31 t32 t33 t34 t35 t36 t37 t38 t39 t40 t41 t42 t43 t44 t45 t46 t47 t48 t49 t50 t51 t52 t53 t54 t55 t56 t57 t58 t59 t60 t61 t62 t63 t64 t65 t66 t67 t68 t69 t70 t71 k8 i8 d8 RB8 RU8 hxb z0 z4 => ?_)
 have HXB := Lib.hid hxb
 have HB := Lib.hid hB
 have HBy := Lib.hid hBy
 have HVA := Lib.hid hva
 have HVB := Lib.hid hvb
 have OK := Lib.hid ok
 replace RB8 := Lib.hid RB8
 replace RU8 := Lib.hid RU8
 have xI : (x : Int) < 8 := by omega
 have N0 : (1 : Int) ≤ (n : Int) := by omega
 have N1 : (n : Int) ≤ 6 := by omega
 clear rB rU hB hBy hrd hva hvb ok hxb
 dsimp only [rdoRest, rightC, Option.getD, Tryz.f31]
 subst hQ
 obtain ⟨⟨v0, v1⟩, ⟨v2, v3⟩⟩ : (W8.cell? ⟨I2, 0, none⟩ = some (.int .i64 (2)) ∧ W8.cell? ⟨I2, 1, none⟩ = some (.int .i64 x)) ∧ (W8.cell? ⟨I2, 2, none⟩ = some (.int .i64 y) ∧ W8.cell? ⟨I2, 3, none⟩ = some (.int .u32 imm)) := ⟨⟨i8.cell 0, i8.cell 1⟩, ⟨i8.cell 2, i8.cell 3⟩⟩
 obtain ⟨W9, e9, ⟨u9, h9⟩, g9, k9, i9, d9', ch9⟩ := reg_world k8 i8 d8 (by omega) (by omega) x hx (vb)
 rw [HF.out] at d9'
 dsimp only [Cp.cs, List.map_cons, List.map_nil, List.cons_append, List.nil_append] at d9'
 have RB9 := Lib.hid (RB8.out.chg ch9 (by have := HXB.out; omega) (by have := HXB.out; omega))
 have K9 := Lib.hid k9
 obtain ⟨⟨j0, j1⟩, ⟨j2, j3⟩⟩ : (W9.cell? ⟨I2, 0, none⟩ = some (.int .i64 (2)) ∧ W9.cell? ⟨I2, 1, none⟩ = some (.int .i64 x)) ∧ (W9.cell? ⟨I2, 2, none⟩ = some (.int .i64 y) ∧ W9.cell? ⟨I2, 3, none⟩ = some (.int .u32 imm)) := ⟨⟨i9.cell 0, i9.cell 1⟩, ⟨i9.cell 2, i9.cell 3⟩⟩
 obtain ⟨⟨n0, n1, n2, n3, n4, n5, n6, n7, n8, n9, n10⟩, _⟩ := has11 d9'
 obtain ⟨⟨m0, m1⟩, _⟩ := has2 k9.m
 clear k8 i8 d8 k9 i9 d9' ch9
 obtain ⟨⟨d0, d1, d2, d3, d4, d5, d6, d7, d8, d9, d10⟩, ⟨f0, f1, f2, f3, f4, f5, f6, f7, f8, f9, f10⟩⟩ := has11 K9.out.d
 obtain ⟨⟨o0, o1⟩, ⟨q0, q1⟩⟩ := has2 K9.out.o
 go_wp2_with fail
 go_region
 all_goals go_wp2_with fail
 all_goals refine bodyPost_ret (v := .tuple #[.agg #[.int .u32 pc2, .int .u32 s0, .int .u32 s1, .int .u32 s2, .int .u32 s3, .int .u32 s4, .int .u32 s5, .int .u32 s6, .int .u32 s7, .int .u32 b2, .int .u32 z2], .agg #[.slice (some ⟨xb, 0, none⟩) 2200 cB, .slice (some ⟨yb, 0, none⟩) 2200 cU], .int .i64 0, .int .i64 0]) (by simp [results, Tryz.results31, go_sem, d0, d1, d2, d3, d4, d5, d6, d7, d8, d9, d10, o0, o1]) rfl ?_
 all_goals obtain ⟨x1, x2⟩ := rst13 K9.out.bel (.int .u32 pc2) (.int .u32 s0) (.int .u32 s1) (.int .u32 s2) (.int .u32 s3) (.int .u32 s4) (.int .u32 s5) (.int .u32 s6) (.int .u32 s7) (.int .u32 b2) (.int .u32 z2) (.slice (some ⟨xb, 0, none⟩) 2200 cB) (.slice (some ⟨yb, 0, none⟩) 2200 cU)
 all_goals exact ⟨_, _, rfl, (RB9.out).chg x1 (by have := HXB.out; omega) (by have := HXB.out; omega), x2, .inl rfl⟩
set_option maxRecDepth 100000 in
set_option maxHeartbeats 8000000 in
theorem rdo_23 (xb yb cB cU : Nat) (B : List Int) (r0 r1 r2 r3 r4 r5 r6 r7 b s : Int) (pc : Nat) (hB : B.length = 2200) (hBy : Bytes B) (h1 : pc < 4294967296) (w : World) (rB : RowAt w (some ⟨xb, 0, none⟩) cB B) (rU : BlAt w (some ⟨yb, 0, none⟩) cU U22) (imm va vb : Int)  (x y n : Nat) (hx : x < 8) (hy : y < 8) (i0 : 0 ≤ imm) (i1 : imm < 4294967296) (hn : 1 ≤ n) (hn' : n ≤ 6) (hrd : Rd (codeL B T22 (pc : Int)) 23 x y imm n) (hva : Cp.reg ⟨pc, [r0, r1, r2, r3, r4, r5, r6, r7], b, s⟩ x = va) (hvb : Cp.reg ⟨pc, [r0, r1, r2, r3, r4, r5, r6, r7], b, s⟩ y = vb) (va0 : 0 ≤ va) (va1 : va < 4294967296) (vb0 : 0 ≤ vb) (vb1 : vb < 4294967296) (ok : Cp.Ok ⟨pc, [r0, r1, r2, r3, r4, r5, r6, r7], b, s⟩) :
  Calls Tryz.prog 31 #[.agg #[.int .u32 pc, .int .u32 r0, .int .u32 r1, .int .u32 r2, .int .u32 r3, .int .u32 r4, .int .u32 r5, .int .u32 r6, .int .u32 r7, .int .u32 b, .int .u32 s], .agg #[.slice (some ⟨xb, 0, none⟩) 2200 cB, .slice (some ⟨yb, 0, none⟩) 2200 cU]] w (RDoP w xb yb cU ⟨(⟨(((pc : Int) + (n : Int)) % 4294967296), [r0, r1, r2, r3, r4, r5, r6, r7], b, s⟩ : Cp), B, 0, 0⟩) := by
 refine rdo_head xb yb cB cU B r0 r1 r2 r3 r4 r5 r6 r7 b s pc hB hBy h1 w rB rU (23) imm va vb x y n hx hy i0 i1 hn hn' hrd hva hvb va0 va1 vb0 vb1 ok (fun Q hQ I2 I4 W8 t8 t9 t17 t18 t19 t20 t21 t22 t23 t24 t25 t26 t27 t28 t29 t30 t31 t32 t33 t34 t35 t36 t37 t38 t39 t40 t41 t42 t43 t44 t45 t46 t47 t48 t49 t50 t51 t52 t53 t54 t55 t56 t57 t58 t59 t60 t61 t62 t63 t64 t65 t66 t67 t68 t69 t70 t71 k8 i8 d8 RB8 RU8 hxb z0 z4 => ?_)
 have HXB := Lib.hid hxb
 have HB := Lib.hid hB
 have HBy := Lib.hid hBy
 have HVA := Lib.hid hva
 have HVB := Lib.hid hvb
 have OK := Lib.hid ok
 replace RB8 := Lib.hid RB8
 replace RU8 := Lib.hid RU8
 have xI : (x : Int) < 8 := by omega
 have N0 : (1 : Int) ≤ (n : Int) := by omega
 have N1 : (n : Int) ≤ 6 := by omega
 clear rB rU hB hBy hrd hva hvb ok hxb
 dsimp only [rdoRest, rightC, Option.getD, Tryz.f31]
 subst hQ
 obtain ⟨⟨v0, v1⟩, ⟨v2, v3⟩⟩ : (W8.cell? ⟨I2, 0, none⟩ = some (.int .i64 (23)) ∧ W8.cell? ⟨I2, 1, none⟩ = some (.int .i64 x)) ∧ (W8.cell? ⟨I2, 2, none⟩ = some (.int .i64 y) ∧ W8.cell? ⟨I2, 3, none⟩ = some (.int .u32 imm)) := ⟨⟨i8.cell 0, i8.cell 1⟩, ⟨i8.cell 2, i8.cell 3⟩⟩
 obtain ⟨⟨n0, n1, n2, n3, n4, n5, n6, n7, n8, n9, n10⟩, _⟩ := has11 d8
 obtain ⟨⟨m0, m1⟩, _⟩ := has2 k8.m
 have K8 := Lib.hid k8
 clear k8 i8 d8
 obtain ⟨⟨d0, d1, d2, d3, d4, d5, d6, d7, d8, d9, d10⟩, ⟨f0, f1, f2, f3, f4, f5, f6, f7, f8, f9, f10⟩⟩ := has11 K8.out.d
 obtain ⟨⟨o0, o1⟩, ⟨q0, q1⟩⟩ := has2 K8.out.o
 go_wp2_with fail
 go_region
 all_goals go_wp2_with fail
 all_goals refine bodyPost_ret (v := .tuple #[.agg #[.int .u32 (((pc : Int) + (n : Int)) % 4294967296), .int .u32 r0, .int .u32 r1, .int .u32 r2, .int .u32 r3, .int .u32 r4, .int .u32 r5, .int .u32 r6, .int .u32 r7, .int .u32 b, .int .u32 s], .agg #[.slice (some ⟨xb, 0, none⟩) 2200 cB, .slice (some ⟨yb, 0, none⟩) 2200 cU], .int .i64 0, .int .i64 0]) (by simp [results, Tryz.results31, go_sem, d0, d1, d2, d3, d4, d5, d6, d7, d8, d9, d10, o0, o1]) rfl ?_
 all_goals obtain ⟨x1, x2⟩ := rst13 K8.out.bel (.int .u32 (((pc : Int) + (n : Int)) % 4294967296)) (.int .u32 r0) (.int .u32 r1) (.int .u32 r2) (.int .u32 r3) (.int .u32 r4) (.int .u32 r5) (.int .u32 r6) (.int .u32 r7) (.int .u32 b) (.int .u32 s) (.slice (some ⟨xb, 0, none⟩) 2200 cB) (.slice (some ⟨yb, 0, none⟩) 2200 cU)
 all_goals exact ⟨_, _, rfl, (RB8.out).chg x1 (by have := HXB.out; omega) (by have := HXB.out; omega), x2, .inl rfl⟩
set_option maxRecDepth 100000 in
set_option maxHeartbeats 8000000 in
theorem rdo_22 (xb yb cB cU : Nat) (B : List Int) (r0 r1 r2 r3 r4 r5 r6 r7 b s : Int) (pc : Nat) (hB : B.length = 2200) (hBy : Bytes B) (h1 : pc < 4294967296) (w : World) (rB : RowAt w (some ⟨xb, 0, none⟩) cB B) (rU : BlAt w (some ⟨yb, 0, none⟩) cU U22) (imm va vb : Int)  (x y n : Nat) (hx : x < 8) (hy : y < 8) (i0 : 0 ≤ imm) (i1 : imm < 4294967296) (hn : 1 ≤ n) (hn' : n ≤ 6) (hrd : Rd (codeL B T22 (pc : Int)) 22 x y imm n) (hva : Cp.reg ⟨pc, [r0, r1, r2, r3, r4, r5, r6, r7], b, s⟩ x = va) (hvb : Cp.reg ⟨pc, [r0, r1, r2, r3, r4, r5, r6, r7], b, s⟩ y = vb) (va0 : 0 ≤ va) (va1 : va < 4294967296) (vb0 : 0 ≤ vb) (vb1 : vb < 4294967296) (ok : Cp.Ok ⟨pc, [r0, r1, r2, r3, r4, r5, r6, r7], b, s⟩) :
  Calls Tryz.prog 31 #[.agg #[.int .u32 pc, .int .u32 r0, .int .u32 r1, .int .u32 r2, .int .u32 r3, .int .u32 r4, .int .u32 r5, .int .u32 r6, .int .u32 r7, .int .u32 b, .int .u32 s], .agg #[.slice (some ⟨xb, 0, none⟩) 2200 cB, .slice (some ⟨yb, 0, none⟩) 2200 cU]] w (RDoP w xb yb cU ⟨(⟨(((pc : Int) + (n : Int)) % 4294967296), [r0, r1, r2, r3, r4, r5, r6, r7], b, s⟩ : Cp), B, 2, imm⟩) := by
 refine rdo_head xb yb cB cU B r0 r1 r2 r3 r4 r5 r6 r7 b s pc hB hBy h1 w rB rU (22) imm va vb x y n hx hy i0 i1 hn hn' hrd hva hvb va0 va1 vb0 vb1 ok (fun Q hQ I2 I4 W8 t8 t9 t17 t18 t19 t20 t21 t22 t23 t24 t25 t26 t27 t28 t29 t30 t31 t32 t33 t34 t35 t36 t37 t38 t39 t40 t41 t42 t43 t44 t45 t46 t47 t48 t49 t50 t51 t52 t53 t54 t55 t56 t57 t58 t59 t60 t61 t62 t63 t64 t65 t66 t67 t68 t69 t70 t71 k8 i8 d8 RB8 RU8 hxb z0 z4 => ?_)
 have HXB := Lib.hid hxb
 have HB := Lib.hid hB
 have HBy := Lib.hid hBy
 have HVA := Lib.hid hva
 have HVB := Lib.hid hvb
 have OK := Lib.hid ok
 replace RB8 := Lib.hid RB8
 replace RU8 := Lib.hid RU8
 have xI : (x : Int) < 8 := by omega
 have N0 : (1 : Int) ≤ (n : Int) := by omega
 have N1 : (n : Int) ≤ 6 := by omega
 clear rB rU hB hBy hrd hva hvb ok hxb
 dsimp only [rdoRest, rightC, Option.getD, Tryz.f31]
 subst hQ
 obtain ⟨⟨v0, v1⟩, ⟨v2, v3⟩⟩ : (W8.cell? ⟨I2, 0, none⟩ = some (.int .i64 (22)) ∧ W8.cell? ⟨I2, 1, none⟩ = some (.int .i64 x)) ∧ (W8.cell? ⟨I2, 2, none⟩ = some (.int .i64 y) ∧ W8.cell? ⟨I2, 3, none⟩ = some (.int .u32 imm)) := ⟨⟨i8.cell 0, i8.cell 1⟩, ⟨i8.cell 2, i8.cell 3⟩⟩
 obtain ⟨⟨n0, n1, n2, n3, n4, n5, n6, n7, n8, n9, n10⟩, _⟩ := has11 d8
 obtain ⟨⟨m0, m1⟩, _⟩ := has2 k8.m
 have K8 := Lib.hid k8
 clear k8 i8 d8
 obtain ⟨⟨d0, d1, d2, d3, d4, d5, d6, d7, d8, d9, d10⟩, ⟨f0, f1, f2, f3, f4, f5, f6, f7, f8, f9, f10⟩⟩ := has11 K8.out.d
 obtain ⟨⟨o0, o1⟩, ⟨q0, q1⟩⟩ := has2 K8.out.o
 go_wp2_with fail
 go_region
 all_goals go_wp2_with fail
 all_goals refine bodyPost_ret (v := .tuple #[.agg #[.int .u32 (((pc : Int) + (n : Int)) % 4294967296), .int .u32 r0, .int .u32 r1, .int .u32 r2, .int .u32 r3, .int .u32 r4, .int .u32 r5, .int .u32 r6, .int .u32 r7, .int .u32 b, .int .u32 s], .agg #[.slice (some ⟨xb, 0, none⟩) 2200 cB, .slice (some ⟨yb, 0, none⟩) 2200 cU], .int .i64 2, .int .i64 imm]) (by simp [results, Tryz.results31, go_sem, d0, d1, d2, d3, d4, d5, d6, d7, d8, d9, d10, o0, o1]) rfl ?_
 all_goals obtain ⟨x1, x2⟩ := rst13 K8.out.bel (.int .u32 (((pc : Int) + (n : Int)) % 4294967296)) (.int .u32 r0) (.int .u32 r1) (.int .u32 r2) (.int .u32 r3) (.int .u32 r4) (.int .u32 r5) (.int .u32 r6) (.int .u32 r7) (.int .u32 b) (.int .u32 s) (.slice (some ⟨xb, 0, none⟩) 2200 cB) (.slice (some ⟨yb, 0, none⟩) 2200 cU)
 all_goals exact ⟨_, _, rfl, (RB8.out).chg x1 (by have := HXB.out; omega) (by have := HXB.out; omega), x2, .inl rfl⟩
set_option maxRecDepth 100000 in
set_option maxHeartbeats 8000000 in
theorem rdo_19 (xb yb cB cU : Nat) (B : List Int) (r0 r1 r2 r3 r4 r5 r6 r7 b s : Int) (pc : Nat) (hB : B.length = 2200) (hBy : Bytes B) (h1 : pc < 4294967296) (w : World) (rB : RowAt w (some ⟨xb, 0, none⟩) cB B) (rU : BlAt w (some ⟨yb, 0, none⟩) cU U22) (imm va vb : Int)  (x y n : Nat) (hx : x < 8) (hy : y < 8) (i0 : 0 ≤ imm) (i1 : imm < 4294967296) (hn : 1 ≤ n) (hn' : n ≤ 6) (hrd : Rd (codeL B T22 (pc : Int)) 19 x y imm n) (hva : Cp.reg ⟨pc, [r0, r1, r2, r3, r4, r5, r6, r7], b, s⟩ x = va) (hvb : Cp.reg ⟨pc, [r0, r1, r2, r3, r4, r5, r6, r7], b, s⟩ y = vb) (va0 : 0 ≤ va) (va1 : va < 4294967296) (vb0 : 0 ≤ vb) (vb1 : vb < 4294967296) (ok : Cp.Ok ⟨pc, [r0, r1, r2, r3, r4, r5, r6, r7], b, s⟩) :
  Calls Tryz.prog 31 #[.agg #[.int .u32 pc, .int .u32 r0, .int .u32 r1, .int .u32 r2, .int .u32 r3, .int .u32 r4, .int .u32 r5, .int .u32 r6, .int .u32 r7, .int .u32 b, .int .u32 s], .agg #[.slice (some ⟨xb, 0, none⟩) 2200 cB, .slice (some ⟨yb, 0, none⟩) 2200 cU]] w (RDoP w xb yb cU ⟨(⟨(((pc : Int) + (n : Int)) % 4294967296), [r0, r1, r2, r3, r4, r5, r6, r7], b, s⟩ : Cp).setPc (((pc : Int) + (n : Int) + imm) % 4294967296), B, 0, 0⟩) := by
 refine rdo_head xb yb cB cU B r0 r1 r2 r3 r4 r5 r6 r7 b s pc hB hBy h1 w rB rU (19) imm va vb x y n hx hy i0 i1 hn hn' hrd hva hvb va0 va1 vb0 vb1 ok (fun Q hQ I2 I4 W8 t8 t9 t17 t18 t19 t20 t21 t22 t23 t24 t25 t26 t27 t28 t29 t30 t31 t32 t33 t34 t35 t36 t37 t38 t39 t40 t41 t42 t43 t44 t45 t46 t47 t48 t49 t50 t51 t52 t53 t54 t55 t56 t57 t58 t59 t60 t61 t62 t63 t64 t65 t66 t67 t68 t69 t70 t71 k8 i8 d8 RB8 RU8 hxb z0 z4 => ?_)
 have HXB := Lib.hid hxb
 have HB := Lib.hid hB
 have HBy := Lib.hid hBy
 have HVA := Lib.hid hva
 have HVB := Lib.hid hvb
 have OK := Lib.hid ok
 replace RB8 := Lib.hid RB8
 replace RU8 := Lib.hid RU8
 have xI : (x : Int) < 8 := by omega
 have N0 : (1 : Int) ≤ (n : Int) := by omega
 have N1 : (n : Int) ≤ 6 := by omega
 clear rB rU hB hBy hrd hva hvb ok hxb
 dsimp only [rdoRest, rightC, Option.getD, Tryz.f31]
 subst hQ
 obtain ⟨⟨v0, v1⟩, ⟨v2, v3⟩⟩ : (W8.cell? ⟨I2, 0, none⟩ = some (.int .i64 (19)) ∧ W8.cell? ⟨I2, 1, none⟩ = some (.int .i64 x)) ∧ (W8.cell? ⟨I2, 2, none⟩ = some (.int .i64 y) ∧ W8.cell? ⟨I2, 3, none⟩ = some (.int .u32 imm)) := ⟨⟨i8.cell 0, i8.cell 1⟩, ⟨i8.cell 2, i8.cell 3⟩⟩
 obtain ⟨W9, e9, h9, g9, k9, i9, d9', ch9⟩ := pc_world k8 i8 d8 (by omega) (by omega) ((((pc : Int) + (n : Int) + imm) % 4294967296))
 have RB9 := Lib.hid (RB8.out.chg ch9 (by have := HXB.out; omega) (by have := HXB.out; omega))
 have K9 := Lib.hid k9
 obtain ⟨⟨j0, j1⟩, ⟨j2, j3⟩⟩ : (W9.cell? ⟨I2, 0, none⟩ = some (.int .i64 (19)) ∧ W9.cell? ⟨I2, 1, none⟩ = some (.int .i64 x)) ∧ (W9.cell? ⟨I2, 2, none⟩ = some (.int .i64 y) ∧ W9.cell? ⟨I2, 3, none⟩ = some (.int .u32 imm)) := ⟨⟨i9.cell 0, i9.cell 1⟩, ⟨i9.cell 2, i9.cell 3⟩⟩
 obtain ⟨⟨n0, n1, n2, n3, n4, n5, n6, n7, n8, n9, n10⟩, _⟩ := has11 d9'
 obtain ⟨⟨m0, m1⟩, _⟩ := has2 k9.m
 clear k8 i8 d8 k9 i9 d9' ch9
 obtain ⟨⟨d0, d1, d2, d3, d4, d5, d6, d7, d8, d9, d10⟩, ⟨f0, f1, f2, f3, f4, f5, f6, f7, f8, f9, f10⟩⟩ := has11 K9.out.d
 obtain ⟨⟨o0, o1⟩, ⟨q0, q1⟩⟩ := has2 K9.out.o
 go_wp2_with fail
 go_region
 all_goals go_wp2_with fail
 all_goals refine bodyPost_ret (v := .tuple #[.agg #[.int .u32 (((pc : Int) + (n : Int) + imm) % 4294967296), .int .u32 r0, .int .u32 r1, .int .u32 r2, .int .u32 r3, .int .u32 r4, .int .u32 r5, .int .u32 r6, .int .u32 r7, .int .u32 b, .int .u32 s], .agg #[.slice (some ⟨xb, 0, none⟩) 2200 cB, .slice (some ⟨yb, 0, none⟩) 2200 cU], .int .i64 0, .int .i64 0]) (by simp [results, Tryz.results31, go_sem, d0, d1, d2, d3, d4, d5, d6, d7, d8, d9, d10, o0, o1]) rfl ?_
 all_goals obtain ⟨x1, x2⟩ := rst13 K9.out.bel (.int .u32 (((pc : Int) + (n : Int) + imm) % 4294967296)) (.int .u32 r0) (.int .u32 r1) (.int .u32 r2) (.int .u32 r3) (.int .u32 r4) (.int .u32 r5) (.int .u32 r6) (.int .u32 r7) (.int .u32 b) (.int .u32 s) (.slice (some ⟨xb, 0, none⟩) 2200 cB) (.slice (some ⟨yb, 0, none⟩) 2200 cU)
 all_goals exact ⟨_, _, rfl, (RB9.out).chg x1 (by have := HXB.out; omega) (by have := HXB.out; omega), x2, .inl rfl⟩
set_option maxRecDepth 100000 in
set_option maxHeartbeats 8000000 in
theorem rdo_20y (xb yb cB cU : Nat) (B : List Int) (r0 r1 r2 r3 r4 r5 r6 r7 b s : Int) (pc : Nat) (hB : B.length = 2200) (hBy : Bytes B) (h1 : pc < 4294967296) (w : World) (rB : RowAt w (some ⟨xb, 0, none⟩) cB B) (rU : BlAt w (some ⟨yb, 0, none⟩) cU U22) (imm va vb : Int)  (x y n : Nat) (hx : x < 8) (hy : y < 8) (i0 : 0 ≤ imm) (i1 : imm < 4294967296) (hn : 1 ≤ n) (hn' : n ≤ 6) (hrd : Rd (codeL B T22 (pc : Int)) 20 x y imm n) (hva : Cp.reg ⟨pc, [r0, r1, r2, r3, r4, r5, r6, r7], b, s⟩ x = va) (hvb : Cp.reg ⟨pc, [r0, r1, r2, r3, r4, r5, r6, r7], b, s⟩ y = vb) (va0 : 0 ≤ va) (va1 : va < 4294967296) (vb0 : 0 ≤ vb) (vb1 : vb < 4294967296) (ok : Cp.Ok ⟨pc, [r0, r1, r2, r3, r4, r5, r6, r7], b, s⟩) (hz : (va == 0) = true) :
  Calls Tryz.prog 31 #[.agg #[.int .u32 pc, .int .u32 r0, .int .u32 r1, .int .u32 r2, .int .u32 r3, .int .u32 r4, .int .u32 r5, .int .u32 r6, .int .u32 r7, .int .u32 b, .int .u32 s], .agg #[.slice (some ⟨xb, 0, none⟩) 2200 cB, .slice (some ⟨yb, 0, none⟩) 2200 cU]] w (RDoP w xb yb cU ⟨(⟨(((pc : Int) + (n : Int)) % 4294967296), [r0, r1, r2, r3, r4, r5, r6, r7], b, s⟩ : Cp).setPc (((pc : Int) + (n : Int) + imm) % 4294967296), B, 0, 0⟩) := by
 refine rdo_head xb yb cB cU B r0 r1 r2 r3 r4 r5 r6 r7 b s pc hB hBy h1 w rB rU (20) imm va vb x y n hx hy i0 i1 hn hn' hrd hva hvb va0 va1 vb0 vb1 ok (fun Q hQ I2 I4 W8 t8 t9 t17 t18 t19 t20 t21 t22 t23 t24 t25 t26 t27 t28 t29 t30 t31 t32 t33 t34 t35 t36 t37 t38 t39 t40 t41 t42 t43 t44 t45 t46 t47 t48 t49 t50 t51 t52 t53 t54 t55 t56 t57 t58 t59 t60 t61 t62 t63 t64 t65 t66 t67 t68 t69 t70 t71 k8 i8 d8 RB8 RU8 hxb z0 z4 => ?_)
 have HXB := Lib.hid hxb
 have HB := Lib.hid hB
 have HBy := Lib.hid hBy
 have HVA := Lib.hid hva
 have HVB := Lib.hid hvb
 have OK := Lib.hid ok
 replace RB8 := Lib.hid RB8
 replace RU8 := Lib.hid RU8
 have xI : (x : Int) < 8 := by omega
 have N0 : (1 : Int) ≤ (n : Int) := by omega
 have N1 : (n : Int) ≤ 6 := by omega
 clear rB rU hB hBy hrd hva hvb ok hxb
 dsimp only [rdoRest, rightC, Option.getD, Tryz.f31]
 subst hQ
 obtain ⟨⟨v0, v1⟩, ⟨v2, v3⟩⟩ : (W8.cell? ⟨I2, 0, none⟩ = some (.int .i64 (20)) ∧ W8.cell? ⟨I2, 1, none⟩ = some (.int .i64 x)) ∧ (W8.cell? ⟨I2, 2, none⟩ = some (.int .i64 y) ∧ W8.cell? ⟨I2, 3, none⟩ = some (.int .u32 imm)) := ⟨⟨i8.cell 0, i8.cell 1⟩, ⟨i8.cell 2, i8.cell 3⟩⟩
 obtain ⟨W9, e9, h9, g9, k9, i9, d9', ch9⟩ := pc_world k8 i8 d8 (by omega) (by omega) ((((pc : Int) + (n : Int) + imm) % 4294967296))
 have RB9 := Lib.hid (RB8.out.chg ch9 (by have := HXB.out; omega) (by have := HXB.out; omega))
 have K9 := Lib.hid k9
 obtain ⟨⟨j0, j1⟩, ⟨j2, j3⟩⟩ : (W9.cell? ⟨I2, 0, none⟩ = some (.int .i64 (20)) ∧ W9.cell? ⟨I2, 1, none⟩ = some (.int .i64 x)) ∧ (W9.cell? ⟨I2, 2, none⟩ = some (.int .i64 y) ∧ W9.cell? ⟨I2, 3, none⟩ = some (.int .u32 imm)) := ⟨⟨i9.cell 0, i9.cell 1⟩, ⟨i9.cell 2, i9.cell 3⟩⟩
 obtain ⟨⟨n0, n1, n2, n3, n4, n5, n6, n7, n8, n9, n10⟩, _⟩ := has11 d9'
 obtain ⟨⟨m0, m1⟩, _⟩ := has2 k9.m
 clear k8 i8 d8 k9 i9 d9' ch9
 obtain ⟨⟨d0, d1, d2, d3, d4, d5, d6, d7, d8, d9, d10⟩, ⟨f0, f1, f2, f3, f4, f5, f6, f7, f8, f9, f10⟩⟩ := has11 K9.out.d
 obtain ⟨⟨o0, o1⟩, ⟨q0, q1⟩⟩ := has2 K9.out.o
 go_wp2_with fail
 go_region
 all_goals go_wp2_with fail
 all_goals refine bodyPost_ret (v := .tuple #[.agg #[.int .u32 (((pc : Int) + (n : Int) + imm) % 4294967296), .int .u32 r0, .int .u32 r1, .int .u32 r2, .int .u32 r3, .int .u32 r4, .int .u32 r5, .int .u32 r6, .int .u32 r7, .int .u32 b, .int .u32 s], .agg #[.slice (some ⟨xb, 0, none⟩) 2200 cB, .slice (some ⟨yb, 0, none⟩) 2200 cU], .int .i64 0, .int .i64 0]) (by simp [results, Tryz.results31, go_sem, d0, d1, d2, d3, d4, d5, d6, d7, d8, d9, d10, o0, o1]) rfl ?_
 all_goals obtain ⟨x1, x2⟩ := rst13 K9.out.bel (.int .u32 (((pc : Int) + (n : Int) + imm) % 4294967296)) (.int .u32 r0) (.int .u32 r1) (.int .u32 r2) (.int .u32 r3) (.int .u32 r4) (.int .u32 r5) (.int .u32 r6) (.int .u32 r7) (.int .u32 b) (.int .u32 s) (.slice (some ⟨xb, 0, none⟩) 2200 cB) (.slice (some ⟨yb, 0, none⟩) 2200 cU)
 all_goals exact ⟨_, _, rfl, (RB9.out).chg x1 (by have := HXB.out; omega) (by have := HXB.out; omega), x2, .inl rfl⟩
set_option maxRecDepth 100000 in
set_option maxHeartbeats 8000000 in
theorem rdo_20n (xb yb cB cU : Nat) (B : List Int) (r0 r1 r2 r3 r4 r5 r6 r7 b s : Int) (pc : Nat) (hB : B.length = 2200) (hBy : Bytes B) (h1 : pc < 4294967296) (w : World) (rB : RowAt w (some ⟨xb, 0, none⟩) cB B) (rU : BlAt w (some ⟨yb, 0, none⟩) cU U22) (imm va vb : Int)  (x y n : Nat) (hx : x < 8) (hy : y < 8) (i0 : 0 ≤ imm) (i1 : imm < 4294967296) (hn : 1 ≤ n) (hn' : n ≤ 6) (hrd : Rd (codeL B T22 (pc : Int)) 20 x y imm n) (hva : Cp.reg ⟨pc, [r0, r1, r2, r3, r4, r5, r6, r7], b, s⟩ x = va) (hvb : Cp.reg ⟨pc, [r0, r1, r2, r3, r4, r5, r6, r7], b, s⟩ y = vb) (va0 : 0 ≤ va) (va1 : va < 4294967296) (vb0 : 0 ≤ vb) (vb1 : vb < 4294967296) (ok : Cp.Ok ⟨pc, [r0, r1, r2, r3, r4, r5, r6, r7], b, s⟩) (hz : (va == 0) = false) :
  Calls Tryz.prog 31 #[.agg #[.int .u32 pc, .int .u32 r0, .int .u32 r1, .int .u32 r2, .int .u32 r3, .int .u32 r4, .int .u32 r5, .int .u32 r6, .int .u32 r7, .int .u32 b, .int .u32 s], .agg #[.slice (some ⟨xb, 0, none⟩) 2200 cB, .slice (some ⟨yb, 0, none⟩) 2200 cU]] w (RDoP w xb yb cU ⟨(⟨(((pc : Int) + (n : Int)) % 4294967296), [r0, r1, r2, r3, r4, r5, r6, r7], b, s⟩ : Cp), B, 0, 0⟩) := by
 refine rdo_head xb yb cB cU B r0 r1 r2 r3 r4 r5 r6 r7 b s pc hB hBy h1 w rB rU (20) imm va vb x y n hx hy i0 i1 hn hn' hrd hva hvb va0 va1 vb0 vb1 ok (fun Q hQ I2 I4 W8 t8 t9 t17 t18 t19 t20 t21 t22 t23 t24 t25 t26 t27 t28 t29 t30 t31 t32 t33 t34 t35 t36 t37 t38 t39 t40 t41 t42 t43 t44 t45 t46 t47 t48 t49 t50 t51 t52 t53 t54 t55 t56 t57 t58 t59 t60 t61 t62 t63 t64 t65 t66 t67 t68 t69 t70 t71 k8 i8 d8 RB8 RU8 hxb z0 z4 => ?_)
 have HXB := Lib.hid hxb
 have HB := Lib.hid hB
 have HBy := Lib.hid hBy
 have HVA := Lib.hid hva
 have HVB := Lib.hid hvb
 have OK := Lib.hid ok
 replace RB8 := Lib.hid RB8
 replace RU8 := Lib.hid RU8
 have xI : (x : Int) < 8 := by omega
 have N0 : (1 : Int) ≤ (n : Int) := by omega
 have N1 : (n : Int) ≤ 6 := by omega
 clear rB rU hB hBy hrd hva hvb ok hxb
 dsimp only [rdoRest, rightC, Option.getD, Tryz.f31]
 subst hQ
 obtain ⟨⟨v0, v1⟩, ⟨v2, v3⟩⟩ : (W8.cell? ⟨I2, 0, none⟩ = some (.int .i64 (20)) ∧ W8.cell? ⟨I2, 1, none⟩ = some (.int .i64 x)) ∧ (W8.cell? ⟨I2, 2, none⟩ = some (.int .i64 y) ∧ W8.cell? ⟨I2, 3, none⟩ = some (.int .u32 imm)) := ⟨⟨i8.cell 0, i8.cell 1⟩, ⟨i8.cell 2, i8.cell 3⟩⟩
 obtain ⟨⟨n0, n1, n2, n3, n4, n5, n6, n7, n8, n9, n10⟩, _⟩ := has11 d8
 obtain ⟨⟨m0, m1⟩, _⟩ := has2 k8.m
 have K8 := Lib.hid k8
 clear k8 i8 d8
 obtain ⟨⟨d0, d1, d2, d3, d4, d5, d6, d7, d8, d9, d10⟩, ⟨f0, f1, f2, f3, f4, f5, f6, f7, f8, f9, f10⟩⟩ := has11 K8.out.d
 obtain ⟨⟨o0, o1⟩, ⟨q0, q1⟩⟩ := has2 K8.out.o
 go_wp2_with fail
 go_region
 all_goals go_wp2_with fail
 all_goals refine bodyPost_ret (v := .tuple #[.agg #[.int .u32 (((pc : Int) + (n : Int)) % 4294967296), .int .u32 r0, .int .u32 r1, .int .u32 r2, .int .u32 r3, .int .u32 r4, .int .u32 r5, .int .u32 r6, .int .u32 r7, .int .u32 b, .int .u32 s], .agg #[.slice (some ⟨xb, 0, none⟩) 2200 cB, .slice (some ⟨yb, 0, none⟩) 2200 cU], .int .i64 0, .int .i64 0]) (by simp [results, Tryz.results31, go_sem, d0, d1, d2, d3, d4, d5, d6, d7, d8, d9, d10, o0, o1]) rfl ?_
 all_goals obtain ⟨x1, x2⟩ := rst13 K8.out.bel (.int .u32 (((pc : Int) + (n : Int)) % 4294967296)) (.int .u32 r0) (.int .u32 r1) (.int .u32 r2) (.int .u32 r3) (.int .u32 r4) (.int .u32 r5) (.int .u32 r6) (.int .u32 r7) (.int .u32 b) (.int .u32 s) (.slice (some ⟨xb, 0, none⟩) 2200 cB) (.slice (some ⟨yb, 0, none⟩) 2200 cU)
 all_goals exact ⟨_, _, rfl, (RB8.out).chg x1 (by have := HXB.out; omega) (by have := HXB.out; omega), x2, .inl rfl⟩
set_option maxRecDepth 100000 in
set_option maxHeartbeats 8000000 in
theorem rdo_21 (xb yb cB cU : Nat) (B : List Int) (r0 r1 r2 r3 r4 r5 r6 r7 b s : Int) (pc : Nat) (hB : B.length = 2200) (hBy : Bytes B) (h1 : pc < 4294967296) (w : World) (rB : RowAt w (some ⟨xb, 0, none⟩) cB B) (rU : BlAt w (some ⟨yb, 0, none⟩) cU U22) (imm va vb : Int)  (x y n : Nat) (hx : x < 8) (hy : y < 8) (i0 : 0 ≤ imm) (i1 : imm < 4294967296) (hn : 1 ≤ n) (hn' : n ≤ 6) (hrd : Rd (codeL B T22 (pc : Int)) 21 x y imm n) (hva : Cp.reg ⟨pc, [r0, r1, r2, r3, r4, r5, r6, r7], b, s⟩ x = va) (hvb : Cp.reg ⟨pc, [r0, r1, r2, r3, r4, r5, r6, r7], b, s⟩ y = vb) (va0 : 0 ≤ va) (va1 : va < 4294967296) (vb0 : 0 ≤ vb) (vb1 : vb < 4294967296) (ok : Cp.Ok ⟨pc, [r0, r1, r2, r3, r4, r5, r6, r7], b, s⟩) :
  Calls Tryz.prog 31 #[.agg #[.int .u32 pc, .int .u32 r0, .int .u32 r1, .int .u32 r2, .int .u32 r3, .int .u32 r4, .int .u32 r5, .int .u32 r6, .int .u32 r7, .int .u32 b, .int .u32 s], .agg #[.slice (some ⟨xb, 0, none⟩) 2200 cB, .slice (some ⟨yb, 0, none⟩) 2200 cU]] w (RDoP w xb yb cU ⟨(⟨(((pc : Int) + (n : Int)) % 4294967296), [r0, r1, r2, r3, r4, r5, r6, r7], b, s⟩ : Cp).setPc va, B, 0, 0⟩) := by
 refine rdo_head xb yb cB cU B r0 r1 r2 r3 r4 r5 r6 r7 b s pc hB hBy h1 w rB rU (21) imm va vb x y n hx hy i0 i1 hn hn' hrd hva hvb va0 va1 vb0 vb1 ok (fun Q hQ I2 I4 W8 t8 t9 t17 t18 t19 t20 t21 t22 t23 t24 t25 t26 t27 t28 t29 t30 t31 t32 t33 t34 t35 t36 t37 t38 t39 t40 t41 t42 t43 t44 t45 t46 t47 t48 t49 t50 t51 t52 t53 t54 t55 t56 t57 t58 t59 t60 t61 t62 t63 t64 t65 t66 t67 t68 t69 t70 t71 k8 i8 d8 RB8 RU8 hxb z0 z4 => ?_)
 have HXB := Lib.hid hxb
 have HB := Lib.hid hB
 have HBy := Lib.hid hBy
 have HVA := Lib.hid hva
 have HVB := Lib.hid hvb
 have OK := Lib.hid ok
 replace RB8 := Lib.hid RB8
 replace RU8 := Lib.hid RU8
 have xI : (x : Int) < 8 := by omega
 have N0 : (1 : Int) ≤ (n : Int) := by omega
 have N1 : (n : Int) ≤ 6 := by omega
 clear rB rU hB hBy hrd hva hvb ok hxb
 dsimp only [rdoRest, rightC, Option.getD, Tryz.f31]
 subst hQ
 obtain ⟨⟨v0, v1⟩, ⟨v2, v3⟩⟩ : (W8.cell? ⟨I2, 0, none⟩ = some (.int .i64 (21)) ∧ W8.cell? ⟨I2, 1, none⟩ = some (.int .i64 x)) ∧ (W8.cell? ⟨I2, 2, none⟩ = some (.int .i64 y) ∧ W8.cell? ⟨I2, 3, none⟩ = some (.int .u32 imm)) := ⟨⟨i8.cell 0, i8.cell 1⟩, ⟨i8.cell 2, i8.cell 3⟩⟩
 obtain ⟨W9, e9, h9, g9, k9, i9, d9', ch9⟩ := pc_world k8 i8 d8 (by omega) (by omega) (va)
 have RB9 := Lib.hid (RB8.out.chg ch9 (by have := HXB.out; omega) (by have := HXB.out; omega))
 have K9 := Lib.hid k9
 obtain ⟨⟨j0, j1⟩, ⟨j2, j3⟩⟩ : (W9.cell? ⟨I2, 0, none⟩ = some (.int .i64 (21)) ∧ W9.cell? ⟨I2, 1, none⟩ = some (.int .i64 x)) ∧ (W9.cell? ⟨I2, 2, none⟩ = some (.int .i64 y) ∧ W9.cell? ⟨I2, 3, none⟩ = some (.int .u32 imm)) := ⟨⟨i9.cell 0, i9.cell 1⟩, ⟨i9.cell 2, i9.cell 3⟩⟩
 obtain ⟨⟨n0, n1, n2, n3, n4, n5, n6, n7, n8, n9, n10⟩, _⟩ := has11 d9'
 obtain ⟨⟨m0, m1⟩, _⟩ := has2 k9.m
 clear k8 i8 d8 k9 i9 d9' ch9
 obtain ⟨⟨d0, d1, d2, d3, d4, d5, d6, d7, d8, d9, d10⟩, ⟨f0, f1, f2, f3, f4, f5, f6, f7, f8, f9, f10⟩⟩ := has11 K9.out.d
 obtain ⟨⟨o0, o1⟩, ⟨q0, q1⟩⟩ := has2 K9.out.o
 go_wp2_with fail
 go_region
 all_goals go_wp2_with fail
 all_goals refine bodyPost_ret (v := .tuple #[.agg #[.int .u32 va, .int .u32 r0, .int .u32 r1, .int .u32 r2, .int .u32 r3, .int .u32 r4, .int .u32 r5, .int .u32 r6, .int .u32 r7, .int .u32 b, .int .u32 s], .agg #[.slice (some ⟨xb, 0, none⟩) 2200 cB, .slice (some ⟨yb, 0, none⟩) 2200 cU], .int .i64 0, .int .i64 0]) (by simp [results, Tryz.results31, go_sem, d0, d1, d2, d3, d4, d5, d6, d7, d8, d9, d10, o0, o1]) rfl ?_
 all_goals obtain ⟨x1, x2⟩ := rst13 K9.out.bel (.int .u32 va) (.int .u32 r0) (.int .u32 r1) (.int .u32 r2) (.int .u32 r3) (.int .u32 r4) (.int .u32 r5) (.int .u32 r6) (.int .u32 r7) (.int .u32 b) (.int .u32 s) (.slice (some ⟨xb, 0, none⟩) 2200 cB) (.slice (some ⟨yb, 0, none⟩) 2200 cU)
 all_goals exact ⟨_, _, rfl, (RB9.out).chg x1 (by have := HXB.out; omega) (by have := HXB.out; omega), x2, .inl rfl⟩
set_option maxRecDepth 100000 in
set_option maxHeartbeats 8000000 in
theorem rdo_sum (xb yb cB cU : Nat) (B : List Int) (r0 r1 r2 r3 r4 r5 r6 r7 b s : Int) (pc : Nat) (hB : B.length = 2200) (hBy : Bytes B) (h1 : pc < 4294967296) (w : World) (rB : RowAt w (some ⟨xb, 0, none⟩) cB B) (rU : BlAt w (some ⟨yb, 0, none⟩) cU U22) (op imm va vb : Int)  (x y n : Nat) (hx : x < 8) (hy : y < 8) (i0 : 0 ≤ imm) (i1 : imm < 4294967296) (hn : 1 ≤ n) (hn' : n ≤ 6) (hrd : Rd (codeL B T22 (pc : Int)) op x y imm n) (hva : Cp.reg ⟨pc, [r0, r1, r2, r3, r4, r5, r6, r7], b, s⟩ x = va) (hvb : Cp.reg ⟨pc, [r0, r1, r2, r3, r4, r5, r6, r7], b, s⟩ y = vb) (va0 : 0 ≤ va) (va1 : va < 4294967296) (vb0 : 0 ≤ vb) (vb1 : vb < 4294967296) (ok : Cp.Ok ⟨pc, [r0, r1, r2, r3, r4, r5, r6, r7], b, s⟩) (ho : 3 ≤ op ∧ op ≤ 14) (hd : doK op vb = true) :
  Calls Tryz.prog 31 #[.agg #[.int .u32 pc, .int .u32 r0, .int .u32 r1, .int .u32 r2, .int .u32 r3, .int .u32 r4, .int .u32 r5, .int .u32 r6, .int .u32 r7, .int .u32 b, .int .u32 s], .agg #[.slice (some ⟨xb, 0, none⟩) 2200 cB, .slice (some ⟨yb, 0, none⟩) 2200 cU]] w (RDoP w xb yb cU ⟨(⟨(((pc : Int) + (n : Int)) % 4294967296), [r0, r1, r2, r3, r4, r5, r6, r7], b, s⟩ : Cp).setR x (doV op va vb), B, 0, 0⟩) := by
 have ho0 : (op == 0) = false := beq_eq_false_iff_ne.2 (by omega)
 have ho1 : (op == 1) = false := beq_eq_false_iff_ne.2 (by omega)
 have ho2 : (op == 2) = false := beq_eq_false_iff_ne.2 (by omega)
 have ho15 : (op == 15) = false := beq_eq_false_iff_ne.2 (by omega)
 have ho16 : (op == 16) = false := beq_eq_false_iff_ne.2 (by omega)
 have ho17 : (op == 17) = false := beq_eq_false_iff_ne.2 (by omega)
 have ho18 : (op == 18) = false := beq_eq_false_iff_ne.2 (by omega)
 have ho19 : (op == 19) = false := beq_eq_false_iff_ne.2 (by omega)
 have ho20 : (op == 20) = false := beq_eq_false_iff_ne.2 (by omega)
 have ho21 : (op == 21) = false := beq_eq_false_iff_ne.2 (by omega)
 have ho22 : (op == 22) = false := beq_eq_false_iff_ne.2 (by omega)
 have hoa : decide (3 ≤ op) = true := decide_eq_true ho.1
 have hob : decide (op ≤ 14) = true := decide_eq_true ho.2
 obtain ⟨o0, o1⟩ := ho
 obtain ⟨dv, hdv⟩ : ∃ dv, doV op va vb = dv := ⟨_, rfl⟩
 have rdo := fun w => rdo_any op va vb va0 va1 vb0 vb1 w
 simp only [hd, hdv] at rdo
 have hdvb : U32 dv := hdv ▸ doV_bd op va vb va0 va1 vb0 vb1
 try rw [hdv]
 have RDO := Lib.hid rdo
 clear rdo hdv hd
 obtain ⟨F, hF⟩ : ∃ F, (⟨(((pc : Int) + (n : Int)) % 4294967296), [r0, r1, r2, r3, r4, r5, r6, r7], b, s⟩ : Cp).setR x dv = F := ⟨_, rfl⟩
 have hFok : F.Ok := hF ▸ (ok.setPc (wrap_u ((pc : Int) + (n : Int)))).setR x hdvb
 rw [hF]
 have HF := Lib.hid hF
 clear hF
 obtain ⟨s0, s1, s2, s3, s4, s5, s6, s7, hs⟩ := hFok.eight
 obtain ⟨pc2, r', b2, z2⟩ := F
 simp only at hs
 subst hs
 clear hFok
 refine rdo_head xb yb cB cU B r0 r1 r2 r3 r4 r5 r6 r7 b s pc hB hBy h1 w rB rU (op) imm va vb x y n hx hy i0 i1 hn hn' hrd hva hvb va0 va1 vb0 vb1 ok (fun Q hQ I2 I4 W8 t8 t9 t17 t18 t19 t20 t21 t22 t23 t24 t25 t26 t27 t28 t29 t30 t31 t32 t33 t34 t35 t36 t37 t38 t39 t40 t41 t42 t43 t44 t45 t46 t47 t48 t49 t50 t51 t52 t53 t54 t55 t56 t57 t58 t59 t60 t61 t62 t63 t64 t65 t66 t67 t68 t69 t70 t71 k8 i8 d8 RB8 RU8 hxb z0 z4 => ?_)
 have HXB := Lib.hid hxb
 have HB := Lib.hid hB
 have HBy := Lib.hid hBy
 have HVA := Lib.hid hva
 have HVB := Lib.hid hvb
 have OK := Lib.hid ok
 replace RB8 := Lib.hid RB8
 replace RU8 := Lib.hid RU8
 have xI : (x : Int) < 8 := by omega
 have N0 : (1 : Int) ≤ (n : Int) := by omega
 have N1 : (n : Int) ≤ 6 := by omega
 clear rB rU hB hBy hrd hva hvb ok hxb
 dsimp only [rdoRest, rightC, Option.getD, Tryz.f31]
 subst hQ
 obtain ⟨⟨v0, v1⟩, ⟨v2, v3⟩⟩ : (W8.cell? ⟨I2, 0, none⟩ = some (.int .i64 (op)) ∧ W8.cell? ⟨I2, 1, none⟩ = some (.int .i64 x)) ∧ (W8.cell? ⟨I2, 2, none⟩ = some (.int .i64 y) ∧ W8.cell? ⟨I2, 3, none⟩ = some (.int .u32 imm)) := ⟨⟨i8.cell 0, i8.cell 1⟩, ⟨i8.cell 2, i8.cell 3⟩⟩
 obtain ⟨W9, e9, ⟨u9, h9⟩, g9, k9, i9, d9', ch9⟩ := reg_world k8 i8 d8 (by omega) (by omega) x hx (dv)
 rw [HF.out] at d9'
 dsimp only [Cp.cs, List.map_cons, List.map_nil, List.cons_append, List.nil_append] at d9'
 have RB9 := Lib.hid (RB8.out.chg ch9 (by have := HXB.out; omega) (by have := HXB.out; omega))
 have K9 := Lib.hid k9
 obtain ⟨⟨j0, j1⟩, ⟨j2, j3⟩⟩ : (W9.cell? ⟨I2, 0, none⟩ = some (.int .i64 (op)) ∧ W9.cell? ⟨I2, 1, none⟩ = some (.int .i64 x)) ∧ (W9.cell? ⟨I2, 2, none⟩ = some (.int .i64 y) ∧ W9.cell? ⟨I2, 3, none⟩ = some (.int .u32 imm)) := ⟨⟨i9.cell 0, i9.cell 1⟩, ⟨i9.cell 2, i9.cell 3⟩⟩
 obtain ⟨⟨n0, n1, n2, n3, n4, n5, n6, n7, n8, n9, n10⟩, _⟩ := has11 d9'
 obtain ⟨⟨m0, m1⟩, _⟩ := has2 k9.m
 go_wp2_with fail
 refine (RDO.out _).mono ?_; rintro e w' ⟨rfl, rfl⟩
 clear k8 i8 d8 k9 i9 d9' ch9
 obtain ⟨⟨d0, d1, d2, d3, d4, d5, d6, d7, d8, d9, d10⟩, ⟨f0, f1, f2, f3, f4, f5, f6, f7, f8, f9, f10⟩⟩ := has11 K9.out.d
 obtain ⟨⟨o0, o1⟩, ⟨q0, q1⟩⟩ := has2 K9.out.o
 go_wp2_with fail
 go_region
 all_goals go_wp2_with fail
 all_goals refine bodyPost_ret (v := .tuple #[.agg #[.int .u32 pc2, .int .u32 s0, .int .u32 s1, .int .u32 s2, .int .u32 s3, .int .u32 s4, .int .u32 s5, .int .u32 s6, .int .u32 s7, .int .u32 b2, .int .u32 z2], .agg #[.slice (some ⟨xb, 0, none⟩) 2200 cB, .slice (some ⟨yb, 0, none⟩) 2200 cU], .int .i64 0, .int .i64 0]) (by simp [results, Tryz.results31, go_sem, d0, d1, d2, d3, d4, d5, d6, d7, d8, d9, d10, o0, o1]) rfl ?_
 all_goals obtain ⟨x1, x2⟩ := rst13 K9.out.bel (.int .u32 pc2) (.int .u32 s0) (.int .u32 s1) (.int .u32 s2) (.int .u32 s3) (.int .u32 s4) (.int .u32 s5) (.int .u32 s6) (.int .u32 s7) (.int .u32 b2) (.int .u32 z2) (.slice (some ⟨xb, 0, none⟩) 2200 cB) (.slice (some ⟨yb, 0, none⟩) 2200 cU)
 all_goals exact ⟨_, _, rfl, (RB9.out).chg x1 (by have := HXB.out; omega) (by have := HXB.out; omega), x2, .inl rfl⟩
set_option maxRecDepth 100000 in
set_option maxHeartbeats 8000000 in
theorem rdo_trap (xb yb cB cU : Nat) (B : List Int) (r0 r1 r2 r3 r4 r5 r6 r7 b s : Int) (pc : Nat) (hB : B.length = 2200) (hBy : Bytes B) (h1 : pc < 4294967296) (w : World) (rB : RowAt w (some ⟨xb, 0, none⟩) cB B) (rU : BlAt w (some ⟨yb, 0, none⟩) cU U22) (op imm va vb : Int)  (x y n : Nat) (hx : x < 8) (hy : y < 8) (i0 : 0 ≤ imm) (i1 : imm < 4294967296) (hn : 1 ≤ n) (hn' : n ≤ 6) (hrd : Rd (codeL B T22 (pc : Int)) op x y imm n) (hva : Cp.reg ⟨pc, [r0, r1, r2, r3, r4, r5, r6, r7], b, s⟩ x = va) (hvb : Cp.reg ⟨pc, [r0, r1, r2, r3, r4, r5, r6, r7], b, s⟩ y = vb) (va0 : 0 ≤ va) (va1 : va < 4294967296) (vb0 : 0 ≤ vb) (vb1 : vb < 4294967296) (ok : Cp.Ok ⟨pc, [r0, r1, r2, r3, r4, r5, r6, r7], b, s⟩) (ho : 3 ≤ op ∧ op ≤ 14) (hd : doK op vb = false) :
  Calls Tryz.prog 31 #[.agg #[.int .u32 pc, .int .u32 r0, .int .u32 r1, .int .u32 r2, .int .u32 r3, .int .u32 r4, .int .u32 r5, .int .u32 r6, .int .u32 r7, .int .u32 b, .int .u32 s], .agg #[.slice (some ⟨xb, 0, none⟩) 2200 cB, .slice (some ⟨yb, 0, none⟩) 2200 cU]] w (RDoP w xb yb cU ⟨⟨pc, [r0, r1, r2, r3, r4, r5, r6, r7], b, s⟩, B, 4, 0⟩) := by
 have ho0 : (op == 0) = false := beq_eq_false_iff_ne.2 (by omega)
 have ho1 : (op == 1) = false := beq_eq_false_iff_ne.2 (by omega)
 have ho2 : (op == 2) = false := beq_eq_false_iff_ne.2 (by omega)
 have ho15 : (op == 15) = false := beq_eq_false_iff_ne.2 (by omega)
 have ho16 : (op == 16) = false := beq_eq_false_iff_ne.2 (by omega)
 have ho17 : (op == 17) = false := beq_eq_false_iff_ne.2 (by omega)
 have ho18 : (op == 18) = false := beq_eq_false_iff_ne.2 (by omega)
 have ho19 : (op == 19) = false := beq_eq_false_iff_ne.2 (by omega)
 have ho20 : (op == 20) = false := beq_eq_false_iff_ne.2 (by omega)
 have ho21 : (op == 21) = false := beq_eq_false_iff_ne.2 (by omega)
 have ho22 : (op == 22) = false := beq_eq_false_iff_ne.2 (by omega)
 have hoa : decide (3 ≤ op) = true := decide_eq_true ho.1
 have hob : decide (op ≤ 14) = true := decide_eq_true ho.2
 obtain ⟨o0, o1⟩ := ho
 obtain ⟨dv, hdv⟩ : ∃ dv, doV op va vb = dv := ⟨_, rfl⟩
 have rdo := fun w => rdo_any op va vb va0 va1 vb0 vb1 w
 simp only [hd, hdv] at rdo
 have hdvb : U32 dv := hdv ▸ doV_bd op va vb va0 va1 vb0 vb1
 try rw [hdv]
 have RDO := Lib.hid rdo
 clear rdo hdv hd
 refine rdo_head xb yb cB cU B r0 r1 r2 r3 r4 r5 r6 r7 b s pc hB hBy h1 w rB rU (op) imm va vb x y n hx hy i0 i1 hn hn' hrd hva hvb va0 va1 vb0 vb1 ok (fun Q hQ I2 I4 W8 t8 t9 t17 t18 t19 t20 t21 t22 t23 t24 t25 t26 t27 t28 t29 t30 t31 t32 t33 t34 t35 t36 t37 t38 t39 t40 t41 t42 t43 t44 t45 t46 t47 t48 t49 t50 t51 t52 t53 t54 t55 t56 t57 t58 t59 t60 t61 t62 t63 t64 t65 t66 t67 t68 t69 t70 t71 k8 i8 d8 RB8 RU8 hxb z0 z4 => ?_)
 have HXB := Lib.hid hxb
 have HB := Lib.hid hB
 have HBy := Lib.hid hBy
 have HVA := Lib.hid hva
 have HVB := Lib.hid hvb
 have OK := Lib.hid ok
 replace RB8 := Lib.hid RB8
 replace RU8 := Lib.hid RU8
 have xI : (x : Int) < 8 := by omega
 have N0 : (1 : Int) ≤ (n : Int) := by omega
 have N1 : (n : Int) ≤ 6 := by omega
 clear rB rU hB hBy hrd hva hvb ok hxb
 dsimp only [rdoRest, rightC, Option.getD, Tryz.f31]
 subst hQ
 obtain ⟨⟨v0, v1⟩, ⟨v2, v3⟩⟩ : (W8.cell? ⟨I2, 0, none⟩ = some (.int .i64 (op)) ∧ W8.cell? ⟨I2, 1, none⟩ = some (.int .i64 x)) ∧ (W8.cell? ⟨I2, 2, none⟩ = some (.int .i64 y) ∧ W8.cell? ⟨I2, 3, none⟩ = some (.int .u32 imm)) := ⟨⟨i8.cell 0, i8.cell 1⟩, ⟨i8.cell 2, i8.cell 3⟩⟩
 obtain ⟨⟨c0, c1, c2, c3, c4, c5, c6, c7, c8, c9, c10⟩, _⟩ := has11 k8.c
 obtain ⟨⟨m0, m1⟩, _⟩ := has2 k8.m
 have K8 := Lib.hid k8
 go_wp2_with fail
 refine (RDO.out _).mono ?_; rintro e w' ⟨rfl, rfl⟩
 clear k8 i8 d8
 obtain ⟨⟨d0, d1, d2, d3, d4, d5, d6, d7, d8, d9, d10⟩, ⟨f0, f1, f2, f3, f4, f5, f6, f7, f8, f9, f10⟩⟩ := has11 K8.out.d
 obtain ⟨⟨o0, o1⟩, ⟨q0, q1⟩⟩ := has2 K8.out.o
 go_wp2_with fail
 go_region
 all_goals go_wp2_with fail
 all_goals refine bodyPost_ret (v := .tuple #[.agg #[.int .u32 pc, .int .u32 r0, .int .u32 r1, .int .u32 r2, .int .u32 r3, .int .u32 r4, .int .u32 r5, .int .u32 r6, .int .u32 r7, .int .u32 b, .int .u32 s], .agg #[.slice (some ⟨xb, 0, none⟩) 2200 cB, .slice (some ⟨yb, 0, none⟩) 2200 cU], .int .i64 4, .int .i64 0]) (by simp [results, Tryz.results31, go_sem, d0, d1, d2, d3, d4, d5, d6, d7, d8, d9, d10, o0, o1]) rfl ?_
 all_goals obtain ⟨x1, x2⟩ := rst13 K8.out.bel (.int .u32 pc) (.int .u32 r0) (.int .u32 r1) (.int .u32 r2) (.int .u32 r3) (.int .u32 r4) (.int .u32 r5) (.int .u32 r6) (.int .u32 r7) (.int .u32 b) (.int .u32 s) (.slice (some ⟨xb, 0, none⟩) 2200 cB) (.slice (some ⟨yb, 0, none⟩) 2200 cU)
 all_goals exact ⟨_, _, rfl, (RB8.out).chg x1 (by have := HXB.out; omega) (by have := HXB.out; omega), x2, .inl rfl⟩
end Go.Proofs.YtbgnkljeodandaaGreat.Mm
