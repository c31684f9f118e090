/- The document's own Slice: what its walk is stated in. -/
import Derived.Test.YtbgnkljeodandaaGreatLBgA
import Derived.Test.YtbgnkljeodandaaGreatLBxA
namespace Go.Proofs.YtbgnkljeodandaaGreat.Mm
open Go.ChangeShapes Go.WideShapes Go.ChangeAt Go.RowKit
set_option linter.unusedVariables false
set_option linter.unusedSimpArgs false

set_option maxRecDepth 100000 in
set_option maxHeartbeats 8000000 in
theorem rgate_0 (xb yb cB cU : Nat) (pc r0 r1 r2 r3 r4 r5 r6 r7 b s : Int) (RA : Option Addr) (rc n : Nat) (tk cd : Int) (T : Option Addr) (ct k : Nat) (tr : List Ev) (hk : tr.length = k) (hk1 : k ≤ 100000) (w : World) (rT : EvRow w T ct tr) (u0 : U32 r0) :
  Calls Tryz.prog 32 #[.agg #[.int .u32 pc, .int .u32 r0, .int .u32 r1, .int .u32 r2, .int .u32 r3, .int .u32 r4, .int .u32 r5, .int .u32 r6, .int .u32 r7, .int .u32 b, .int .u32 s], .agg #[.slice (some ⟨xb, 0, none⟩) 2200 cB, .slice (some ⟨yb, 0, none⟩) 2200 cU], .agg #[.slice RA n rc, .int .i64 tk, .slice T k ct, .bool false, .int .u32 cd], .int .i64 0] w fun e w' => ∃ A9 c9, e = .returned (.tuple #[.agg #[.int .u32 pc, .int .u32 r0, .int .u32 r1, .int .u32 r2, .int .u32 r3, .int .u32 r4, .int .u32 r5, .int .u32 r6, .int .u32 r7, .int .u32 b, .int .u32 s], .agg #[.slice RA n rc, .int .i64 tk, .slice A9 (k + 1) c9, .bool true, .int .u32 r0]]) ∧ EvRow w' A9 c9 (tr ++ [(0, r0)]) ∧ Below w.heap.size w w' ∧ ∀ x, A9 = some x → w.heap.size ≤ x.block := by
 have HK := Lib.hid hk
 clear hk
 obtain ⟨G1, e1, g1⟩ := GtS.new w [.int .u32 pc, .int .u32 r0, .int .u32 r1, .int .u32 r2, .int .u32 r3, .int .u32 r4, .int .u32 r5, .int .u32 r6, .int .u32 r7, .int .u32 b, .int .u32 s] [.slice RA n rc, .int .i64 tk, .slice T k ct, .bool false, .int .u32 cd] (.slice (some ⟨xb, 0, none⟩) 2200 cB) (.slice (some ⟨yb, 0, none⟩) 2200 cU)
 have HY : Hid (evWf (0, r0)) := Lib.hid ⟨by simp, by simp only; unfold U32 at u0; omega⟩
 obtain ⟨G2, e2, g2, _⟩ := g1.setD 3 (.bool true)
 obtain ⟨G3, e3, g3, _⟩ := g2.setD 4 (.int .u32 r0)
 simp only [List.set_cons_succ, List.set_cons_zero] at g2 g3
 obtain ⟨⟨a0, a1, a2, a3, a4, a5, a6, a7, a8, a9, a10⟩, _⟩ := has11 g1.c
 obtain ⟨⟨b0, b1, b2, b3, b4⟩, ⟨h0, h1, h2, h3, h4⟩⟩ := has5 g1.d
 have x4 := g2.d.cell 4; have y4 := g2.d.frozen 4
 obtain ⟨⟨z0, z1, z2, z3, z4, z5, z6, z7, z8, z9, z10⟩, _⟩ := has11 g2.c
 simp only [List.getElem?_cons_succ, List.getElem?_cons_zero] at x4
 have gw := g3
 clear g1 g2 g3
 generalize hGW : G3 = GW at *
 clear hGW
 go_enter Tryz.func32, Tryz.ntmps32
 go_upto_region 18 with fail
 refine rg_log xb yb cB cU w GW (0) (r0) [.int .u32 pc, .int .u32 r0, .int .u32 r1, .int .u32 r2, .int .u32 r3, .int .u32 r4, .int .u32 r5, .int .u32 r6, .int .u32 r7, .int .u32 b, .int .u32 s] rfl (.slice RA n rc) (.int .i64 tk) (.bool true) (.int .u32 r0) T ct k tr HK.out hk1 HY.out gw (rT.below gw.bel) ?_
 intro A9 c9 W9 t103 t104 t105 t106 t107 t108 t109 t110 t111 t112 t113 t114 g9 row9 off9
 clear gw rT
 dsimp only [Exit.then]
 have RW9 := Lib.hid row9
 have OF9 := Lib.hid off9
 obtain ⟨⟨c0, c1, c2, c3, c4, c5, c6, c7, c8, c9', c10⟩, _⟩ := has11 g9.c
 obtain ⟨⟨d0, d1, d2, d3, d4⟩, _⟩ := has5 g9.d
 obtain ⟨⟨m0, m1, m2, m3, m4, m5, m6, m7, m8, m9, m10⟩, ⟨f0, f1, f2, f3, f4, f5, f6, f7, f8, f9, f10⟩⟩ := has11 g9.rc
 obtain ⟨⟨n0, n1, n2, n3, n4⟩, ⟨q0, q1, q2, q3, q4⟩⟩ := has5 g9.rd
 have GB := Lib.hid g9.bel
 clear g9 row9 off9
 go_wp2_with fail
 go_region
 all_goals go_wp2_with fail
 all_goals refine bodyPost_ret (v := .tuple #[.agg #[.int .u32 pc, .int .u32 r0, .int .u32 r1, .int .u32 r2, .int .u32 r3, .int .u32 r4, .int .u32 r5, .int .u32 r6, .int .u32 r7, .int .u32 b, .int .u32 s], .agg #[.slice RA n rc, .int .i64 tk, .slice A9 (k + 1) c9, .bool true, .int .u32 r0]]) (by simp [results, Tryz.results32, go_sem, m0, m1, m2, m3, m4, m5, m6, m7, m8, m9, m10, n0, n1, n2, n3, n4]) rfl ?_
 all_goals obtain ⟨x1, x2⟩ := rst16 GB.out (.int .u32 pc) (.int .u32 r0) (.int .u32 r1) (.int .u32 r2) (.int .u32 r3) (.int .u32 r4) (.int .u32 r5) (.int .u32 r6) (.int .u32 r7) (.int .u32 b) (.int .u32 s) (.slice RA n rc) (.int .i64 tk) (.slice A9 (k + 1) c9) (.bool true) (.int .u32 r0)
 all_goals exact ⟨A9, c9, rfl, RW9.out.chg x1 (fun x hx => by have := OF9.out x hx; omega) (fun x hx => by have := OF9.out x hx; omega), x2, fun x hx => by have := OF9.out x hx; omega⟩
set_option maxRecDepth 100000 in
set_option maxHeartbeats 8000000 in
theorem rgate_1 (xb yb cB cU : Nat) (pc r0 r1 r2 r3 r4 r5 r6 r7 b s : Int) (RA : Option Addr) (rc n : Nat) (tk cd : Int) (T : Option Addr) (ct k : Nat) (tr : List Ev) (hk : tr.length = k) (hk1 : k ≤ 100000) (w : World) (rT : EvRow w T ct tr) (u0 : U32 r0) :
  Calls Tryz.prog 32 #[.agg #[.int .u32 pc, .int .u32 r0, .int .u32 r1, .int .u32 r2, .int .u32 r3, .int .u32 r4, .int .u32 r5, .int .u32 r6, .int .u32 r7, .int .u32 b, .int .u32 s], .agg #[.slice (some ⟨xb, 0, none⟩) 2200 cB, .slice (some ⟨yb, 0, none⟩) 2200 cU], .agg #[.slice RA n rc, .int .i64 tk, .slice T k ct, .bool false, .int .u32 cd], .int .i64 1] w fun e w' => ∃ A9 c9, e = .returned (.tuple #[.agg #[.int .u32 pc, .int .u32 r0, .int .u32 r1, .int .u32 r2, .int .u32 r3, .int .u32 r4, .int .u32 r5, .int .u32 r6, .int .u32 r7, .int .u32 b, .int .u32 s], .agg #[.slice RA n rc, .int .i64 tk, .slice A9 (k + 1) c9, .bool false, .int .u32 cd]]) ∧ EvRow w' A9 c9 (tr ++ [(1, r0)]) ∧ Below w.heap.size w w' ∧ ∀ x, A9 = some x → w.heap.size ≤ x.block := by
 have HK := Lib.hid hk
 clear hk
 obtain ⟨G1, e1, g1⟩ := GtS.new w [.int .u32 pc, .int .u32 r0, .int .u32 r1, .int .u32 r2, .int .u32 r3, .int .u32 r4, .int .u32 r5, .int .u32 r6, .int .u32 r7, .int .u32 b, .int .u32 s] [.slice RA n rc, .int .i64 tk, .slice T k ct, .bool false, .int .u32 cd] (.slice (some ⟨xb, 0, none⟩) 2200 cB) (.slice (some ⟨yb, 0, none⟩) 2200 cU)
 have HY : Hid (evWf (1, r0)) := Lib.hid ⟨by simp, by simp only; unfold U32 at u0; omega⟩
 obtain ⟨⟨a0, a1, a2, a3, a4, a5, a6, a7, a8, a9, a10⟩, _⟩ := has11 g1.c
 obtain ⟨⟨b0, b1, b2, b3, b4⟩, ⟨h0, h1, h2, h3, h4⟩⟩ := has5 g1.d
 have gw := g1
 clear g1
 generalize hGW : G1 = GW at *
 clear hGW
 go_enter Tryz.func32, Tryz.ntmps32
 go_upto_region 18 with fail
 refine rg_log xb yb cB cU w GW (1) (r0) [.int .u32 pc, .int .u32 r0, .int .u32 r1, .int .u32 r2, .int .u32 r3, .int .u32 r4, .int .u32 r5, .int .u32 r6, .int .u32 r7, .int .u32 b, .int .u32 s] rfl (.slice RA n rc) (.int .i64 tk) (.bool false) (.int .u32 cd) T ct k tr HK.out hk1 HY.out gw (rT.below gw.bel) ?_
 intro A9 c9 W9 t103 t104 t105 t106 t107 t108 t109 t110 t111 t112 t113 t114 g9 row9 off9
 clear gw rT
 dsimp only [Exit.then]
 have RW9 := Lib.hid row9
 have OF9 := Lib.hid off9
 obtain ⟨⟨c0, c1, c2, c3, c4, c5, c6, c7, c8, c9', c10⟩, _⟩ := has11 g9.c
 obtain ⟨⟨d0, d1, d2, d3, d4⟩, _⟩ := has5 g9.d
 obtain ⟨⟨m0, m1, m2, m3, m4, m5, m6, m7, m8, m9, m10⟩, ⟨f0, f1, f2, f3, f4, f5, f6, f7, f8, f9, f10⟩⟩ := has11 g9.rc
 obtain ⟨⟨n0, n1, n2, n3, n4⟩, ⟨q0, q1, q2, q3, q4⟩⟩ := has5 g9.rd
 have GB := Lib.hid g9.bel
 clear g9 row9 off9
 go_wp2_with fail
 go_region
 all_goals go_wp2_with fail
 all_goals refine bodyPost_ret (v := .tuple #[.agg #[.int .u32 pc, .int .u32 r0, .int .u32 r1, .int .u32 r2, .int .u32 r3, .int .u32 r4, .int .u32 r5, .int .u32 r6, .int .u32 r7, .int .u32 b, .int .u32 s], .agg #[.slice RA n rc, .int .i64 tk, .slice A9 (k + 1) c9, .bool false, .int .u32 cd]]) (by simp [results, Tryz.results32, go_sem, m0, m1, m2, m3, m4, m5, m6, m7, m8, m9, m10, n0, n1, n2, n3, n4]) rfl ?_
 all_goals obtain ⟨x1, x2⟩ := rst16 GB.out (.int .u32 pc) (.int .u32 r0) (.int .u32 r1) (.int .u32 r2) (.int .u32 r3) (.int .u32 r4) (.int .u32 r5) (.int .u32 r6) (.int .u32 r7) (.int .u32 b) (.int .u32 s) (.slice RA n rc) (.int .i64 tk) (.slice A9 (k + 1) c9) (.bool false) (.int .u32 cd)
 all_goals exact ⟨A9, c9, rfl, RW9.out.chg x1 (fun x hx => by have := OF9.out x hx; omega) (fun x hx => by have := OF9.out x hx; omega), x2, fun x hx => by have := OF9.out x hx; omega⟩
set_option maxRecDepth 100000 in
set_option maxHeartbeats 8000000 in
theorem rgate_2a (xb yb cB cU : Nat) (pc r0 r1 r2 r3 r4 r5 r6 r7 b s : Int) (RA : Option Addr) (rc n : Nat) (tk cd : Int) (T : Option Addr) (ct k : Nat) (tr : List Ev) (hk : tr.length = k) (hk1 : k ≤ 100000) (w : World) (rT : EvRow w T ct tr) (t : Nat) (ht : t < n) (hn : n ≤ 100000) (v : Int) (uv : U32 v) (p : Addr) (hpb : p.block < w.heap.size) (hp : w.cell? (p.add t) = some (.int .u32 v)) :
  Calls Tryz.prog 32 #[.agg #[.int .u32 pc, .int .u32 r0, .int .u32 r1, .int .u32 r2, .int .u32 r3, .int .u32 r4, .int .u32 r5, .int .u32 r6, .int .u32 r7, .int .u32 b, .int .u32 s], .agg #[.slice (some ⟨xb, 0, none⟩) 2200 cB, .slice (some ⟨yb, 0, none⟩) 2200 cU], .agg #[.slice (some p) n rc, .int .i64 (t : Nat), .slice T k ct, .bool false, .int .u32 cd], .int .i64 2] w fun e w' => ∃ A9 c9, e = .returned (.tuple #[.agg #[.int .u32 pc, .int .u32 v, .int .u32 r1, .int .u32 r2, .int .u32 r3, .int .u32 r4, .int .u32 r5, .int .u32 r6, .int .u32 r7, .int .u32 b, .int .u32 s], .agg #[.slice (some p) n rc, .int .i64 ((t : Int) + 1), .slice A9 (k + 1) c9, .bool false, .int .u32 cd]]) ∧ EvRow w' A9 c9 (tr ++ [(2, v)]) ∧ Below w.heap.size w w' ∧ ∀ x, A9 = some x → w.heap.size ≤ x.block := by
 have HK := Lib.hid hk
 clear hk
 obtain ⟨G1, e1, g1⟩ := GtS.new w [.int .u32 pc, .int .u32 r0, .int .u32 r1, .int .u32 r2, .int .u32 r3, .int .u32 r4, .int .u32 r5, .int .u32 r6, .int .u32 r7, .int .u32 b, .int .u32 s] [.slice (some p) n rc, .int .i64 (t : Nat), .slice T k ct, .bool false, .int .u32 cd] (.slice (some ⟨xb, 0, none⟩) 2200 cB) (.slice (some ⟨yb, 0, none⟩) 2200 cU)
 have u0 := uv
 have HY : Hid (evWf (2, v)) := Lib.hid ⟨by simp, by simp only; unfold U32 at u0; omega⟩
 have cx := fun W (b' : Below w.heap.size w W) => (b'.cell (p := p.add t) (by rw [block_add]; exact hpb)).trans hp
 obtain ⟨G2, e2, g2, _⟩ := g1.setC 1 (.int .u32 0)
 obtain ⟨G3, e3, g3, _⟩ := g2.setC 1 (.int .u32 v)
 obtain ⟨G4, e4, g4, _⟩ := g3.setD 1 (.int .i64 ((t : Int) + 1))
 simp only [List.set_cons_succ, List.set_cons_zero] at g2 g3 g4
 obtain ⟨⟨a0, a1, a2, a3, a4, a5, a6, a7, a8, a9, a10⟩, _⟩ := has11 g1.c
 obtain ⟨⟨b0, b1, b2, b3, b4⟩, ⟨h0, h1, h2, h3, h4⟩⟩ := has5 g1.d
 have cx2 := cx G2 g2.bel
 have f1 := g1.c.frozen 1
 obtain ⟨⟨x0, x1, x2, x3, x4⟩, _⟩ := has5 g2.d
 have f2 := g2.c.frozen 1
 have y1 := g3.d.cell 1; have f3 := g3.d.frozen 1
 have z1 := g2.c.cell 1
 simp only [List.getElem?_cons_succ, List.getElem?_cons_zero] at y1 z1
 have tn : decide (t < n) = true := decide_eq_true ht
 have tI : (t : Int) < (n : Int) := by omega
 have nI : (n : Int) ≤ 100000 := by omega
 have t0 : (0 : Int) ≤ (t : Int) := by omega
 have wt : IntKind.i64.wrap ((t : Int) + 1) = (t : Int) + 1 := IntWalk.i64_in _ (by omega)
 have gw := g4
 clear g1 g2 g3 g4 cx hp hpb
 generalize hGW : G4 = GW at *
 clear hGW
 go_enter Tryz.func32, Tryz.ntmps32
 go_upto_region 18 with fail
 refine rg_log xb yb cB cU w GW (2) (v) [.int .u32 pc, .int .u32 v, .int .u32 r1, .int .u32 r2, .int .u32 r3, .int .u32 r4, .int .u32 r5, .int .u32 r6, .int .u32 r7, .int .u32 b, .int .u32 s] rfl (.slice (some p) n rc) (.int .i64 ((t : Int) + 1)) (.bool false) (.int .u32 cd) T ct k tr HK.out hk1 HY.out gw (rT.below gw.bel) ?_
 intro A9 c9 W9 t103 t104 t105 t106 t107 t108 t109 t110 t111 t112 t113 t114 g9 row9 off9
 clear gw rT
 dsimp only [Exit.then]
 have RW9 := Lib.hid row9
 have OF9 := Lib.hid off9
 obtain ⟨⟨c0, c1, c2, c3, c4, c5, c6, c7, c8, c9', c10⟩, _⟩ := has11 g9.c
 obtain ⟨⟨d0, d1, d2, d3, d4⟩, _⟩ := has5 g9.d
 obtain ⟨⟨m0, m1, m2, m3, m4, m5, m6, m7, m8, m9, m10⟩, ⟨f0, f1, f2, f3, f4, f5, f6, f7, f8, f9, f10⟩⟩ := has11 g9.rc
 obtain ⟨⟨n0, n1, n2, n3, n4⟩, ⟨q0, q1, q2, q3, q4⟩⟩ := has5 g9.rd
 have GB := Lib.hid g9.bel
 clear g9 row9 off9
 go_wp2_with fail
 go_region
 all_goals go_wp2_with fail
 all_goals refine bodyPost_ret (v := .tuple #[.agg #[.int .u32 pc, .int .u32 v, .int .u32 r1, .int .u32 r2, .int .u32 r3, .int .u32 r4, .int .u32 r5, .int .u32 r6, .int .u32 r7, .int .u32 b, .int .u32 s], .agg #[.slice (some p) n rc, .int .i64 ((t : Int) + 1), .slice A9 (k + 1) c9, .bool false, .int .u32 cd]]) (by simp [results, Tryz.results32, go_sem, m0, m1, m2, m3, m4, m5, m6, m7, m8, m9, m10, n0, n1, n2, n3, n4]) rfl ?_
 all_goals obtain ⟨x1, x2⟩ := rst16 GB.out (.int .u32 pc) (.int .u32 v) (.int .u32 r1) (.int .u32 r2) (.int .u32 r3) (.int .u32 r4) (.int .u32 r5) (.int .u32 r6) (.int .u32 r7) (.int .u32 b) (.int .u32 s) (.slice (some p) n rc) (.int .i64 ((t : Int) + 1)) (.slice A9 (k + 1) c9) (.bool false) (.int .u32 cd)
 all_goals exact ⟨A9, c9, rfl, RW9.out.chg x1 (fun x hx => by have := OF9.out x hx; omega) (fun x hx => by have := OF9.out x hx; omega), x2, fun x hx => by have := OF9.out x hx; omega⟩
set_option maxRecDepth 100000 in
set_option maxHeartbeats 8000000 in
theorem rgate_2b (xb yb cB cU : Nat) (pc r0 r1 r2 r3 r4 r5 r6 r7 b s : Int) (RA : Option Addr) (rc n : Nat) (tk cd : Int) (T : Option Addr) (ct k : Nat) (tr : List Ev) (hk : tr.length = k) (hk1 : k ≤ 100000) (w : World) (rT : EvRow w T ct tr) (t : Nat) (ht : n ≤ t) (hn : n ≤ 100000) :
  Calls Tryz.prog 32 #[.agg #[.int .u32 pc, .int .u32 r0, .int .u32 r1, .int .u32 r2, .int .u32 r3, .int .u32 r4, .int .u32 r5, .int .u32 r6, .int .u32 r7, .int .u32 b, .int .u32 s], .agg #[.slice (some ⟨xb, 0, none⟩) 2200 cB, .slice (some ⟨yb, 0, none⟩) 2200 cU], .agg #[.slice RA n rc, .int .i64 (t : Nat), .slice T k ct, .bool false, .int .u32 cd], .int .i64 2] w fun e w' => ∃ A9 c9, e = .returned (.tuple #[.agg #[.int .u32 pc, .int .u32 0, .int .u32 r1, .int .u32 r2, .int .u32 r3, .int .u32 r4, .int .u32 r5, .int .u32 r6, .int .u32 r7, .int .u32 b, .int .u32 s], .agg #[.slice RA n rc, .int .i64 (t : Nat), .slice A9 (k + 1) c9, .bool false, .int .u32 cd]]) ∧ EvRow w' A9 c9 (tr ++ [(2, 0)]) ∧ Below w.heap.size w w' ∧ ∀ x, A9 = some x → w.heap.size ≤ x.block := by
 have HK := Lib.hid hk
 clear hk
 obtain ⟨G1, e1, g1⟩ := GtS.new w [.int .u32 pc, .int .u32 r0, .int .u32 r1, .int .u32 r2, .int .u32 r3, .int .u32 r4, .int .u32 r5, .int .u32 r6, .int .u32 r7, .int .u32 b, .int .u32 s] [.slice RA n rc, .int .i64 (t : Nat), .slice T k ct, .bool false, .int .u32 cd] (.slice (some ⟨xb, 0, none⟩) 2200 cB) (.slice (some ⟨yb, 0, none⟩) 2200 cU)
 have u0 := u32_0
 have HY : Hid (evWf (2, 0)) := Lib.hid ⟨by simp, by simp only; unfold U32 at u0; omega⟩
 obtain ⟨G2, e2, g2, _⟩ := g1.setC 1 (.int .u32 0)
 simp only [List.set_cons_succ, List.set_cons_zero] at g2
 obtain ⟨⟨a0, a1, a2, a3, a4, a5, a6, a7, a8, a9, a10⟩, _⟩ := has11 g1.c
 obtain ⟨⟨b0, b1, b2, b3, b4⟩, ⟨h0, h1, h2, h3, h4⟩⟩ := has5 g1.d
 have f1 := g1.c.frozen 1
 obtain ⟨⟨x0, x1, x2, x3, x4⟩, _⟩ := has5 g2.d
 have tn : decide (t < n) = false := decide_eq_false (by omega)
 clear ht
 have t0 : (0 : Int) ≤ (t : Int) := by omega
 have gw := g2
 clear g1 g2
 generalize hGW : G2 = GW at *
 clear hGW
 go_enter Tryz.func32, Tryz.ntmps32
 go_upto_region 18 with fail
 refine rg_log xb yb cB cU w GW (2) (0) [.int .u32 pc, .int .u32 0, .int .u32 r1, .int .u32 r2, .int .u32 r3, .int .u32 r4, .int .u32 r5, .int .u32 r6, .int .u32 r7, .int .u32 b, .int .u32 s] rfl (.slice RA n rc) (.int .i64 (t : Nat)) (.bool false) (.int .u32 cd) T ct k tr HK.out hk1 HY.out gw (rT.below gw.bel) ?_
 intro A9 c9 W9 t103 t104 t105 t106 t107 t108 t109 t110 t111 t112 t113 t114 g9 row9 off9
 clear gw rT
 dsimp only [Exit.then]
 have RW9 := Lib.hid row9
 have OF9 := Lib.hid off9
 obtain ⟨⟨c0, c1, c2, c3, c4, c5, c6, c7, c8, c9', c10⟩, _⟩ := has11 g9.c
 obtain ⟨⟨d0, d1, d2, d3, d4⟩, _⟩ := has5 g9.d
 obtain ⟨⟨m0, m1, m2, m3, m4, m5, m6, m7, m8, m9, m10⟩, ⟨f0, f1, f2, f3, f4, f5, f6, f7, f8, f9, f10⟩⟩ := has11 g9.rc
 obtain ⟨⟨n0, n1, n2, n3, n4⟩, ⟨q0, q1, q2, q3, q4⟩⟩ := has5 g9.rd
 have GB := Lib.hid g9.bel
 clear g9 row9 off9
 go_wp2_with fail
 go_region
 all_goals go_wp2_with fail
 all_goals refine bodyPost_ret (v := .tuple #[.agg #[.int .u32 pc, .int .u32 0, .int .u32 r1, .int .u32 r2, .int .u32 r3, .int .u32 r4, .int .u32 r5, .int .u32 r6, .int .u32 r7, .int .u32 b, .int .u32 s], .agg #[.slice RA n rc, .int .i64 (t : Nat), .slice A9 (k + 1) c9, .bool false, .int .u32 cd]]) (by simp [results, Tryz.results32, go_sem, m0, m1, m2, m3, m4, m5, m6, m7, m8, m9, m10, n0, n1, n2, n3, n4]) rfl ?_
 all_goals obtain ⟨x1, x2⟩ := rst16 GB.out (.int .u32 pc) (.int .u32 0) (.int .u32 r1) (.int .u32 r2) (.int .u32 r3) (.int .u32 r4) (.int .u32 r5) (.int .u32 r6) (.int .u32 r7) (.int .u32 b) (.int .u32 s) (.slice RA n rc) (.int .i64 (t : Nat)) (.slice A9 (k + 1) c9) (.bool false) (.int .u32 cd)
 all_goals exact ⟨A9, c9, rfl, RW9.out.chg x1 (fun x hx => by have := OF9.out x hx; omega) (fun x hx => by have := OF9.out x hx; omega), x2, fun x hx => by have := OF9.out x hx; omega⟩
theorem rOwns_any (pc r0 r1 r2 r3 r4 r5 r6 r7 b s at_ n : Int) (hb : U32 b) (hs : U32 s) (ha : U32 at_) (hn : U32 n) (w : World) :
    Calls Tryz.prog 53 #[.agg #[.int .u32 pc, .int .u32 r0, .int .u32 r1, .int .u32 r2, .int .u32 r3, .int .u32 r4, .int .u32 r5, .int .u32 r6, .int .u32 r7, .int .u32 b, .int .u32 s], .int .u32 at_, .int .u32 n] w fun e w' => e = .returned (.bool (ownsB b s at_ n)) ∧ Below w.heap.size w w' := by
  unfold U32 at hb hs ha hn
  obtain ⟨b0, b1⟩ := hb
  obtain ⟨s0, s1⟩ := hs
  obtain ⟨a0, a1⟩ := ha
  obtain ⟨n0, n1⟩ := hn
  have hh : 0 ≤ s / 2 ∧ s / 2 < 4294967296 := by omega
  obtain ⟨h0, h1⟩ := hh
  have et : s.tdiv 2 = s / 2 := Int.tdiv_eq_ediv_of_nonneg s0
  have HD := Lib.hid (show ownsB b s at_ n = (decide (b + s / 2 ≤ at_) && decide (at_ + n ≤ b + s / 2 + s / 2)) from rfl)
  by_cases k1 : b + s / 2 ≤ at_
  · by_cases k2 : at_ + n ≤ b + s / 2 + s / 2
    · have hq : ownsB b s at_ n = true := by rw [HD.out]; simp [k1, k2]
      rw [hq]
      clear HD hq
      generalize s / 2 = h at *
      go_enter Tryz.func53, Tryz.ntmps53
      go_wp2_with fail
      go_ret
      exact ⟨rfl, bel_al (Below.refl _ _) _⟩
    · have hq : ownsB b s at_ n = false := by rw [HD.out]; simp [k1, k2]
      rw [hq]
      clear HD hq
      generalize s / 2 = h at *
      go_enter Tryz.func53, Tryz.ntmps53
      go_wp2_with fail
      go_ret
      exact ⟨rfl, bel_al (Below.refl _ _) _⟩
  · have hq : ownsB b s at_ n = false := by rw [HD.out]; simp [k1]
    rw [hq]
    clear HD hq
    generalize s / 2 = h at *
    go_enter Tryz.func53, Tryz.ntmps53
    go_wp2_with fail
    go_ret
    exact ⟨rfl, bel_al (Below.refl _ _) _⟩
set_option maxRecDepth 100000 in
set_option maxHeartbeats 8000000 in
theorem rgate_3a (xb yb cB cU : Nat) (pc r0 r1 r2 r3 r4 r5 r6 r7 b s : Int) (RA : Option Addr) (rc n : Nat) (tk cd : Int) (T : Option Addr) (ct k : Nat) (tr : List Ev) (hk : tr.length = k) (hk1 : k ≤ 100000) (w : World) (rT : EvRow w T ct tr) (u0 : U32 r0) (u1 : U32 r1) (ub : U32 b) (us : U32 s) (ow : ownsB b s r0 r1 = false) :
  Calls Tryz.prog 32 #[.agg #[.int .u32 pc, .int .u32 r0, .int .u32 r1, .int .u32 r2, .int .u32 r3, .int .u32 r4, .int .u32 r5, .int .u32 r6, .int .u32 r7, .int .u32 b, .int .u32 s], .agg #[.slice (some ⟨xb, 0, none⟩) 2200 cB, .slice (some ⟨yb, 0, none⟩) 2200 cU], .agg #[.slice RA n rc, .int .i64 tk, .slice T k ct, .bool false, .int .u32 cd], .int .i64 3] w fun e w' => ∃ A9 c9, e = .returned (.tuple #[.agg #[.int .u32 pc, .int .u32 4294967295, .int .u32 r1, .int .u32 r2, .int .u32 r3, .int .u32 r4, .int .u32 r5, .int .u32 r6, .int .u32 r7, .int .u32 b, .int .u32 s], .agg #[.slice RA n rc, .int .i64 tk, .slice A9 (k + 1) c9, .bool false, .int .u32 cd]]) ∧ EvRow w' A9 c9 (tr ++ [(3, 4294967295)]) ∧ Below w.heap.size w w' ∧ ∀ x, A9 = some x → w.heap.size ≤ x.block := by
 have HK := Lib.hid hk
 clear hk
 obtain ⟨G1, e1, g1⟩ := GtS.new w [.int .u32 pc, .int .u32 r0, .int .u32 r1, .int .u32 r2, .int .u32 r3, .int .u32 r4, .int .u32 r5, .int .u32 r6, .int .u32 r7, .int .u32 b, .int .u32 s] [.slice RA n rc, .int .i64 tk, .slice T k ct, .bool false, .int .u32 cd] (.slice (some ⟨xb, 0, none⟩) 2200 cB) (.slice (some ⟨yb, 0, none⟩) 2200 cU)
 have uF : U32 4294967295 := by unfold U32; omega
 have HY : Hid (evWf (3, 4294967295)) := Lib.hid ⟨by simp, by simp only; omega⟩
 obtain ⟨⟨a0, a1, a2, a3, a4, a5, a6, a7, a8, a9, a10⟩, _⟩ := has11 g1.c
 obtain ⟨⟨b0, b1, b2, b3, b4⟩, ⟨h0, h1, h2, h3, h4⟩⟩ := has5 g1.d
 have OW := Lib.hid (fun w => rOwns_any pc 4294967295 r1 r2 r3 r4 r5 r6 r7 b s r0 r1 ub us u0 u1 w)
 rw [ow] at OW
 clear ow
 obtain ⟨⟨aa0, aa1⟩, _⟩ := has2 g1.m
 have G1H := Lib.hid g1
 clear g1
 go_enter Tryz.func32, Tryz.ntmps32
 go_wp2_with fail
 go_quiet (fail)
 obtain ⟨G2, e2⟩ : ∃ G2, G1.drewN nq = G2 := ⟨_, rfl⟩
 have g2 := G1H.out.below (show Below G1.heap.size G1 G2 by rw [← e2]; exact below_drewN (Below.refl _ _) _)
 rw [e2]
 clear a0 a1 a2 a3 a4 a5 a6 a7 a8 a9 a10 b0 b1 b2 b3 b4 h0 h1 h2 h3 h4 aa0 aa1 e2 e1
 obtain ⟨G3, e3, g3, _⟩ := g2.setC 1 (.int .u32 4294967295)
 simp only [List.set_cons_succ, List.set_cons_zero] at g3
 have y0 := g2.c.cell 1; have f0 := g2.c.frozen 1
 simp only [List.getElem?_cons_succ, List.getElem?_cons_zero] at y0
 obtain ⟨⟨a0, a1, a2, a3, a4, a5, a6, a7, a8, a9, a10⟩, _⟩ := has11 g3.c
 obtain ⟨⟨b0, b1, b2, b3, b4⟩, ⟨h0, h1, h2, h3, h4⟩⟩ := has5 g3.d
 have G3H := Lib.hid g3
 clear g2 g3
 go_wp2_with fail
 refine (OW.out _).mono ?_; rintro e w4 ⟨rfl, hb4⟩
 have gw := G3H.out.below hb4
 clear a0 a1 a2 a3 a4 a5 a6 a7 a8 a9 a10 b0 b1 b2 b3 b4 h0 h1 h2 h3 h4 y0 f0 e3 hb4
 obtain ⟨⟨a0, a1, a2, a3, a4, a5, a6, a7, a8, a9, a10⟩, _⟩ := has11 gw.c
 obtain ⟨⟨b0, b1, b2, b3, b4⟩, ⟨h0, h1, h2, h3, h4⟩⟩ := has5 gw.d
 generalize hGW : w4 = GW at *
 clear hGW
 go_upto_region 18 with fail
 refine rg_log xb yb cB cU w GW (3) (4294967295) [.int .u32 pc, .int .u32 4294967295, .int .u32 r1, .int .u32 r2, .int .u32 r3, .int .u32 r4, .int .u32 r5, .int .u32 r6, .int .u32 r7, .int .u32 b, .int .u32 s] rfl (.slice RA n rc) (.int .i64 tk) (.bool false) (.int .u32 cd) T ct k tr HK.out hk1 HY.out gw (rT.below gw.bel) ?_
 intro A9 c9 W9 t103 t104 t105 t106 t107 t108 t109 t110 t111 t112 t113 t114 g9 row9 off9
 clear gw rT
 dsimp only [Exit.then]
 have RW9 := Lib.hid row9
 have OF9 := Lib.hid off9
 obtain ⟨⟨c0, c1, c2, c3, c4, c5, c6, c7, c8, c9', c10⟩, _⟩ := has11 g9.c
 obtain ⟨⟨d0, d1, d2, d3, d4⟩, _⟩ := has5 g9.d
 obtain ⟨⟨m0, m1, m2, m3, m4, m5, m6, m7, m8, m9, m10⟩, ⟨f0, f1, f2, f3, f4, f5, f6, f7, f8, f9, f10⟩⟩ := has11 g9.rc
 obtain ⟨⟨n0, n1, n2, n3, n4⟩, ⟨q0, q1, q2, q3, q4⟩⟩ := has5 g9.rd
 have GB := Lib.hid g9.bel
 clear g9 row9 off9
 go_wp2_with fail
 go_region
 all_goals go_wp2_with fail
 all_goals refine bodyPost_ret (v := .tuple #[.agg #[.int .u32 pc, .int .u32 4294967295, .int .u32 r1, .int .u32 r2, .int .u32 r3, .int .u32 r4, .int .u32 r5, .int .u32 r6, .int .u32 r7, .int .u32 b, .int .u32 s], .agg #[.slice RA n rc, .int .i64 tk, .slice A9 (k + 1) c9, .bool false, .int .u32 cd]]) (by simp [results, Tryz.results32, go_sem, m0, m1, m2, m3, m4, m5, m6, m7, m8, m9, m10, n0, n1, n2, n3, n4]) rfl ?_
 all_goals obtain ⟨x1, x2⟩ := rst16 GB.out (.int .u32 pc) (.int .u32 4294967295) (.int .u32 r1) (.int .u32 r2) (.int .u32 r3) (.int .u32 r4) (.int .u32 r5) (.int .u32 r6) (.int .u32 r7) (.int .u32 b) (.int .u32 s) (.slice RA n rc) (.int .i64 tk) (.slice A9 (k + 1) c9) (.bool false) (.int .u32 cd)
 all_goals exact ⟨A9, c9, rfl, RW9.out.chg x1 (fun x hx => by have := OF9.out x hx; omega) (fun x hx => by have := OF9.out x hx; omega), x2, fun x hx => by have := OF9.out x hx; omega⟩
set_option maxRecDepth 100000 in
set_option maxHeartbeats 8000000 in
theorem rgate_3b (xb yb cB cU : Nat) (pc r0 r1 r2 r3 r4 r5 r6 r7 b s : Int) (RA : Option Addr) (rc n : Nat) (tk cd : Int) (T : Option Addr) (ct k : Nat) (tr : List Ev) (hk : tr.length = k) (hk1 : k ≤ 100000) (w : World) (rT : EvRow w T ct tr) (at_ m : Nat) (ha1 : 1536 ≤ at_) (ha2 : at_ + m ≤ 2048) (B : List Int) (hB : B.length = 2200) (rB : RowAt w (some ⟨xb, 0, none⟩) cB B) (rU : BlAt w (some ⟨yb, 0, none⟩) cU U22) (sm : Int) (usm : U32 sm) (hsm : fnvL 2166136261 ((B.drop at_).take m) = sm) :
  Calls Tryz.prog 32 #[.agg #[.int .u32 pc, .int .u32 (at_ : Int), .int .u32 (m : Int), .int .u32 r2, .int .u32 r3, .int .u32 r4, .int .u32 r5, .int .u32 r6, .int .u32 r7, .int .u32 1024, .int .u32 1024], .agg #[.slice (some ⟨xb, 0, none⟩) 2200 cB, .slice (some ⟨yb, 0, none⟩) 2200 cU], .agg #[.slice RA n rc, .int .i64 tk, .slice T k ct, .bool false, .int .u32 cd], .int .i64 3] w fun e w' => ∃ A9 c9, e = .returned (.tuple #[.agg #[.int .u32 pc, .int .u32 sm, .int .u32 (m : Int), .int .u32 r2, .int .u32 r3, .int .u32 r4, .int .u32 r5, .int .u32 r6, .int .u32 r7, .int .u32 1024, .int .u32 1024], .agg #[.slice RA n rc, .int .i64 tk, .slice A9 (k + 1) c9, .bool false, .int .u32 cd]]) ∧ EvRow w' A9 c9 (tr ++ [(3, sm)]) ∧ Below w.heap.size w w' ∧ ∀ x, A9 = some x → w.heap.size ≤ x.block := by
 have HK := Lib.hid hk
 clear hk
 obtain ⟨G1, e1, g1⟩ := GtS.new w [.int .u32 pc, .int .u32 (at_ : Int), .int .u32 (m : Int), .int .u32 r2, .int .u32 r3, .int .u32 r4, .int .u32 r5, .int .u32 r6, .int .u32 r7, .int .u32 1024, .int .u32 1024] [.slice RA n rc, .int .i64 tk, .slice T k ct, .bool false, .int .u32 cd] (.slice (some ⟨xb, 0, none⟩) 2200 cB) (.slice (some ⟨yb, 0, none⟩) 2200 cU)
 have uF : U32 4294967295 := by unfold U32; omega
 have u0 : U32 (at_ : Int) := by unfold U32; omega
 have u1 : U32 (m : Int) := by unfold U32; omega
 have ub : U32 1024 := by unfold U32; omega
 have us : U32 1024 := by unfold U32; omega
 have HY : Hid (evWf (3, sm)) := Lib.hid ⟨by simp, by unfold U32 at usm; simp only; omega⟩
 have ow : ownsB 1024 1024 (at_ : Int) (m : Int) = true := by unfold ownsB; simp; omega
 obtain ⟨⟨a0, a1, a2, a3, a4, a5, a6, a7, a8, a9, a10⟩, _⟩ := has11 g1.c
 obtain ⟨⟨b0, b1, b2, b3, b4⟩, ⟨h0, h1, h2, h3, h4⟩⟩ := has5 g1.d
 have OW := Lib.hid (fun w => rOwns_any pc 4294967295 (m : Int) r2 r3 r4 r5 r6 r7 1024 1024 (at_ : Int) (m : Int) ub us u0 u1 w)
 rw [ow] at OW
 clear ow
 obtain ⟨⟨aa0, aa1⟩, _⟩ := has2 g1.m
 have AL := Lib.hid (fun W (r : BlAt W (some ⟨yb, 0, none⟩) cU U22) => rAll_any ⟨xb, 0, none⟩ ⟨yb, 0, none⟩ 2200 at_ m cB cU U22 U22_len (by decide) (by omega) (by omega) W r)
 have ha : allB U22 at_ m = true := (allB_iff _ _ _).2 (fun i hi => by rw [U22_all, decide_eq_true_iff]; omega)
 rw [ha] at AL
 clear ha
 have MO := Lib.hid (fun W (r : RowAt W (some ⟨xb, 0, none⟩) cB B) => rmore_any 2166136261 (by decide) (by decide) (some ⟨xb, at_, none⟩) (cB - at_) ((B.drop at_).take m) W (by
  have h := row_take (row_drop r at_) m
  have e : (⟨xb, 0, none⟩ : Addr).add at_ = ⟨xb, at_, none⟩ := by rw [addr_add, Nat.zero_add]
  rw [e] at h; exact h))
 rw [List.length_take, List.length_drop, hB, show min m (2200 - at_) = m by omega, hsm] at MO
 have RB := Lib.hid rB
 have RU := Lib.hid rU
 have hcB : 2200 ≤ cB := by rw [← hB]; exact rB.1
 clear rB rU hsm
 have G1H := Lib.hid g1
 clear g1
 go_enter Tryz.func32, Tryz.ntmps32
 go_wp2_with fail
 go_quiet (fail)
 obtain ⟨G2, e2⟩ : ∃ G2, G1.drewN nq = G2 := ⟨_, rfl⟩
 have g2 := G1H.out.below (show Below G1.heap.size G1 G2 by rw [← e2]; exact below_drewN (Below.refl _ _) _)
 rw [e2]
 clear a0 a1 a2 a3 a4 a5 a6 a7 a8 a9 a10 b0 b1 b2 b3 b4 h0 h1 h2 h3 h4 aa0 aa1 e2 e1
 obtain ⟨G3, e3, g3, _⟩ := g2.setC 1 (.int .u32 4294967295)
 simp only [List.set_cons_succ, List.set_cons_zero] at g3
 have y0 := g2.c.cell 1; have f0 := g2.c.frozen 1
 simp only [List.getElem?_cons_succ, List.getElem?_cons_zero] at y0
 obtain ⟨⟨a0, a1, a2, a3, a4, a5, a6, a7, a8, a9, a10⟩, _⟩ := has11 g3.c
 obtain ⟨⟨b0, b1, b2, b3, b4⟩, ⟨h0, h1, h2, h3, h4⟩⟩ := has5 g3.d
 have G3H := Lib.hid g3
 clear g2 g3
 have s1 : wrap64 ((at_ : Int) + (m : Int)) = (at_ : Int) + (m : Int) := by unfold wrap64; omega
 have s2 : IntKind.i64.wrap (at_ : Int) = (at_ : Int) := IntWalk.i64_in _ (by omega)
 have s3 : IntKind.i64.wrap (m : Int) = (m : Int) := IntWalk.i64_in _ (by omega)
 have s4 : IntKind.i64.wrap ((at_ : Int) + (m : Int)) = (at_ : Int) + (m : Int) := IntWalk.i64_in _ (by omega)
 have l2 : (at_ : Int) + (m : Int) ≤ 2200 := by omega
 go_wp2_with fail
 refine (OW.out _).mono ?_; rintro e w4 ⟨rfl, hb4⟩
 have g4 := G3H.out.below hb4
 clear a0 a1 a2 a3 a4 a5 a6 a7 a8 a9 a10 b0 b1 b2 b3 b4 h0 h1 h2 h3 h4 y0 f0 e3 hb4
 obtain ⟨⟨aa0, aa1⟩, _⟩ := has2 g4.m
 have G4H := Lib.hid g4
 clear g4
 go_wp2_with fail
 refine (AL.out _ (RU.out.below G4H.out.bel)).mono ?_; rintro e w5 ⟨rfl, hb5⟩
 have g5 := G4H.out.below hb5
 clear aa0 aa1 hb5
 obtain ⟨⟨aa0, aa1⟩, _⟩ := has2 g5.m
 obtain ⟨G6, e6, g6, _⟩ := g5.setC 1 (.int .u32 sm)
 simp only [List.set_cons_succ, List.set_cons_zero] at g6
 have y0 := g5.c.cell 1; have f0 := g5.c.frozen 1
 simp only [List.getElem?_cons_succ, List.getElem?_cons_zero] at y0
 have MO5 := Lib.hid (MO.out w5 (RB.out.below g5.bel))
 clear g5
 have gw := g6
 clear g6
 obtain ⟨⟨a0, a1, a2, a3, a4, a5, a6, a7, a8, a9, a10⟩, _⟩ := has11 gw.c
 obtain ⟨⟨b0, b1, b2, b3, b4⟩, ⟨h0, h1, h2, h3, h4⟩⟩ := has5 gw.d
 go_wp2_with fail
 refine MO5.out.mono ?_; rintro e w' ⟨rfl, rfl⟩
 generalize hGW : G6 = GW at *
 clear hGW
 go_upto_region 18 with fail
 refine rg_log xb yb cB cU w GW (3) (sm) [.int .u32 pc, .int .u32 sm, .int .u32 (m : Int), .int .u32 r2, .int .u32 r3, .int .u32 r4, .int .u32 r5, .int .u32 r6, .int .u32 r7, .int .u32 1024, .int .u32 1024] rfl (.slice RA n rc) (.int .i64 tk) (.bool false) (.int .u32 cd) T ct k tr HK.out hk1 HY.out gw (rT.below gw.bel) ?_
 intro A9 c9 W9 t103 t104 t105 t106 t107 t108 t109 t110 t111 t112 t113 t114 g9 row9 off9
 clear gw rT
 dsimp only [Exit.then]
 have RW9 := Lib.hid row9
 have OF9 := Lib.hid off9
 obtain ⟨⟨c0, c1, c2, c3, c4, c5, c6, c7, c8, c9', c10⟩, _⟩ := has11 g9.c
 obtain ⟨⟨d0, d1, d2, d3, d4⟩, _⟩ := has5 g9.d
 obtain ⟨⟨m0, m1, m2, m3, m4, m5, m6, m7, m8, m9, m10⟩, ⟨f0, f1, f2, f3, f4, f5, f6, f7, f8, f9, f10⟩⟩ := has11 g9.rc
 obtain ⟨⟨n0, n1, n2, n3, n4⟩, ⟨q0, q1, q2, q3, q4⟩⟩ := has5 g9.rd
 have GB := Lib.hid g9.bel
 clear g9 row9 off9
 go_wp2_with fail
 go_region
 all_goals go_wp2_with fail
 all_goals refine bodyPost_ret (v := .tuple #[.agg #[.int .u32 pc, .int .u32 sm, .int .u32 (m : Int), .int .u32 r2, .int .u32 r3, .int .u32 r4, .int .u32 r5, .int .u32 r6, .int .u32 r7, .int .u32 1024, .int .u32 1024], .agg #[.slice RA n rc, .int .i64 tk, .slice A9 (k + 1) c9, .bool false, .int .u32 cd]]) (by simp [results, Tryz.results32, go_sem, m0, m1, m2, m3, m4, m5, m6, m7, m8, m9, m10, n0, n1, n2, n3, n4]) rfl ?_
 all_goals obtain ⟨x1, x2⟩ := rst16 GB.out (.int .u32 pc) (.int .u32 sm) (.int .u32 (m : Int)) (.int .u32 r2) (.int .u32 r3) (.int .u32 r4) (.int .u32 r5) (.int .u32 r6) (.int .u32 r7) (.int .u32 1024) (.int .u32 1024) (.slice RA n rc) (.int .i64 tk) (.slice A9 (k + 1) c9) (.bool false) (.int .u32 cd)
 all_goals exact ⟨A9, c9, rfl, RW9.out.chg x1 (fun x hx => by have := OF9.out x hx; omega) (fun x hx => by have := OF9.out x hx; omega), x2, fun x hx => by have := OF9.out x hx; omega⟩
theorem T22_whole (a m : Nat) (h1 : 1024 ≤ a) (h2 : a + m ≤ 2048) : wholeB T22 (a : Int) (m : Int) = true := by
  by_cases hm : m = 0
  · subst hm
    have hl : T22.length = 64 := by unfold T22; rw [splice_len _ _ _ (by rw [List.length_replicate, List.length_replicate]; decide), List.length_replicate]
    unfold wholeB thr
    rw [Bool.and_eq_true, liesB_iff, hl]
    exact ⟨⟨by omega, by omega, by omega⟩, by simp⟩
  · rw [wholeT a m (by omega)]; exact decide_eq_true ⟨h1, h2⟩
theorem rgate_any (xb yb cB cU : Nat) (B : List Int) (hB : B.length = 2200) (hBy : Bytes B) (w : World) (rB : RowAt w (some ⟨xb, 0, none⟩) cB B) (rU : BlAt w (some ⟨yb, 0, none⟩) cU U22) {c : Cp} (o : c.Ok) (hb : c.b = 1024) (hs : c.s = 1024)
    (W : Wd) (tk0 : 0 ≤ W.tk) (tk1 : W.tk ≤ W.rep.length) (hr : W.rep.length ≤ 100000) (ht : W.tr.length ≤ 100000) (RA : Option Addr) (rc : Nat) (T : Option Addr) (ct : Nat) (rR : KRow .u32 w RA rc W.rep) (rT : EvRow w T ct W.tr) (nn : Int) :
    Calls Tryz.prog 32 #[c.val, .agg #[.slice (some ⟨xb, 0, none⟩) 2200 cB, .slice (some ⟨yb, 0, none⟩) 2200 cU], W.val RA rc T ct, .int .i64 nn] w (RGP w (gateS c (sumV c B T22) W nn) RA rc T W.tr) := by
  have oc := o
  obtain ⟨r0, r1, r2, r3, r4, r5, r6, r7, hr8⟩ := o.eight
  obtain ⟨pc, r, b, s⟩ := c
  simp only at hr8 hb hs
  subst hr8 hb hs
  obtain ⟨rep, tk, tr, ov, cd⟩ := W
  simp only at tk0 tk1 hr ht rR rT
  have u0 : U32 r0 := o.r r0 (by simp)
  have u1 : U32 r1 := o.r r1 (by simp)
  have hlen : ∀ y : Ev, (tr ++ [y]).length = tr.length + 1 := fun y => by simp
  cases ov with
  | true =>
    rw [gateS_over _ _ _ _ rfl]
    refine (rgate_over xb yb cB cU pc r0 r1 r2 r3 r4 r5 r6 r7 1024 1024 nn RA rc rep.length tk cd T ct tr.length w).mono ?_
    rintro e w' ⟨rfl, h⟩
    exact ⟨T, ct, rfl, rT.below h, h, .inl ⟨rfl, rfl⟩⟩
  | false =>
    by_cases hn : nn = 0 ∨ nn = 1 ∨ nn = 2 ∨ nn = 3
    · rcases hn with rfl | rfl | rfl | rfl
      · refine (rgate_0 xb yb cB cU pc r0 r1 r2 r3 r4 r5 r6 r7 1024 1024 RA rc rep.length tk cd T ct tr.length tr rfl ht w rT u0).mono ?_
        rintro e w' ⟨A9, c9, rfl, h1, h2, h3⟩
        refine ⟨A9, c9, ?_, h1, h2, .inr h3⟩
        simp [gateS, Wd.val, Cp.val, Cp.cs, Cp.reg]
      · refine (rgate_1 xb yb cB cU pc r0 r1 r2 r3 r4 r5 r6 r7 1024 1024 RA rc rep.length tk cd T ct tr.length tr rfl ht w rT u0).mono ?_
        rintro e w' ⟨A9, c9, rfl, h1, h2, h3⟩
        refine ⟨A9, c9, ?_, h1, h2, .inr h3⟩
        simp [gateS, Wd.val, Cp.val, Cp.cs, Cp.reg]
      · have key2 : ∀ sm, gateS ⟨pc, [r0, r1, r2, r3, r4, r5, r6, r7], 1024, 1024⟩ sm ⟨rep, tk, tr, false, cd⟩ 2 = (⟨pc, [repV ⟨rep, tk, tr, false, cd⟩, r1, r2, r3, r4, r5, r6, r7], 1024, 1024⟩, ⟨rep, repT ⟨rep, tk, tr, false, cd⟩, tr ++ [(2, repV ⟨rep, tk, tr, false, cd⟩)], false, cd⟩) := fun sm => by
          simp [gateS, Cp.setR]
        obtain ⟨t, rfl⟩ : ∃ t : Nat, tk = t := ⟨tk.toNat, by omega⟩
        by_cases hlt : t < rep.length
        · obtain ⟨p, hp, hpb, hc⟩ := rR.2.2.2 (by intro e; subst e; simp at hlt)
          have hwf := rR.2.2.1 (rep.getD t 0) (by rw [List.getD_eq_getElem?_getD, List.getElem?_eq_getElem hlt]; exact List.getElem_mem _)
          have uv : U32 (rep.getD t 0) := by have := bounds_u32 hwf; unfold U32; omega
          subst hp
          refine (rgate_2a xb yb cB cU pc r0 r1 r2 r3 r4 r5 r6 r7 1024 1024 none rc rep.length t cd T ct tr.length tr rfl ht w rT t hlt hr (rep.getD t 0) uv p hpb (hc t hlt)).mono ?_
          rintro e w' ⟨A9, c9, rfl, h1, h2, h3⟩
          have e1 : repV ⟨rep, (t : Int), tr, false, cd⟩ = rep.getD t 0 := by unfold repV; simp only; rw [if_pos (by omega), show (max (t : Int) 0).toNat = t by omega]
          have e2 : repT ⟨rep, (t : Int), tr, false, cd⟩ = (t : Int) + 1 := by unfold repT; simp only; rw [if_pos (by omega)]; omega
          rw [key2, e1, e2]
          refine ⟨A9, c9, ?_, h1, h2, .inr h3⟩
          simp [Wd.val, Cp.val, Cp.cs]
        · refine (rgate_2b xb yb cB cU pc r0 r1 r2 r3 r4 r5 r6 r7 1024 1024 RA rc rep.length t cd T ct tr.length tr rfl ht w rT t (by omega) hr).mono ?_
          rintro e w' ⟨A9, c9, rfl, h1, h2, h3⟩
          have e1 : repV ⟨rep, (t : Int), tr, false, cd⟩ = 0 := by unfold repV; simp only; rw [if_neg (by omega)]
          have e2 : repT ⟨rep, (t : Int), tr, false, cd⟩ = (t : Int) := by unfold repT; simp only; rw [if_neg (by omega)]; omega
          rw [key2, e1, e2]
          refine ⟨A9, c9, ?_, h1, h2, .inr h3⟩
          simp [Wd.val, Cp.val, Cp.cs]
      · have key : ∀ sm, sumV ⟨pc, [r0, r1, r2, r3, r4, r5, r6, r7], 1024, 1024⟩ B T22 = sm → (gateS ⟨pc, [r0, r1, r2, r3, r4, r5, r6, r7], 1024, 1024⟩ sm ⟨rep, tk, tr, false, cd⟩ 3) = (⟨pc, [sm, r1, r2, r3, r4, r5, r6, r7], 1024, 1024⟩, ⟨rep, tk, tr ++ [(3, sm)], false, cd⟩) := fun sm h => by
          simp [gateS, Cp.setR]
        cases how : ownsB 1024 1024 r0 r1 with
        | false =>
          have e1 : sumV ⟨pc, [r0, r1, r2, r3, r4, r5, r6, r7], 1024, 1024⟩ B T22 = 4294967295 := by
            unfold sumV
            rw [if_neg]
            show ¬ ((ownsB 1024 1024 r0 r1 && _) = true)
            rw [how]; simp
          rw [e1, key _ e1]
          refine (rgate_3a xb yb cB cU pc r0 r1 r2 r3 r4 r5 r6 r7 1024 1024 RA rc rep.length tk cd T ct tr.length tr rfl ht w rT u0 u1 (by unfold U32; omega) (by unfold U32; omega) how).mono ?_
          rintro e w' ⟨A9, c9, rfl, h1, h2, h3⟩
          refine ⟨A9, c9, ?_, h1, h2, .inr h3⟩
          simp [Wd.val, Cp.val, Cp.cs]
        | true =>
          have hq := how
          unfold ownsB at hq
          rw [Bool.and_eq_true, decide_eq_true_iff, decide_eq_true_iff] at hq
          have h0 := u0; have h1' := u1
          unfold U32 at h0 h1'
          obtain ⟨a, rfl⟩ : ∃ a : Nat, r0 = a := ⟨r0.toNat, by omega⟩
          obtain ⟨m, rfl⟩ : ∃ m : Nat, r1 = m := ⟨r1.toNat, by omega⟩
          have hw : wholeB T22 (a : Int) (m : Int) = true := T22_whole a m (by omega) (by omega)
          have e1 : sumV ⟨pc, [(a : Int), (m : Int), r2, r3, r4, r5, r6, r7], 1024, 1024⟩ B T22 = fnvL 2166136261 ((B.drop a).take m) := by
            unfold sumV
            rw [if_pos (by show (ownsB 1024 1024 (a : Int) (m : Int) && wholeB T22 (a : Int) (m : Int)) = true; rw [how, hw]; rfl)]
            rfl
          rw [e1, key _ e1]
          refine (rgate_3b xb yb cB cU pc 0 0 r2 r3 r4 r5 r6 r7 1024 1024 RA rc rep.length tk cd T ct tr.length tr rfl ht w rT a m (by omega) (by omega) B hB rB rU _ (fnv_u _) rfl).mono ?_
          rintro e w' ⟨A9, c9, rfl, h1, h2, h3⟩
          refine ⟨A9, c9, ?_, h1, h2, .inr h3⟩
          simp [Wd.val, Cp.val, Cp.cs]
    · have hg : gateS ⟨pc, [r0, r1, r2, r3, r4, r5, r6, r7], 1024, 1024⟩ (sumV ⟨pc, [r0, r1, r2, r3, r4, r5, r6, r7], 1024, 1024⟩ B T22) ⟨rep, tk, tr, false, cd⟩ nn = (⟨pc, [r0, r1, r2, r3, r4, r5, r6, r7], 1024, 1024⟩, ⟨rep, tk, tr, false, cd⟩) := by
        unfold gateS
        rw [if_neg (by simp), if_neg (by omega), if_neg (by omega), if_neg (by omega), if_neg (by omega)]
      rw [hg]
      by_cases hl : nn < 0
      · refine (rgate_low xb yb cB cU pc r0 r1 r2 r3 r4 r5 r6 r7 1024 1024 nn RA rc rep.length tk cd T ct tr.length w hl).mono ?_
        rintro e w' ⟨rfl, h⟩
        exact ⟨T, ct, rfl, rT.below h, h, .inl ⟨rfl, rfl⟩⟩
      · refine (rgate_high xb yb cB cU pc r0 r1 r2 r3 r4 r5 r6 r7 1024 1024 nn RA rc rep.length tk cd T ct tr.length w (by omega)).mono ?_
        rintro e w' ⟨rfl, h⟩
        exact ⟨T, ct, rfl, rT.below h, h, .inl ⟨rfl, rfl⟩⟩
theorem exec22_by {B : List Int} {c d : Cp} {op a b imm : Int} (oc : c.Ok) (hB : Bytes B) (hl : B.length = 2200) (hb : 0 ≤ b ∧ b ≤ 7) : Bytes (exec c d B T22 op a b imm).B ∧ (exec c d B T22 op a b imm).B.length = 2200 := by
  by_cases h16 : op = 16
  · subst h16
    cases hw : wholeB T22 (c.reg a) 4
    · rw [exec_16n _ _ _ _ _ _ _ hw]; exact ⟨hB, hl⟩
    · rw [exec_16y _ _ _ _ _ _ _ hw]
      have rb := oc.reg b hb.1 hb.2
      have hw' := hw
      rw [show (4 : Int) = ((4 : Nat) : Int) from rfl, T22_rg.wh _ 4 (by decide), decide_eq_true_iff] at hw'
      refine ⟨fun y hy => ?_, by rw [splice_len _ _ _ (by rw [b4_len]; omega), hl]⟩
      rcases splice_mem hy with hy | hy
      · exact hB y hy
      · exact b4_byte _ rb.1 rb.2 y hy
  · have : (exec c d B T22 op a b imm).B = B := by
      unfold exec
      rw [if_neg h16]
      simp only [apply_ite Ou.B, ite_self]
    rw [this]; exact ⟨hB, hl⟩
theorem step22_by {B : List Int} {c : Cp} (oc : c.Ok) (hB : Bytes B) (hl : B.length = 2200) {o : Ou} (ho : StepIs c B T22 o) : Bytes o.B ∧ o.B.length = 2200 := by
  rcases ho with ⟨h1, rfl⟩ | ⟨h1, h2, rfl⟩ | ⟨op, a, b, imm, n, h1, rfl⟩
  · exact ⟨hB, hl⟩
  · exact ⟨hB, hl⟩
  · have := rd_bds (codeL_byte hB T22 c.pc) h1
    exact exec22_by oc hB hl this.2.2.1
theorem bxS_B (T : List Bool) (x : Bx) (B : List Int) : (bxS T x B).2 = (stF x.c B T).B := by
 unfold bxS
 simp only
 split
 · rfl
 · split <;> rfl
def RfI (T : List Bool) (n0 : Nat) (x : Bx) (B : List Int) : Prop := ∃ Bp, BxI T 1024 2048 n0 x Bp ∧ RgB Bp B 1024 2048 ∧ Bytes B ∧ B.length = 2200
theorem ref_i {T : List Bool} (hT : RgT T 1024 2048) {n0 : Nat} {x : Bx} {B : List Int} (h : RfI T n0 x B) (hx : x.is = 0) : RfI T (n0 + 1) (bxS T22 x B).1 (bxS T22 x B).2 := by
 obtain ⟨Bp, i, e, hB, hl⟩ := h
 obtain ⟨s1, s2, s3⟩ := bxS_sim hT T22_rg e i
 have j := bxS_i i hx
 obtain ⟨k1, k2⟩ := step22_by i.ok.c hB hl (stF_is x.c B T22)
 rw [s1] at j
 exact ⟨_, j, s3, by rw [bxS_B]; exact k1, by rw [bxS_B]; exact k2⟩
structure RfQ (q : Ou) : Prop where
 c : q.c.Ok
 b : q.c.b = 1024
 s : q.c.s = 1024
 byt : Bytes q.B
 len : q.B.length = 2200
 wh : 0 ≤ q.what ∧ q.what ≤ 5
theorem ref_q {T : List Bool} (hT : RgT T 1024 2048) {n0 : Nat} {x : Bx} {B : List Int} (h : RfI T n0 x B) : RfQ (stF x.c B T22) := by
 obtain ⟨Bp, i, e, hB, hl⟩ := h
 have A := step_sim hT T22_rg e (stF_is x.c Bp T) (stF_is x.c B T22)
 obtain ⟨o1, o2, o3, o4⟩ := step_ok i.ok.c i.byt i.len (stF_is x.c Bp T)
 obtain ⟨⟨f1, f2⟩, fB⟩ := step_few i.byt i.len (stF_is x.c Bp T)
 obtain ⟨k1, k2⟩ := step22_by i.ok.c hB hl (stF_is x.c B T22)
 have hb := f1.trans i.b
 have hs := f2.trans i.s
 rw [A.c] at o1 hb hs
 rw [A.w] at o2
 exact ⟨o1, by simpa using hb, by simpa using hs, k1, k2, by omega⟩
structure RS (w : World) (M0 M1 : Value) (cs : List Value) (W : World) : Prop where
 m : HasB W w.heap.size 50 [M0, M1]
 b : HasB W (w.heap.size + 1) 58 cs
 rb : HasB W (w.heap.size + 1 + 1) 58 [.int .u32 0, .int .u32 0, .int .u32 0, .int .u32 0, .int .u32 0, .int .u32 0, .int .u32 0, .int .u32 0, .int .u32 0, .int .u32 0, .int .u32 0, .slice none 0 0, .int .i64 0, .slice none 0 0, .bool false, .int .u32 0, .int .i64 0, .int .i64 0]
 rm : HasB W (w.heap.size + 1 + 1 + 1) 50 [.slice none 0 0, .slice none 0 0]
 bel : Below w.heap.size w W
theorem RS.below {w W W' : World} {M0 M1 : Value} {cs : List Value} (k : RS w M0 M1 cs W) (hb : Below W.heap.size W W') : RS w M0 M1 cs W' :=
 ⟨k.m.below hb, k.b.below hb, k.rb.below hb, k.rm.below hb, bel_then k.bel hb⟩
theorem RS.lt {w W : World} {M0 M1 : Value} {cs : List Value} (k : RS w M0 M1 cs W) : w.heap.size + 4 ≤ W.heap.size := by have := k.rm.lt; omega
theorem RS.new (w : World) (M0 M1 : Value) (cs : List Value) :
  ∃ W, ((((w.alloc (.cells #[M0, M1] 50)).alloc (.cells cs.toArray 58)).alloc (.cells #[.int .u32 0, .int .u32 0, .int .u32 0, .int .u32 0, .int .u32 0, .int .u32 0, .int .u32 0, .int .u32 0, .int .u32 0, .int .u32 0, .int .u32 0, .slice none 0 0, .int .i64 0, .slice none 0 0, .bool false, .int .u32 0, .int .i64 0, .int .i64 0] 58)).alloc (.cells #[.slice none 0 0, .slice none 0 0] 50)) = W ∧ RS w M0 M1 cs W := by
 refine ⟨_, rfl, ⟨?_, ?_, ?_, ?_, bel_al (bel_al (bel_al (bel_al (Below.refl _ _) _) _) _) _⟩⟩
 · exact (((HasB.newAt w _ _ #[M0, M1] rfl).al _).al _).al _
 · exact ((HasB.newAt _ _ _ cs.toArray (by simp)).al _).al _
 · exact (HasB.newAt _ _ _ #[.int .u32 0, .int .u32 0, .int .u32 0, .int .u32 0, .int .u32 0, .int .u32 0, .int .u32 0, .int .u32 0, .int .u32 0, .int .u32 0, .int .u32 0, .slice none 0 0, .int .i64 0, .slice none 0 0, .bool false, .int .u32 0, .int .i64 0, .int .i64 0] (by simp)).al _
 · exact HasB.newAt _ _ _ #[.slice none 0 0, .slice none 0 0] (by simp)
def SlR (N : Nat) (x0 : Bx) (B0 : List Int) (k : Nat) (x : Bx) (B : List Int) : Prop := slF T22 N x0 B0 = ((slF T22 (N - k) x B).1, (slF T22 (N - k) x B).2.1, k + (slF T22 (N - k) x B).2.2)
theorem slR_0 (N : Nat) (x0 : Bx) (B0 : List Int) : SlR N x0 B0 0 x0 B0 := by unfold SlR; simp
theorem slR_step {N : Nat} {x0 : Bx} {B0 : List Int} {k : Nat} {x : Bx} {B : List Int} (h : SlR N x0 B0 k x B) (hk : k < N) (hx : x.is = 0) (hy : yldB T22 x B = false) : SlR N x0 B0 (k + 1) (bxS T22 x B).1 (bxS T22 x B).2 := by
 unfold SlR at h ⊢
 rw [h, show N - k = (N - (k + 1)) + 1 by omega, slF_step _ hx hy]
 simp only
 congr 2
 omega
theorem slR_yld {N : Nat} {x0 : Bx} {B0 : List Int} {k : Nat} {x : Bx} {B : List Int} (h : SlR N x0 B0 k x B) (hk : k < N) (hx : x.is = 0) (hy : yldB T22 x B = true) : slF T22 N x0 B0 = ((bxS T22 x B).1, (bxS T22 x B).2, k + 1) := by
 unfold SlR at h
 rw [h, show N - k = (N - (k + 1)) + 1 by omega, slF_yld _ hx hy]
theorem slR_end {N : Nat} {x0 : Bx} {B0 : List Int} {k : Nat} {x : Bx} {B : List Int} (h : SlR N x0 B0 k x B) (he : k = N ∨ x.is ≠ 0) (hk : k ≤ N) : slF T22 N x0 B0 = (x, B, k) := by
 unfold SlR at h
 rw [h]
 rcases he with rfl | he
 · rw [Nat.sub_self, slF_0]; rfl
 · rw [slF_over _ he]; rfl
def RSlP (w : World) (yb cU : Nat) (RA : Option Addr) (rc xb0 : Nat) (TA0 : Option Addr) (tr0 : List Ev) (r : Bx × List Int × Nat) (e : Ending) (w' : World) : Prop :=
 ∃ xb cB TA tc, e = .returned (.tuple #[r.1.val RA rc TA tc, .agg #[.slice (some ⟨xb, 0, none⟩) 2200 cB, .slice (some ⟨yb, 0, none⟩) 2200 cU], .int .i64 r.2.2]) ∧ RowAt w' (some ⟨xb, 0, none⟩) cB r.2.1 ∧ EvRow w' TA tc r.1.W.tr ∧ Below w.heap.size w w' ∧ (xb = xb0 ∨ w.heap.size ≤ xb) ∧ ((TA = TA0 ∧ r.1.W.tr = tr0) ∨ ∀ y, TA = some y → w.heap.size ≤ y.block)
def RSl (w : World) (T : List Bool) (N n0 : Nat) (x0 : Bx) (B0 : List Int) (yb cU : Nat) (RA : Option Addr) (rc xb0 : Nat) (TA0 : Option Addr) (i : Value) (wr : World) : Prop :=
 ∃ (k : Nat) (x : Bx) (B : List Int) (xb cB : Nat) (TA : Option Addr) (tc : Nat), i = .int .i64 k ∧ k ≤ N ∧ Hid (SlR N x0 B0 k x B) ∧ Hid (RfI T (n0 + k) x B) ∧ Hid (RS w (.slice (some ⟨xb, 0, none⟩) 2200 cB) (.slice (some ⟨yb, 0, none⟩) 2200 cU) (x.cs RA rc TA tc) wr) ∧ Hid (RowAt wr (some ⟨xb, 0, none⟩) cB B) ∧ Hid (EvRow wr TA tc x.W.tr) ∧
  Hid (x.W.rep = x0.W.rep) ∧ (xb = xb0 ∨ w.heap.size + 4 ≤ xb) ∧ Hid ((TA = TA0 ∧ x.W.tr = x0.W.tr) ∨ ∀ y, TA = some y → w.heap.size + 4 ≤ y.block)
end Go.Proofs.YtbgnkljeodandaaGreat.Mm
