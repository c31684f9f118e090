/- Package gate as it landed: Do: gate 2. -/
import Derived.Test.YtjfhoaahohinhaaGateDo
namespace Go.Proofs.Ytjfhoaahohinhaa.Mm
open Go.ChangeShapes Go.WideShapes Go.ChangeAt Go.RowKit
set_option linter.unusedVariables false
set_option linter.unusedSimpArgs false

set_option maxRecDepth 100000 in
set_option maxHeartbeats 8000000 in
theorem do_2 (pc r0 r1 r2 r3 r4 r5 r6 r7 b s : Int) (pv : Option Addr) (RA : Option Addr) (rc n : Nat) (tk cd : Int) (T : Option Addr) (ct k : Nat) (tr : List Ev) (rv tv : Int) (w : World) (WC : Hid (∀ w', Below w.heap.size w w' → Calls Try.prog 23 #[.slice T k ct, .agg #[.int .i64 2, .int .u32 rv]] w' (WithP w' tr k (2, rv))))
    (TC : Hid (∀ w', Below w.heap.size w w' → HasB w' (w.heap.size + 1) 40 [.slice RA n rc, .int .i64 tk, .slice T k ct, .bool false, .int .u32 cd] → Calls Try.prog 21 #[.pointer (some ⟨w.heap.size + 1, 0, none⟩)] w' fun e w'' => e = .returned (.int .u32 rv) ∧ w'' = w'.setCell ⟨w.heap.size + 1, 1, none⟩ (.int .i64 tv))) :
    Calls Try.prog 11 #[.agg #[.int .u32 pc, .int .u32 r0, .int .u32 r1, .int .u32 r2, .int .u32 r3, .int .u32 r4, .int .u32 r5, .int .u32 r6, .int .u32 r7, .int .u32 b, .int .u32 s], .pointer pv, .agg #[.slice RA n rc, .int .i64 tk, .slice T k ct, .bool false, .int .u32 cd], .int .i64 2] w fun e w' => ∃ A9 c9, e = .returned (.tuple #[.agg #[.int .u32 pc, .int .u32 rv, .int .u32 r1, .int .u32 r2, .int .u32 r3, .int .u32 r4, .int .u32 r5, .int .u32 r6, .int .u32 r7, .int .u32 b, .int .u32 s], .agg #[.slice RA n rc, .int .i64 tv, .slice A9 (k + 1) c9, .bool false, .int .u32 cd]]) ∧ EvRow w' A9 c9 (tr ++ [(2, rv)]) ∧ Below w.heap.size w w' ∧ ∀ x, A9 = some x → w.heap.size ≤ x.block := by
  obtain ⟨G1, e1, g1⟩ := GdS.new w [.int .u32 pc, .int .u32 r0, .int .u32 r1, .int .u32 r2, .int .u32 r3, .int .u32 r4, .int .u32 r5, .int .u32 r6, .int .u32 r7, .int .u32 b, .int .u32 s] [.slice RA n rc, .int .i64 tk, .slice T k ct, .bool false, .int .u32 cd]
  obtain ⟨G2, e2, g2, _⟩ := g1.setD 1 (.int .i64 tv)
  obtain ⟨G3, e3, g3, _⟩ := g2.setC 1 (.int .u32 rv)
  simp only [List.set_cons_zero, List.set_cons_succ] at g2 g3
  have T1 := Lib.hid (TC.out G1 g1.bel g1.d)
  obtain ⟨⟨a0, a1, a2, a3, a4, a5, a6, a7, a8, a9, a10⟩, ⟨e0, e1', e2', e3', e4', e5, e6, e7, e8, e9, e10⟩⟩ := has11G g1.c
  obtain ⟨⟨b0, b1, b2, b3, b4⟩, ⟨h0, h1, h2, h3, h4⟩⟩ := has5 g1.d
  go_enter Try.func11, Try.ntmps11
  go_wp2_with fail
  refine T1.out.mono ?_; rintro e w2 ⟨rfl, hw2⟩
  rw [e2] at hw2
  subst hw2
  clear a0 a1 a2 a3 a4 a5 a6 a7 a8 a9 a10 e0 e1' e2' e3' e4' e5 e6 e7 e8 e9 e10 b0 b1 b2 b3 b4 h0 h1 h2 h3 h4
  have u1 := g2.c.cell 1
  have uf1 := g2.c.frozen 1
  simp only [List.getElem?_cons_succ, List.getElem?_cons_zero] at u1
  obtain ⟨⟨a0, a1, a2, a3, a4, a5, a6, a7, a8, a9, a10⟩, ⟨e0, e1', e2', e3', e4', e5, e6, e7, e8, e9, e10⟩⟩ := has11G g3.c
  obtain ⟨⟨b0, b1, b2, b3, b4⟩, ⟨h0, h1, h2, h3, h4⟩⟩ := has5 g3.d
  have W9 := Lib.hid (WC.out _ g3.bel)
  go_wp2_with fail
  refine W9.out.mono ?_; rintro e w9 ⟨g9, c9, rfl, row9, hb9, ge9⟩
  have x9 := g3.below hb9
  have lt9 : w.heap.size + 4 ≤ g9 := Nat.le_trans g3.lt ge9
  clear a0 a1 a2 a3 a4 a5 a6 a7 a8 a9 a10 e0 e1' e2' e3' e4' e5 e6 e7 e8 e9 e10 b0 b1 b2 b3 b4 h0 h1 h2 h3 h4
  clear W9 hb9 ge9
  obtain ⟨Wa, ea, y9, ch9⟩ := x9.setD 2 (.slice (some ⟨g9, 0, none⟩) (k + 1) c9)
  obtain ⟨⟨_, _, z2, _, _⟩, ⟨_, _, zf2, _, _⟩⟩ := has5 x9.d
  have ROW := Lib.hid (row9.chg ch9 (fun x hx => by cases hx; simp only; omega) (fun x hx => by cases hx; simp only; omega))
  clear row9 ch9 x9
  simp only [List.set_cons_zero, List.set_cons_succ] at y9
  obtain ⟨⟨a0, a1, a2, a3, a4, a5, a6, a7, a8, a9, a10⟩, ⟨e0, e1', e2', e3', e4', e5, e6, e7, e8, e9, e10⟩⟩ := has11G y9.c
  obtain ⟨⟨b0, b1, b2, b3, b4⟩, ⟨h0, h1, h2, h3, h4⟩⟩ := has5 y9.d
  obtain ⟨⟨m0, m1, m2, m3, m4, m5, m6, m7, m8, m9, m10⟩, ⟨f0, f1, f2, f3, f4, f5, f6, f7, f8, f9, f10⟩⟩ := has11G y9.rc
  obtain ⟨⟨n0, n1, n2, n3, n4⟩, ⟨q0, q1, q2, q3, q4⟩⟩ := has5 y9.rd
  have GB := Lib.hid y9.bel
  clear y9
  go_wp2_with fail
  go_region
  all_goals go_wp2_with fail
  all_goals refine bodyPost_ret (v := .tuple #[.agg #[.int .u32 pc, .int .u32 rv, .int .u32 r1, .int .u32 r2, .int .u32 r3, .int .u32 r4, .int .u32 r5, .int .u32 r6, .int .u32 r7, .int .u32 b, .int .u32 s], .agg #[.slice RA n rc, .int .i64 tv, .slice (some ⟨g9, 0, none⟩) (k + 1) c9, .bool false, .int .u32 cd]]) (by simp [results, Try.results11, go_sem, m0, m1, m2, m3, m4, m5, m6, m7, m8, m9, m10, n0, n1, n2, n3, n4]) rfl ?_
  all_goals obtain ⟨x1, x2⟩ := gst16 GB.out (.int .u32 pc) (.int .u32 rv) (.int .u32 r1) (.int .u32 r2) (.int .u32 r3) (.int .u32 r4) (.int .u32 r5) (.int .u32 r6) (.int .u32 r7) (.int .u32 b) (.int .u32 s) (.slice RA n rc) (.int .i64 tv) (.slice (some ⟨g9, 0, none⟩) (k + 1) c9) (.bool false) (.int .u32 cd)
  all_goals exact ⟨_, c9, rfl, ROW.out.chg x1 (fun x hx => by cases hx; simp only; omega) (fun x hx => by cases hx; simp only; omega), x2, fun x hx => by cases hx; simp only; omega⟩
end Go.Proofs.Ytjfhoaahohinhaa.Mm
