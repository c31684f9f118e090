/- Package gate as it landed: Do: no gate. -/
import Derived.Test.YtjfhoaahohinhaaGateDo
namespace Go.Proofs.Ytjfhoaahohinhaa.Mm
open Go.ChangeShapes Go.WideShapes Go.ChangeAt Go.RowKit
set_option linter.unusedVariables false
set_option linter.unusedSimpArgs false

set_option maxRecDepth 100000 in
set_option maxHeartbeats 8000000 in
theorem do_none (pc r0 r1 r2 r3 r4 r5 r6 r7 b s : Int) (pv : Option Addr) (RA : Option Addr) (rc n : Nat) (tk cd : Int) (T : Option Addr) (ct k : Nat) (w : World) (nn : Int) (hn : nn ≠ 0 ∧ nn ≠ 1 ∧ nn ≠ 2 ∧ nn ≠ 3) :
    Calls Try.prog 11 #[.agg #[.int .u32 pc, .int .u32 r0, .int .u32 r1, .int .u32 r2, .int .u32 r3, .int .u32 r4, .int .u32 r5, .int .u32 r6, .int .u32 r7, .int .u32 b, .int .u32 s], .pointer pv, .agg #[.slice RA n rc, .int .i64 tk, .slice T k ct, .bool false, .int .u32 cd], .int .i64 nn] w fun e w' => e = .returned (.tuple #[.agg #[.int .u32 pc, .int .u32 r0, .int .u32 r1, .int .u32 r2, .int .u32 r3, .int .u32 r4, .int .u32 r5, .int .u32 r6, .int .u32 r7, .int .u32 b, .int .u32 s], .agg #[.slice RA n rc, .int .i64 tk, .slice T k ct, .bool false, .int .u32 cd]]) ∧ Below w.heap.size w w' := by
  obtain ⟨G1, e1, g1⟩ := GdS.new w [.int .u32 pc, .int .u32 r0, .int .u32 r1, .int .u32 r2, .int .u32 r3, .int .u32 r4, .int .u32 r5, .int .u32 r6, .int .u32 r7, .int .u32 b, .int .u32 s] [.slice RA n rc, .int .i64 tk, .slice T k ct, .bool false, .int .u32 cd]
  have k0 : (nn == 0) = false := by simp; omega
  have k1 : (nn == 1) = false := by simp; omega
  have k2 : (nn == 2) = false := by simp; omega
  have k3 : (nn == 3) = false := by simp; omega
  clear hn
  obtain ⟨⟨a0, a1, a2, a3, a4, a5, a6, a7, a8, a9, a10⟩, ⟨e0, e1', e2', e3', e4', e5, e6, e7, e8, e9, e10⟩⟩ := has11G g1.c
  obtain ⟨⟨b0, b1, b2, b3, b4⟩, ⟨h0, h1, h2, h3, h4⟩⟩ := has5 g1.d
  go_enter Try.func11, Try.ntmps11
  obtain ⟨⟨m0, m1, m2, m3, m4, m5, m6, m7, m8, m9, m10⟩, ⟨f0, f1, f2, f3, f4, f5, f6, f7, f8, f9, f10⟩⟩ := has11G g1.rc
  obtain ⟨⟨n0, n1, n2, n3, n4⟩, ⟨q0, q1, q2, q3, q4⟩⟩ := has5 g1.rd
  have GB := Lib.hid g1.bel
  clear g1
  go_wp2_with fail
  go_region
  all_goals go_wp2_with fail
  all_goals refine bodyPost_ret (v := .tuple #[.agg #[.int .u32 pc, .int .u32 r0, .int .u32 r1, .int .u32 r2, .int .u32 r3, .int .u32 r4, .int .u32 r5, .int .u32 r6, .int .u32 r7, .int .u32 b, .int .u32 s], .agg #[.slice RA n rc, .int .i64 tk, .slice T k ct, .bool false, .int .u32 cd]]) (by simp [results, Try.results11, go_sem, m0, m1, m2, m3, m4, m5, m6, m7, m8, m9, m10, n0, n1, n2, n3, n4]) rfl ?_
  all_goals obtain ⟨x1, x2⟩ := gst16 GB.out (.int .u32 pc) (.int .u32 r0) (.int .u32 r1) (.int .u32 r2) (.int .u32 r3) (.int .u32 r4) (.int .u32 r5) (.int .u32 r6) (.int .u32 r7) (.int .u32 b) (.int .u32 s) (.slice RA n rc) (.int .i64 tk) (.slice T k ct) (.bool false) (.int .u32 cd)
  all_goals exact ⟨rfl, x2⟩
end Go.Proofs.Ytjfhoaahohinhaa.Mm
