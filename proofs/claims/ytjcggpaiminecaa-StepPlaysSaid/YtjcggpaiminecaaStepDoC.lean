/- A step of package step, whatever the processor and the memory. -/
import Derived.Test.YtjcggpaiminecaaStepDoB
namespace Go.Proofs.Ytjcggpaiminecaa.Mm
open Go.ChangeShapes Go.WideShapes Go.ChangeAt Go.RowKit
set_option linter.unusedVariables false

theorem step_any {w : World} {p g h : Nat} {B : List Int} {T : List Bool} (m : MemAt w p g h B T) {c : Cp} (o : c.Ok) {x : Ou} (hx : StepIs c B T x) :
    Calls Try.prog 24 #[c.val, .pointer (some ⟨p, 0, none⟩)] w (DoP w p g h T x) := by
  obtain ⟨r0, r1, r2, r3, r4, r5, r6, r7, hr⟩ := o.eight
  obtain ⟨pc, r, b, s⟩ := c
  simp only at hr
  subst hr
  obtain ⟨pc0, pc1⟩ := o.pc
  simp only at pc0 pc1
  rcases hx with ⟨h1, rfl⟩ | ⟨h1, h2, rfl⟩ | ⟨op, a, b', imm, n, h1, rfl⟩
  · exact do_empty m pc r0 r1 r2 r3 r4 r5 r6 r7 b s pc0 pc1 h1
  · exact do_broken m pc r0 r1 r2 r3 r4 r5 r6 r7 b s pc0 pc1 h1 h2
  · have hbd := rd_bds (codeL_byte m.byte T pc) h1
    obtain ⟨q1, q2, q3, q4, q5⟩ := hbd
    obtain ⟨n, rfl⟩ : ∃ k : Nat, n = k := ⟨n.toNat, by omega⟩
    have hpc : U32 (IntKind.u32.wrap (pc + n)) := wrap_u _
    have CO := fun W N (mW : MemAt W p g h B T) (hN : HasB W N 57 [.int .u32 ((pc + n) % 4294967296), .int .u32 r0, .int .u32 r1, .int .u32 r2, .int .u32 r3, .int .u32 r4, .int .u32 r5, .int .u32 r6, .int .u32 r7, .int .u32 b, .int .u32 s]) =>
      obey_any (c := ⟨pc, [r0, r1, r2, r3, r4, r5, r6, r7], b, s⟩) (X := N) hpc mW o hN op imm a b' q1 q2 q3 q4
    have hok := exec_ok (T := T) hpc o m.byte m.len op imm a b' q1 q2 q3 q4
    have hwh := exec_what (⟨pc, [r0, r1, r2, r3, r4, r5, r6, r7], b, s⟩ : Cp) ((⟨pc, [r0, r1, r2, r3, r4, r5, r6, r7], b, s⟩ : Cp).setPc (IntKind.u32.wrap (pc + n))) B T op imm a b' q1
    generalize exec (⟨pc, [r0, r1, r2, r3, r4, r5, r6, r7], b, s⟩ : Cp) ((⟨pc, [r0, r1, r2, r3, r4, r5, r6, r7], b, s⟩ : Cp).setPc (IntKind.u32.wrap (pc + n))) B T op a b' imm = x at CO hok hwh
    obtain ⟨c', B', wh, ga⟩ := x
    obtain ⟨hw1, hw2, hw3⟩ := hwh
    simp only at hw1 hw2 hw3 hok
    by_cases k0 : wh = 0
    · obtain ⟨s0, s1, s2, s3, s4, s5, s6, s7, hs⟩ := hok.eight
      obtain ⟨pc2, r', b2, z2⟩ := c'
      simp only at hs
      subst hs
      exact do_go0 m pc r0 r1 r2 r3 r4 r5 r6 r7 b s op a b' imm wh ga pc2 s0 s1 s2 s3 s4 s5 s6 s7 b2 z2 n pc0 pc1 (by omega) (by omega) h1 CO k0
    by_cases k2 : wh = 2
    · obtain ⟨s0, s1, s2, s3, s4, s5, s6, s7, hs⟩ := hok.eight
      obtain ⟨pc2, r', b2, z2⟩ := c'
      simp only at hs
      subst hs
      exact do_go2 m pc r0 r1 r2 r3 r4 r5 r6 r7 b s op a b' imm wh ga pc2 s0 s1 s2 s3 s4 s5 s6 s7 b2 z2 n pc0 pc1 (by omega) (by omega) h1 CO k2
    · rcases hw2 with h | h | ⟨rfl, rfl⟩
      · exact absurd h k0
      · exact absurd h k2
      · exact do_keep m pc r0 r1 r2 r3 r4 r5 r6 r7 b s op a b' imm wh ga n pc0 pc1 (by omega) (by omega) h1 CO (by simpa using k0) (by simpa using k2)

/-- what is known of a step -/
theorem step_ok {c : Cp} {B : List Int} {T : List Bool} (o : c.Ok) (hB : Bytes B) (hl : B.length = 64 * T.length) {x : Ou} (hx : StepIs c B T x) :
    x.c.Ok ∧ (x.what = 0 ∨ x.what = 1 ∨ x.what = 2 ∨ x.what = 3 ∨ x.what = 4 ∨ x.what = 5) ∧ (x.what = 0 ∨ x.what = 2 ∨ x.c = c ∧ x.B = B) ∧ (x.what = 2 ∨ x.gate = 0) := by
  rcases hx with ⟨h1, rfl⟩ | ⟨h1, h2, rfl⟩ | ⟨op, a, b, imm, n, h1, rfl⟩
  · exact ⟨o, .inr (.inr (.inr (.inl rfl))), .inr (.inr ⟨rfl, rfl⟩), .inr rfl⟩
  · exact ⟨o, .inr (.inr (.inr (.inr (.inr rfl)))), .inr (.inr ⟨rfl, rfl⟩), .inr rfl⟩
  · obtain ⟨q1, q2, q3, q4, q5⟩ := rd_bds (codeL_byte hB T c.pc) h1
    have hok := exec_ok (T := T) (wrap_u (c.pc + n)) o hB hl op imm a b q1 q2 q3 q4
    obtain ⟨w1, w2, w3⟩ := exec_what c (c.setPc (IntKind.u32.wrap (c.pc + n))) B T op imm a b q1
    exact ⟨hok, by omega, w2, w3⟩
end Go.Proofs.Ytjcggpaiminecaa.Mm
