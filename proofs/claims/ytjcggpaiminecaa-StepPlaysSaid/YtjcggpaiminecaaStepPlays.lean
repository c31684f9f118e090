/- The statement StepPlays, walked. -/
import Derived.Test.YtjcggpaiminecaaStepLaw
import Derived.ChangeKeysEq
import Derived.Test.YtjcggpaiminecaaMemBase
import Derived.Test.YtjcggpaiminecaaStepMath
import Derived.OpenShut
import Derived.ChangeArms
import Derived.ProofKit
import Derived.WideShapes
import Derived.Test.YtjcggpaiminecaaStepRefI
import Derived.Deep.RegionWith
import Derived.Deep.DeepCutAuto
import Derived.Deep.CutRange
namespace Go.Proofs.Ytjcggpaiminecaa.Mm
open Go.ChangeShapes Go.WideShapes Go.ChangeAt Go.RowKit
set_option linter.unusedVariables false

theorem part_u32 (xs : Array Value) (i : Nat) (v : Int) (h : xs[i]? = some (.int .u32 v)) (w : World) : (part 35 xs i).run Try.prog w = .ok (.int .u32 v) w := by
  simp [part, isAgg, run_underlying Try.underlying35, h]
theorem eq_item (xs ys : Array Value) (i : Nat) (is : List Nat) (a b : Int) (hx : xs[i]? = some (.int .u32 a)) (hy : ys[i]? = some (.int .u32 b)) (w : World) :
    (Op.eqItems 9998 35 1 xs ys (i :: is)).run Try.prog w = (if a = b then (Op.eqItems 9998 35 1 xs ys is).run Try.prog w else .ok false w) := by
  simp only [Op.eqItems, Sem.run_bind, Nat.mul_one, part_u32 xs i a hx w, part_u32 ys i b hy w, Result.andThen_ok, run_equalIn_int w 9997 35 .u32 .u32 a b Try.underlying35]
  by_cases h : a = b
  · subst h; simp
  · simp [h]
theorem eq8 (t0 t1 t2 t3 t4 t5 t6 t7 : Int) (w : World) :
    (Op.equalIn 9999 52 (.agg #[.int .u32 t0, .int .u32 t1, .int .u32 t2, .int .u32 t3, .int .u32 t4, .int .u32 t5, .int .u32 t6, .int .u32 t7]) (.agg #[.int .u32 t0, .int .u32 t1, .int .u32 t2, .int .u32 t3, .int .u32 t4, .int .u32 t5, .int .u32 t6, .int .u32 t7])).run Try.prog w = .ok true w := by
  obtain ⟨i, hi⟩ : ∃ i, Try.prog.info? 35 = some i := Option.isSome_iff_exists.1 (by kernel_rfl)
  have hc : Try.prog.cellsOf 35 = 1 := by kernel_rfl
  rw [run_equalIn_array w 9998 _ _ Try.underlying52 hi, hc]
  rw [show List.range 8 = [0, 1, 2, 3, 4, 5, 6, 7] from rfl]
  rw [eq_item _ _ 0 _ t0 t0 rfl rfl, if_pos rfl, eq_item _ _ 1 _ t1 t1 rfl rfl, if_pos rfl, eq_item _ _ 2 _ t2 t2 rfl rfl, if_pos rfl, eq_item _ _ 3 _ t3 t3 rfl rfl, if_pos rfl, eq_item _ _ 4 _ t4 t4 rfl rfl, if_pos rfl, eq_item _ _ 5 _ t5 t5 rfl rfl, if_pos rfl, eq_item _ _ 6 _ t6 t6 rfl rfl, if_pos rfl, eq_item _ _ 7 _ t7 t7 rfl rfl, if_pos rfl]
  rfl
end Go.Proofs.Ytjcggpaiminecaa.Mm

namespace Go.Proofs.Ytjcggpaiminecaa.Mm
open Go.ChangeShapes Go.WideShapes Go.ChangeAt Go.RowKit
set_option linter.unusedVariables false

set_option maxRecDepth 100000 in
theorem cpu_of {H : Type} {enc : TypeId × Value → H} {w : World} {r : Reach} {b0 base : Nat} {spare : Nat → Bool} {held : Bool} {v : Value} {d : DataW H} {ps : List MemPlace}
    (hv : Value.okWide Try.prog w r b0 54 v) (h : DataW.Trod enc Try.prog w base spare held 54 v d ps) : ∃ c : Cp, v = c.val ∧ c.Ok := by
  have hC : Try.prog.cellsOf 54 = 11 := by kernel_rfl
  have hA : Try.prog.cellsOf 52 = 8 := by kernel_rfl
  have hU : Try.prog.cellsOf 35 = 1 := by kernel_rfl
  obtain ⟨cs, rfl, hsz⟩ := okWide_struct Try.underlying54 hv
  rw [hC] at hsz
  obtain ⟨l⟩ := cs
  obtain ⟨fuel, hf⟩ := h
  obtain ⟨xs, n, _, hx, _, hlen, hg⟩ := DataW.trod_struct Try.underlying54 hf
  match l, hsz with
  | [y0, y1, y2, y3, y4, y5, y6, y7, y8, y9, y10], _ =>
    have f0 : DataW.trod enc Try.prog w base spare held n 35 (([y0, y1, y2, y3, y4, y5, y6, y7, y8, y9, y10].drop 0).take (Try.prog.cellsOf 35)) = xs[0]? := hg 0 _ rfl
    have f1 : DataW.trod enc Try.prog w base spare held n 52 (([y0, y1, y2, y3, y4, y5, y6, y7, y8, y9, y10].drop 1).take (Try.prog.cellsOf 52)) = xs[1]? := hg 1 _ rfl
    have f2 : DataW.trod enc Try.prog w base spare held n 35 (([y0, y1, y2, y3, y4, y5, y6, y7, y8, y9, y10].drop 9).take (Try.prog.cellsOf 35)) = xs[2]? := hg 2 _ rfl
    have f3 : DataW.trod enc Try.prog w base spare held n 35 (([y0, y1, y2, y3, y4, y5, y6, y7, y8, y9, y10].drop 10).take (Try.prog.cellsOf 35)) = xs[3]? := hg 3 _ rfl
    simp only [hA, hU, List.drop_zero, List.drop_succ_cons, List.take_succ_cons, List.take_zero] at f0 f1 f2 f3
    have hx4 : xs.length = 4 := hlen
    have some_of : ∀ j, j < 4 → ∃ y, xs[j]? = some y := fun j hj => ⟨xs[j]'(by omega), List.getElem?_eq_getElem _⟩
    obtain ⟨q0, e0⟩ := some_of 0 (by decide)
    obtain ⟨q1, e1⟩ := some_of 1 (by decide)
    obtain ⟨q2, e2⟩ := some_of 2 (by decide)
    obtain ⟨q3, e3⟩ := some_of 3 (by decide)
    obtain ⟨pc, p0, _, g0⟩ := DataW.trod_int Try.underlying35 (f0.trans e0)
    obtain ⟨b, p2, _, g2⟩ := DataW.trod_int Try.underlying35 (f2.trans e2)
    obtain ⟨s, p3, _, g3⟩ := DataW.trod_int Try.underlying35 (f3.trans e3)
    obtain ⟨zs, m, _, _, _, hl8, ha⟩ := DataW.trod_array Try.underlying52 (f1.trans e1)
    have some8 : ∀ j, j < 8 → ∃ y, zs[j]? = some y := fun j hj => ⟨zs[j]'(by omega), List.getElem?_eq_getElem _⟩
    have reg : ∀ (j : Nat) (y : Value), j < 8 → ([y1, y2, y3, y4, y5, y6, y7, y8].drop j).take 1 = [y] → ∃ k : Int, y = .int .u32 k ∧ U32 k := by
      intro j y hj hy
      obtain ⟨q, hq⟩ := some8 j hj
      have := ha j hj
      rw [hU, Nat.mul_one, hy] at this
      obtain ⟨k, p, _, g⟩ := DataW.trod_int Try.underlying35 (this.trans hq)
      simp only [List.cons.injEq, and_true] at p
      exact ⟨k, p, by have := bounds_u32 g; exact ⟨this.1, by omega⟩⟩
    obtain ⟨r0, rfl, z0⟩ := reg 0 y1 (by decide) rfl
    obtain ⟨r1, rfl, z1⟩ := reg 1 y2 (by decide) rfl
    obtain ⟨r2, rfl, z2⟩ := reg 2 y3 (by decide) rfl
    obtain ⟨r3, rfl, z3⟩ := reg 3 y4 (by decide) rfl
    obtain ⟨r4, rfl, z4⟩ := reg 4 y5 (by decide) rfl
    obtain ⟨r5, rfl, z5⟩ := reg 5 y6 (by decide) rfl
    obtain ⟨r6, rfl, z6⟩ := reg 6 y7 (by decide) rfl
    obtain ⟨r7, rfl, z7⟩ := reg 7 y8 (by decide) rfl
    simp only [List.cons.injEq, and_true] at p0 p2 p3
    subst p0 p2 p3
    have u0 := bounds_u32 g0
    have u2 := bounds_u32 g2
    have u3 := bounds_u32 g3
    have v0 : U32 pc := ⟨u0.1, by omega⟩
    have v2 : U32 b := ⟨u2.1, by omega⟩
    have v3 : U32 s := ⟨u3.1, by omega⟩
    refine ⟨⟨pc, [r0, r1, r2, r3, r4, r5, r6, r7], b, s⟩, rfl, ⟨v0, rfl, fun x hx => ?_, v2, v3⟩⟩
    simp only [List.mem_cons, List.not_mem_nil, or_false] at hx
    rcases hx with rfl | rfl | rfl | rfl | rfl | rfl | rfl | rfl <;> assumption
end Go.Proofs.Ytjcggpaiminecaa.Mm

namespace Go.Proofs.Ytjcggpaiminecaa.Mm
open Go.ChangeShapes Go.WideShapes Go.ChangeAt Go.RowKit
set_option linter.unusedVariables false

theorem HasB.pass {w w' : World} {p g h k : Nat} {B : List Int} {T : List Bool} {t : TypeId} {cs : List Value} (x : HasB w k t cs) (m : MemAt w p g h B T) (c : Chg g g w w') (ht : t ≠ 5) : HasB w' k t cs :=
  x.chg c (x.ne m.bytes ht) (x.ne m.bytes ht)
theorem boxC (w : World) (vs : Array Value) (wh ga : Int) : ∃ W, (w.alloc (.cells vs 57)).alloc (.cells #[.int .i64 wh, .int .i64 ga] 60) = W ∧ HasB W w.heap.size 57 vs.toList ∧ HasB W (w.heap.size + 1) 60 [.int .i64 wh, .int .i64 ga] ∧ Below w.heap.size w W :=
  ⟨_, rfl, (HasB.newAt w _ _ vs rfl).al _, HasB.newAt _ _ _ _ (by simp), bel_al (bel_al (Below.refl _ _) _) _⟩
theorem boxM (w : World) (a b : Value) : ∃ W, w.alloc (.cells #[a, b] 33) = W ∧ Below w.heap.size w W := ⟨_, rfl, bel_al (Below.refl _ _) _⟩

theorem set_same {w : World} {g : Nat} {t : TypeId} {cs : List Value} (h : HasB w g t cs) (i : Nat) (v : Value) (hv : cs[i]? = some v) : w.setCell ⟨g, i, none⟩ v = w := by
  have hh : w.heap[g]? = some (.cells cs.toArray t (0, 0)) := h
  have hl := h.lt
  unfold World.setCell
  have e : w.heap.modify g (fun | .cells c elem frozen => .cells (if (⟨g, i, none⟩ : Addr).spot.isSome then c else c.setIfInBounds i v) elem frozen | o => o) = w.heap := by
    apply Array.ext_getElem?
    intro k
    rw [Array.getElem?_modify]
    by_cases hk : g = k
    · subst hk
      rw [if_pos rfl, hh]
      simp
      apply List.ext_getElem?
      intro j
      rw [List.getElem?_set]
      by_cases hj : i = j
      · subst hj
        rw [if_pos rfl, hv]
        have := (List.getElem?_eq_some_iff.1 hv).1
        simp [this]
      · rw [if_neg hj]
    · rw [if_neg hk]
  exact congrArg (fun hp => ({ w with heap := hp } : World)) e


/-- the memories, the processors, in a round's head: B1 the program's bytes, B2 the document's -/
structure PlS (w : World) (p g h A X D : Nat) (c : Cp) (B1 B2 : List Int) (xb cB yb cU : Nat) (W : World) : Prop where
  m : MSt w p g h B1 T4 W
  a : HasB W A 54 c.cs
  x : HasB W X 33 [.slice (some ⟨xb, 0, none⟩) 256 cB, .slice (some ⟨yb, 0, none⟩) 256 cU]
  d : HasB W D 57 c.cs
  rB : RowAt W (some ⟨xb, 0, none⟩) cB B2
  rU : BlAt W (some ⟨yb, 0, none⟩) cU U4
  n1 : xb ≠ g ∧ yb ≠ g
  n2 : (xb ≠ A ∧ xb ≠ X ∧ xb ≠ D) ∧ (yb ≠ A ∧ yb ≠ X ∧ yb ≠ D)
  lo : w.heap.size ≤ A ∧ w.heap.size ≤ X ∧ w.heap.size ≤ D
  ax : A < D ∧ X < D ∧ A < X
section
variable {w W W' : World} {p g h A X D : Nat} {c : Cp} {B1 B2 B' : List Int} {xb cB yb cU : Nat}
theorem PlS.below (s : PlS w p g h A X D c B1 B2 xb cB yb cU W) (b : Below W.heap.size W W') : PlS w p g h A X D c B1 B2 xb cB yb cU W' :=
  ⟨s.m.below b, s.a.below b, s.x.below b, s.d.below b, s.rB.below b, s.rU.below b, s.n1, s.n2, s.lo, s.ax⟩
theorem eleven {c : Cp} (o : c.cs.length = 11) : ∃ a0 a1 a2 a3 a4 a5 a6 a7 a8 a9 a10, c.cs = [a0, a1, a2, a3, a4, a5, a6, a7, a8, a9, a10] := by
  generalize c.cs = L at o
  match L, o with
  | [a0, a1, a2, a3, a4, a5, a6, a7, a8, a9, a10], _ => exact ⟨_, _, _, _, _, _, _, _, _, _, _, rfl⟩
theorem PlS.step (s : PlS w p g h A X D c B1 B2 xb cB yb cU W) (m : MemAt W' p g h B' T4) (k : Chg g g W W') : PlS w p g h A X D c B' B2 xb cB yb cU W' :=
  ⟨s.m.chg m k.wide, s.a.pass s.m.at_ k (by decide), s.x.pass s.m.at_ k (by decide), s.d.pass s.m.at_ k (by decide), s.rB.chg k s.n1.1 s.n1.1, s.rU.chg k s.n1.2 s.n1.2, s.n1, s.n2, s.lo, s.ax⟩
theorem PlS.lts (s : PlS w p g h A X D c B1 B2 xb cB yb cU W) : g < W.heap.size ∧ A < W.heap.size ∧ X < W.heap.size ∧ D < W.heap.size := ⟨s.m.at_.bytes.lt, s.a.lt, s.x.lt, s.d.lt⟩
/-- the round's end: all three are set anew -/
theorem pl_worlds (s : PlS w p g h A X D c B1 B2 xb cB yb cU W) {c' : Cp} {E F xb' cB' : Nat} (oc : c.cs.length = 11) {v0 : Value} {v1 : Value} {v2 : Value} {v3 : Value} {v4 : Value} {v5 : Value} {v6 : Value} {v7 : Value} {v8 : Value} {v9 : Value} {v10 : Value} (hc : c'.cs = [v0, v1, v2, v3, v4, v5, v6, v7, v8, v9, v10]) (hE : HasB W E 57 [v0, v1, v2, v3, v4, v5, v6, v7, v8, v9, v10]) (hF : HasB W F 54 [v0, v1, v2, v3, v4, v5, v6, v7, v8, v9, v10])
    (hG : HasB W (F + 1) 33 [.slice (some ⟨xb', 0, none⟩) 256 cB', .slice (some ⟨yb, 0, none⟩) 256 cU]) (rB : RowAt W (some ⟨xb', 0, none⟩) cB' B') (hE0 : D < E) (hF0 : E < F) (n1 : xb' ≠ g) (n2 : xb' ≠ A ∧ xb' ≠ X ∧ xb' ≠ D) :
    ∃ WD WA WX, (((((((((((W.setCell ⟨D, 0, none⟩ v0).setCell ⟨D, 1, none⟩ v1).setCell ⟨D, 2, none⟩ v2).setCell ⟨D, 3, none⟩ v3).setCell ⟨D, 4, none⟩ v4).setCell ⟨D, 5, none⟩ v5).setCell ⟨D, 6, none⟩ v6).setCell ⟨D, 7, none⟩ v7).setCell ⟨D, 8, none⟩ v8).setCell ⟨D, 9, none⟩ v9).setCell ⟨D, 10, none⟩ v10) = WD ∧ (((((((((((WD.setCell ⟨A, 0, none⟩ v0).setCell ⟨A, 1, none⟩ v1).setCell ⟨A, 2, none⟩ v2).setCell ⟨A, 3, none⟩ v3).setCell ⟨A, 4, none⟩ v4).setCell ⟨A, 5, none⟩ v5).setCell ⟨A, 6, none⟩ v6).setCell ⟨A, 7, none⟩ v7).setCell ⟨A, 8, none⟩ v8).setCell ⟨A, 9, none⟩ v9).setCell ⟨A, 10, none⟩ v10) = WA ∧ ((WA.setCell ⟨X, 0, none⟩ (.slice (some ⟨xb', 0, none⟩) 256 cB')).setCell ⟨X, 1, none⟩ (.slice (some ⟨yb, 0, none⟩) 256 cU)) = WX ∧
      (∃ a0 a1 a2 a3 a4 a5 a6 a7 a8 a9 a10, HasB W D 57 [a0, a1, a2, a3, a4, a5, a6, a7, a8, a9, a10] ∧ HasB WD A 54 [a0, a1, a2, a3, a4, a5, a6, a7, a8, a9, a10]) ∧ HasB WD F 54 [v0, v1, v2, v3, v4, v5, v6, v7, v8, v9, v10] ∧ HasB WA (F + 1) 33 [.slice (some ⟨xb', 0, none⟩) 256 cB', .slice (some ⟨yb, 0, none⟩) 256 cU] ∧ HasB WA X 33 [.slice (some ⟨xb, 0, none⟩) 256 cB, .slice (some ⟨yb, 0, none⟩) 256 cU] ∧ PlS w p g h A X D c' B1 B' xb' cB' yb cU WX := by
  obtain ⟨a0, a1, a2, a3, a4, a5, a6, a7, a8, a9, a10, ha⟩ := eleven oc
  have hd := s.d
  have hA := s.a
  rw [ha] at hd hA
  have hX := s.x
  have q := s.ax
  have q2 := s.n2
  refine ⟨_, _, _, rfl, rfl, rfl, ?_⟩
  generalize e1 : (((((((((((W.setCell ⟨D, 0, none⟩ v0).setCell ⟨D, 1, none⟩ v1).setCell ⟨D, 2, none⟩ v2).setCell ⟨D, 3, none⟩ v3).setCell ⟨D, 4, none⟩ v4).setCell ⟨D, 5, none⟩ v5).setCell ⟨D, 6, none⟩ v6).setCell ⟨D, 7, none⟩ v7).setCell ⟨D, 8, none⟩ v8).setCell ⟨D, 9, none⟩ v9).setCell ⟨D, 10, none⟩ v10) = WD
  have c1 : Chg D D W WD := by rw [← e1]; exact chg_set (chg_set (chg_set (chg_set (chg_set (chg_set (chg_set (chg_set (chg_set (chg_set (chg_set (Chg.refl _ _ _) _ (.inl rfl) _ _) _ (.inl rfl) _ _) _ (.inl rfl) _ _) _ (.inl rfl) _ _) _ (.inl rfl) _ _) _ (.inl rfl) _ _) _ (.inl rfl) _ _) _ (.inl rfl) _ _) _ (.inl rfl) _ _) _ (.inl rfl) _ _) _ (.inl rfl) _ _
  have d1 : HasB WD D 57 [v0, v1, v2, v3, v4, v5, v6, v7, v8, v9, v10] := by rw [← e1]; exact has_set (has_set (has_set (has_set (has_set (has_set (has_set (has_set (has_set (has_set (has_set (hd) 0 _) 1 _) 2 _) 3 _) 4 _) 5 _) 6 _) 7 _) 8 _) 9 _) 10 _
  have b1 := c1.below s.m.bel s.m.bel.size s.lo.2.2 s.lo.2.2
  have n3 := s.m.at_.own.ne hd (by decide)
  have n4 := s.m.at_.bytes.ne hd (by decide)
  have n5 := s.m.at_.zones.ne hd (by decide)
  have m1 := s.m.keep c1 b1 ⟨⟨n3, n4, n5⟩, ⟨n3, n4, n5⟩⟩
  have a1' := hA.chg c1 (by omega) (by omega)
  have f1 := hF.chg c1 (by omega) (by omega)
  have g1 := hG.chg c1 (by omega) (by omega)
  have x1 := hX.chg c1 (by omega) (by omega)
  have r1 := rB.chg c1 n2.2.2 n2.2.2
  have u1 := s.rU.chg c1 q2.2.2.2 q2.2.2.2
  generalize e2 : (((((((((((WD.setCell ⟨A, 0, none⟩ v0).setCell ⟨A, 1, none⟩ v1).setCell ⟨A, 2, none⟩ v2).setCell ⟨A, 3, none⟩ v3).setCell ⟨A, 4, none⟩ v4).setCell ⟨A, 5, none⟩ v5).setCell ⟨A, 6, none⟩ v6).setCell ⟨A, 7, none⟩ v7).setCell ⟨A, 8, none⟩ v8).setCell ⟨A, 9, none⟩ v9).setCell ⟨A, 10, none⟩ v10) = WA
  have c2 : Chg A A WD WA := by rw [← e2]; exact chg_set (chg_set (chg_set (chg_set (chg_set (chg_set (chg_set (chg_set (chg_set (chg_set (chg_set (Chg.refl _ _ _) _ (.inl rfl) _ _) _ (.inl rfl) _ _) _ (.inl rfl) _ _) _ (.inl rfl) _ _) _ (.inl rfl) _ _) _ (.inl rfl) _ _) _ (.inl rfl) _ _) _ (.inl rfl) _ _) _ (.inl rfl) _ _) _ (.inl rfl) _ _) _ (.inl rfl) _ _
  have a2' : HasB WA A 54 [v0, v1, v2, v3, v4, v5, v6, v7, v8, v9, v10] := by rw [← e2]; exact has_set (has_set (has_set (has_set (has_set (has_set (has_set (has_set (has_set (has_set (has_set (a1') 0 _) 1 _) 2 _) 3 _) 4 _) 5 _) 6 _) 7 _) 8 _) 9 _) 10 _
  have b2 := c2.below m1.bel m1.bel.size s.lo.1 s.lo.1
  have n3 := m1.at_.own.ne a1' (by decide)
  have n4 := m1.at_.bytes.ne a1' (by decide)
  have n5 := m1.at_.zones.ne a1' (by decide)
  have m2 := m1.keep c2 b2 ⟨⟨n3, n4, n5⟩, ⟨n3, n4, n5⟩⟩
  have d2 := d1.chg c2 (by omega) (by omega)
  have g2 := g1.chg c2 (by omega) (by omega)
  have x2 := x1.chg c2 (by omega) (by omega)
  have r2 := r1.chg c2 n2.1 n2.1
  have u2 := u1.chg c2 q2.2.1 q2.2.1
  generalize e3 : ((WA.setCell ⟨X, 0, none⟩ (.slice (some ⟨xb', 0, none⟩) 256 cB')).setCell ⟨X, 1, none⟩ (.slice (some ⟨yb, 0, none⟩) 256 cU)) = WX
  have c3 : Chg X X WA WX := by rw [← e3]; exact chg_set (chg_set (Chg.refl _ _ _) _ (.inl rfl) _ _) _ (.inl rfl) _ _
  have x3 : HasB WX X 33 [.slice (some ⟨xb', 0, none⟩) 256 cB', .slice (some ⟨yb, 0, none⟩) 256 cU] := by rw [← e3]; exact has_set (has_set (x2) 0 _) 1 _
  have b3 := c3.below m2.bel m2.bel.size s.lo.2.1 s.lo.2.1
  have n3 := m2.at_.own.ne x2 (by decide)
  have n4 := m2.at_.bytes.ne x2 (by decide)
  have n5 := m2.at_.zones.ne x2 (by decide)
  have m3 := m2.keep c3 b3 ⟨⟨n3, n4, n5⟩, ⟨n3, n4, n5⟩⟩
  exact ⟨⟨a0, a1, a2, a3, a4, a5, a6, a7, a8, a9, a10, hd, a1'⟩, f1, g2, x2, ⟨m3, by rw [hc]; exact a2'.chg c3 (by omega) (by omega), x3, by rw [hc]; exact d2.chg c3 (by omega) (by omega), r2.chg c3 n2.2.1 n2.2.1, u2.chg c3 q2.2.2.1 q2.2.2.1, ⟨n1, s.n1.2⟩, ⟨n2, q2.2⟩, s.lo, s.ax⟩⟩
end
set_option maxRecDepth 100000 in
theorem same_any {w : World} {p g h : Nat} {B : List Int} (m : MemAt w p g h B T4) (xb cB yb cU : Nat) (hB : B.length = 256) (rB : RowAt w (some ⟨xb, 0, none⟩) cB B) :
    Calls Try.prog 26 #[.pointer (some ⟨p, 0, none⟩), .agg #[.slice (some ⟨xb, 0, none⟩) 256 cB, .slice (some ⟨yb, 0, none⟩) 256 cU]] w fun e w' => e = .returned (.int .i64 1) ∧ Below w.heap.size w w' := by
  obtain ⟨A1, c1, eS, kS⟩ := cut_head rB 256 192 hB (by decide)
  have eS' : ∀ w, (Instr.slice 30 (.slice (some ⟨xb, 0, none⟩) 256 cB) none (some (.int .i64 192)) none).run Try.prog w = .ok (.slice A1 192 c1) w := eS
  have HKS := Lib.hid kS
  have HT : Hid ((B.take 192).length = 192) := Lib.hid (by rw [List.length_take, hB]; decide)
  have RB := Lib.hid rB
  have M := Lib.hid m
  clear eS kS rB m
  obtain ⟨W1, e1, k1, b1⟩ : ∃ W1, w.alloc (.cells #[.slice (some ⟨xb, 0, none⟩) 256 cB, .slice (some ⟨yb, 0, none⟩) 256 cU] 33) = W1 ∧ HasB W1 w.heap.size 33 [.slice (some ⟨xb, 0, none⟩) 256 cB, .slice (some ⟨yb, 0, none⟩) 256 cU] ∧ Below w.heap.size w W1 := ⟨_, rfl, HasB.newAt _ _ _ _ rfl, bel_al (Below.refl _ _) _⟩
  have K1 := Lib.hid k1
  have B1 := Lib.hid b1
  clear k1 b1
  go_enter Try.func26, Try.ntmps26
  go_wp2_with fail
  refine (read_i (M.out.below B1.out) 0 192 (T4_yes 0 192 (by decide))).mono ?_; rintro e w2 ⟨rfl, ra, b2⟩
  replace ra : HasB w2 W1.heap.size 5 ((B.take 192).map (Value.int .u8)) := ra
  have K2 := K1.out.below b2
  obtain ⟨⟨c0, c1'⟩, _⟩ := has2 K2
  have RB2 := (RB.out.below B1.out).below b2
  have BY : Bytes (B.take 192) := take_byte M.out.byte _
  have v1 : ∀ q, (convert 30 9 (.slice (some ⟨W1.heap.size, 0, none⟩) 192 192)).run Try.prog (w2.drewN q) = .ok (.string (strOfNums (B.take 192))) (w2.drewN q) := fun q => by
    have hr := (row_blk BY (by rw [HT.out]; decide) ra).below (below_drewN (Below.refl _ _) q)
    rw [HT.out] at hr
    exact conv_row hr 192 HT.out
  have v2 : ∀ q, (convert 30 9 (.slice A1 192 c1)).run Try.prog (w2.drewN q) = .ok (.string (strOfNums (B.take 192))) (w2.drewN q) := fun q => conv_row (HKS.out _ (RB2.below (below_drewN (Below.refl _ _) q))) 192 HT.out
  have BB := Lib.hid (bel_then B1.out b2)
  clear ra K2 RB2 BY e1 b2
  generalize strOfNums (B.take 192) = st at v1 v2
  go_wp2_with fail
  go_quiet (fail)
  go_wp2_with fail
  go_ret
  exact ⟨rfl, below_drewN BB.out _⟩
end Go.Proofs.Ytjcggpaiminecaa.Mm

namespace Go.Proofs.Ytjcggpaiminecaa.Mm
open Go.ChangeShapes Go.WideShapes Go.ChangeAt Go.RowKit
set_option linter.unusedVariables false

def PlRel (w : World) (p g h A X D yb cU : Nat) (i : Value) (w' : World) : Prop := ∃ (k : Nat) (c : Cp) (B : List Int) (xb cB : Nat), k ≤ 60 ∧ i = .int .i64 k ∧ c.Ok ∧ PlS w p g h A X D c B B xb cB yb cU w'
theorem splays_long (c : Cp) (o : c.Ok) (A : Option Addr) (n cap : Nat) (hn : 1000 < n) (w : World) :
    Calls Try.prog 4 #[c.val, .slice A n cap] w fun e w' => e = .returned (.bool true) ∧ Below w.heap.size w w' := by
  have hnI : decide (1000 < (n : Int)) = true := decide_eq_true (by omega)
  obtain ⟨r0, r1, r2, r3, r4, r5, r6, r7, hr⟩ := o.eight
  obtain ⟨pc, r, b, s⟩ := c
  simp only at hr
  subst hr
  rw [val_lit]
  go_enter Try.func4, Try.ntmps4
  go_wp2_with fail
  refine (awake4 _).mono ?_; rintro e w1 ⟨rfl, hb1⟩
  have HB1 := Lib.hid (bel_then (bel_al (Below.refl _ _) _) hb1)
  clear hb1
  go_wp2_with fail
  refine (awake4 _).mono ?_; rintro e w2 ⟨rfl, hb2⟩
  have HB2 := Lib.hid (bel_then HB1.out hb2)
  clear hb2
  go_wp2_with fail
  go_ret
  exact ⟨rfl, HB2.out⟩

set_option maxRecDepth 100000 in
set_option maxHeartbeats 8000000 in
theorem splays_n (pc r0 r1 r2 r3 r4 r5 r6 r7 b s : Int) (o : (⟨pc, [r0, r1, r2, r3, r4, r5, r6, r7], b, s⟩ : Cp).Ok) (A : Option Addr) (cap : Nat) (l : List Int) (n : Nat) (hl : l.length = n) (hn : n ≤ 1000) (w : World) (hr : RowAt w A cap l) :
    Calls Try.prog 4 #[Cp.val ⟨pc, [r0, r1, r2, r3, r4, r5, r6, r7], b, s⟩, .slice A n cap] w fun e w' => e = .returned (.bool true) ∧ Below w.heap.size w w' := by
  have hnI : decide (1000 < (n : Int)) = false := decide_eq_false (by omega)
  have HR := Lib.hid hr
  have HL := Lib.hid hl
  have HO := Lib.hid o
  obtain ⟨W0, e0, k0⟩ : ∃ W0, w.alloc (.cells #[.int .u32 pc, .int .u32 r0, .int .u32 r1, .int .u32 r2, .int .u32 r3, .int .u32 r4, .int .u32 r5, .int .u32 r6, .int .u32 r7, .int .u32 b, .int .u32 s] 54) = W0 ∧ HasB W0 w.heap.size 54 [.int .u32 pc, .int .u32 r0, .int .u32 r1, .int .u32 r2, .int .u32 r3, .int .u32 r4, .int .u32 r5, .int .u32 r6, .int .u32 r7, .int .u32 b, .int .u32 s] := ⟨_, rfl, HasB.newAt _ _ _ _ rfl⟩
  have b0 : Below w.heap.size w W0 := by rw [← e0]; exact bel_al (Below.refl _ _) _
  have K0 := Lib.hid k0
  have B0 := Lib.hid b0
  clear hr hl o k0 b0
  rw [val_lit]
  go_enter Try.func4, Try.ntmps4
  go_wp2_with fail
  refine (awake4 _).mono ?_; rintro e w1 ⟨rfl, hb1⟩
  have B1 := Lib.hid (bel_then B0.out hb1)
  have K1 := Lib.hid (K0.out.below hb1)
  clear hb1 e0 K0
  go_wp2_with fail
  have MA := made_any A cap l (by rw [HL.out]; exact hn) w1 (HR.out.below B1.out)
  rw [HL.out] at MA
  refine MA.mono ?_
  clear MA
  rintro e w2 ⟨p, g, h, xa, ca, yb, cU, rfl, sa, lpa⟩
  have K2 := Lib.hid (K1.out.below sa.m.bel)
  have SA := Lib.hid sa
  have hw1 := K1.out.lt
  clear sa
  obtain ⟨W3, e3, hx3, b3⟩ : ∃ W3, w2.alloc (.cells #[.slice (some ⟨xa, 0, none⟩) 256 ca, .slice (some ⟨yb, 0, none⟩) 256 cU] 33) = W3 ∧ HasB W3 w2.heap.size 33 [.slice (some ⟨xa, 0, none⟩) 256 ca, .slice (some ⟨yb, 0, none⟩) 256 cU] ∧ Below w2.heap.size w2 W3 := ⟨_, rfl, HasB.newAt _ _ _ _ rfl, bel_al (Below.refl _ _) _⟩
  have B3 := Lib.hid b3
  have K3 := K2.out.below b3
  have X3 := Lib.hid hx3
  obtain ⟨⟨k0, k1, k2, k3, k4, k5, k6, k7, k8, k9, k10⟩, _⟩ := has11 K3
  replace K3 := Lib.hid K3
  clear b3 hx3 K1 lpa
  go_wp2_with fail
  clear e3 k0 k1 k2 k3 k4 k5 k6 k7 k8 k9 k10
  refine (of_try pc r0 r1 r2 r3 r4 r5 r6 r7 b s W3).mono ?_; rintro e w4 ⟨rfl, hb4⟩
  obtain ⟨W5, e5, d5⟩ : ∃ W5, w4.alloc (.cells #[.int .u32 pc, .int .u32 r0, .int .u32 r1, .int .u32 r2, .int .u32 r3, .int .u32 r4, .int .u32 r5, .int .u32 r6, .int .u32 r7, .int .u32 b, .int .u32 s] 57) = W5 ∧ HasB W5 w4.heap.size 57 (#[.int .u32 pc, .int .u32 r0, .int .u32 r1, .int .u32 r2, .int .u32 r3, .int .u32 r4, .int .u32 r5, .int .u32 r6, .int .u32 r7, .int .u32 b, .int .u32 s] : Array Value).toList := ⟨_, rfl, HasB.newAt _ _ _ _ rfl⟩
  have b5 : Below w4.heap.size w4 W5 := by rw [← e5]; exact bel_al (Below.refl _ _) _
  have hxa : xa < w2.heap.size := by obtain ⟨y, hy, hlt, _⟩ := SA.out.rB.2.2.2 (by intro e; have := B4_len l; rw [e] at this; simp at this); injection hy with hy; subst hy; exact hlt
  have hyb : yb < w2.heap.size := by obtain ⟨_, _, y, hy, hlt, _⟩ := SA.out.rU; injection hy with hy; subst hy; exact hlt
  have P0 : PlS w p g h w.heap.size w2.heap.size w4.heap.size ⟨pc, [r0, r1, r2, r3, r4, r5, r6, r7], b, s⟩ (B4 l) (B4 l) xa ca yb cU W5 := by
    have b35 := bel_then hb4 b5
    have b25 := bel_then B3.out b35
    have q1 := SA.out.x
    have q2 := SA.out.y
    have q3 := SA.out.m.bel.size
    have q4 := X3.out.lt
    have q5 := hb4.size
    exact ⟨(SA.out.m.old B1.out).below b25, K3.out.below b35, X3.out.below b35, d5, SA.out.rB.below b25, SA.out.rU.below b25, ⟨SA.out.xg.1, SA.out.xg.2.2.1⟩, ⟨⟨by omega, by omega, by omega⟩, by omega, by omega, by omega⟩, ⟨by omega, by omega, by omega⟩, by omega, by omega, by omega⟩
  replace P0 := Lib.hid P0
  clear hb4 b5 d5 K3 X3 B3 SA K2 hxa hyb
  go_wp2_with fail
  clear e5
  have hA : w.heap.size < w2.heap.size := P0.out.ax.2.2
  generalize w4.heap.size = D at *
  generalize w2.heap.size = X at *
  go_loopw [8] (fun i w' => PlRel w p g h w.heap.size X D yb cU i w') (fun i _ => 60 - (intOf i).toNat)
  case atStart => exact ⟨0, _, _, _, _, by decide, rfl, HO.out, P0.out⟩
  case round =>
    obtain ⟨k, c, B, xb, cB, hk, rfl, ok, ps⟩ := hrel
    have PS := Lib.hid ps
    have OK := Lib.hid ok
    clear ps ok P0
    by_cases hk60 : k < 60
    · have kI : (k : Int) < 60 := by omega
      obtain ⟨x, hx⟩ : ∃ x, StepIs c B T4 x := step_or _ _ _
      have hok := step_ok OK.out PS.out.m.at_.byte PS.out.m.at_.len hx
      have hd := step_any PS.out.m.at_ OK.out hx
      obtain ⟨q0, q1, q2, q3, q4, q5, q6, q7, hq⟩ := OK.out.eight
      obtain ⟨t0, t1, t2, t3, t4, t5, t6, t7, ht⟩ := hok.1.eight
      have hcs : c.cs = [.int .u32 c.pc, .int .u32 q0, .int .u32 q1, .int .u32 q2, .int .u32 q3, .int .u32 q4, .int .u32 q5, .int .u32 q6, .int .u32 q7, .int .u32 c.b, .int .u32 c.s] := by unfold Cp.cs; rw [hq]; rfl
      have hval : c.val = .agg #[.int .u32 c.pc, .int .u32 q0, .int .u32 q1, .int .u32 q2, .int .u32 q3, .int .u32 q4, .int .u32 q5, .int .u32 q6, .int .u32 q7, .int .u32 c.b, .int .u32 c.s] := by unfold Cp.val; rw [hcs]
      have hxc : x.c.cs = [.int .u32 x.c.pc, .int .u32 t0, .int .u32 t1, .int .u32 t2, .int .u32 t3, .int .u32 t4, .int .u32 t5, .int .u32 t6, .int .u32 t7, .int .u32 x.c.b, .int .u32 x.c.s] := by unfold Cp.cs; rw [ht]; rfl
      have hxv : x.c.val = .agg #[.int .u32 x.c.pc, .int .u32 t0, .int .u32 t1, .int .u32 t2, .int .u32 t3, .int .u32 t4, .int .u32 t5, .int .u32 t6, .int .u32 t7, .int .u32 x.c.b, .int .u32 x.c.s] := by unfold Cp.val; rw [hxc]
      have hr := fun W (rB : RowAt W (some ⟨xb, 0, none⟩) cB B) (rU : BlAt W (some ⟨yb, 0, none⟩) cU U4) => rstep_any xb yb cB cU B (PS.out.m.at_.len) PS.out.m.at_.byte W rB rU OK.out hx
      have hcl : c.cs.length = 11 := Cp.cs_len OK.out
      have d0 := PS.out.d
      rw [hcs] at d0
      rw [hval] at hd hr
      have HCS := Lib.hid hcs
      have HXC := Lib.hid hxc
      have HXV := Lib.hid hxv
      have HD := Lib.hid hd
      have HRF := Lib.hid hr
      have HOK := Lib.hid hok
      have HCL := Lib.hid hcl
      obtain ⟨⟨k0, k1, k2, k3, k4, k5, k6, k7, k8, k9, k10⟩, _⟩ := has11 d0
      clear d0 hq ht hcs hval hxc hxv hd hr hok hcl hx
      go_wp2_with fail
      refine HD.out.mono ?_; rintro e w7 ⟨rfl, m7, c7⟩
      rw [HXV.out]
      have P7 := PS.out.step m7 c7
      obtain ⟨W8, e8, x8, o8, b8⟩ := boxC w7 #[.int .u32 x.c.pc, .int .u32 t0, .int .u32 t1, .int .u32 t2, .int .u32 t3, .int .u32 t4, .int .u32 t5, .int .u32 t6, .int .u32 t7, .int .u32 x.c.b, .int .u32 x.c.s] x.what x.gate
      have P8 := Lib.hid (P7.below b8)
      have E8 := Lib.hid x8
      have O8 := Lib.hid o8
      have hE0 : D < w7.heap.size := P7.lts.2.2.2
      have hlt8 := Lib.hid P8.out.lts
      have hE8 : w7.heap.size + 1 < W8.heap.size := o8.lt
      clear P7 m7 c7 x8 o8 b8 HD k0 k1 k2 k3 k4 k5 k6 k7 k8 k9 k10
      have a8 := P8.out.a
      rw [HCS.out] at a8
      obtain ⟨⟨k0, k1, k2, k3, k4, k5, k6, k7, k8, k9, k10⟩, _⟩ := has11 a8
      obtain ⟨⟨m0, m1⟩, _⟩ := has2 P8.out.x
      clear a8
      go_wp2_with fail
      clear e8 k0 k1 k2 k3 k4 k5 k6 k7 k8 k9 k10 m0 m1
      generalize w7.heap.size = E at *
      refine (HRF.out _ P8.out.rB P8.out.rU).mono ?_; rintro e w9 ⟨xb', cB', rfl, r9, b9, hx9⟩
      rw [HXV.out]
      obtain ⟨W10, e10, f10, g10, b10⟩ : ∃ W10, (w9.alloc (.cells #[.int .u32 x.c.pc, .int .u32 t0, .int .u32 t1, .int .u32 t2, .int .u32 t3, .int .u32 t4, .int .u32 t5, .int .u32 t6, .int .u32 t7, .int .u32 x.c.b, .int .u32 x.c.s] 54)).alloc (.cells #[.slice (some ⟨xb', 0, none⟩) 256 cB', .slice (some ⟨yb, 0, none⟩) 256 cU] 33) = W10 ∧ HasB W10 w9.heap.size 54 [.int .u32 x.c.pc, .int .u32 t0, .int .u32 t1, .int .u32 t2, .int .u32 t3, .int .u32 t4, .int .u32 t5, .int .u32 t6, .int .u32 t7, .int .u32 x.c.b, .int .u32 x.c.s] ∧ HasB W10 (w9.heap.size + 1) 33 [.slice (some ⟨xb', 0, none⟩) 256 cB', .slice (some ⟨yb, 0, none⟩) 256 cU] ∧ Below w9.heap.size w9 W10 :=
        ⟨_, rfl, (HasB.newAt w9 _ _ #[.int .u32 x.c.pc, .int .u32 t0, .int .u32 t1, .int .u32 t2, .int .u32 t3, .int .u32 t4, .int .u32 t5, .int .u32 t6, .int .u32 t7, .int .u32 x.c.b, .int .u32 x.c.s] rfl).al _, HasB.newAt _ _ _ #[.slice (some ⟨xb', 0, none⟩) 256 cB', .slice (some ⟨yb, 0, none⟩) 256 cU] (by simp), bel_al (bel_al (Below.refl _ _) _) _⟩
      have b8_10 := bel_then b9 b10
      have P10 := Lib.hid (P8.out.below b8_10)
      have E10 := Lib.hid (E8.out.below b8_10)
      have O10 := Lib.hid (O8.out.below b8_10)
      have F10 := Lib.hid f10
      have G10 := Lib.hid g10
      have R10 := Lib.hid (r9.below b10)
      have hF0 : E + 1 < w9.heap.size := Nat.lt_of_lt_of_le hE8 b9.size
      have hn1 : xb' ≠ g ∧ (xb' ≠ w.heap.size ∧ xb' ≠ X ∧ xb' ≠ D) := by
        rcases hx9 with rfl | hx9
        · exact ⟨P10.out.n1.1, P10.out.n2.1⟩
        · have := hlt8.out
          exact ⟨by omega, by omega, by omega, by omega⟩
      have HN1 := Lib.hid hn1
      clear f10 g10 r9 b9 b10 b8_10 hn1 hx9 hlt8 hE8 P8 E8 O8
      go_wp2_with fail
      clear e10
      generalize w9.heap.size = F at *
      obtain ⟨⟨k0, k1, k2, k3, k4, k5, k6, k7, k8, k9, k10⟩, _⟩ := has11 E10.out
      obtain ⟨⟨o0, o1⟩, _⟩ := has2 O10.out
      obtain ⟨⟨l0, l1, l2, l3, l4, l5, l6, l7, l8, l9, l10⟩, _⟩ := has11 F10.out
      have E8 := fun w => eq8 t0 t1 t2 t3 t4 t5 t6 t7 w
      have KE := Lib.hid (E10.out.below (Below.refl _ _).drew)
      have KO := Lib.hid (O10.out.below (Below.refl _ _).drew)
      go_upto_region 10 with fail
      go_cut [63] from 48 to 63 (fun s63 wx => s63 = .bool false ∧ Below W10.heap.size W10 wx)
      case first =>
        go_region_with (first | (go_at_call 23; (with_reducible refine (of_try x.c.pc t0 t1 t2 t3 t4 t5 t6 t7 x.c.b x.c.s _).mono ?_); rintro e wq ⟨rfl, hbq⟩; have KE2 := HasB.below (w := W10.drew) KE.out hbq; have KO2 := HasB.below (w := W10.drew) KO.out hbq; obtain ⟨⟨j0, j1, j2, j3, j4, j5, j6, j7, j8, j9, j10⟩, _⟩ := has11 KE2; obtain ⟨⟨i0, i1⟩, _⟩ := has2 KO2; have HBQ := Lib.hid (show Below W10.heap.size W10 wq from bel_then (Below.refl _ _).drew hbq); clear KE2 KO2 hbq))
        all_goals go_wp2_with fail
        all_goals go_meet
        all_goals exact ⟨rfl, HBQ.out⟩
      case rest =>
        obtain ⟨rfl, hbc⟩ := hcut
        have PW := P10.out.below hbc
        have EW := E10.out.below hbc
        have FW := F10.out.below hbc
        have GW := G10.out.below hbc
        have RW := R10.out.below hbc
        obtain ⟨WD, WA, WX, eD, eA, eX, ⟨a0, a1, a2, a3, a4, a5, a6, a7, a8, a9, a10, hd, ha⟩, hF, hG, hX, ps⟩ := pl_worlds PW HCL.out HXC.out EW FW GW RW hE0 (by omega) HN1.out.1 HN1.out.2
        clear k0 k1 k2 k3 k4 k5 k6 k7 k8 k9 k10 o0 o1 l0 l1 l2 l3 l4 l5 l6 l7 l8 l9 l10
        obtain ⟨⟨k0, k1, k2, k3, k4, k5, k6, k7, k8, k9, k10⟩, _⟩ := has11 EW
        obtain ⟨⟨d0, d1, d2, d3, d4, d5, d6, d7, d8, d9, d10⟩, ⟨fd0, fd1, fd2, fd3, fd4, fd5, fd6, fd7, fd8, fd9, fd10⟩⟩ := has11 hd
        obtain ⟨⟨l0, l1, l2, l3, l4, l5, l6, l7, l8, l9, l10⟩, _⟩ := has11 hF
        obtain ⟨⟨m0, m1, m2, m3, m4, m5, m6, m7, m8, m9, m10⟩, ⟨fm0, fm1, fm2, fm3, fm4, fm5, fm6, fm7, fm8, fm9, fm10⟩⟩ := has11 ha
        obtain ⟨⟨o0, o1⟩, _⟩ := has2 hG
        obtain ⟨⟨n0, n1⟩, ⟨fn0, fn1⟩⟩ := has2 hX
        have PN := Lib.hid ps
        clear PW EW FW GW RW hd ha hF hG hX ps hbc E8 KE KO
        have hwhat := HOK.out.2.1
        have HWH := Lib.hid hwhat
        clear hwhat
        by_cases z0 : x.what = 0 ∨ x.what = 2
        · have HB3 : (x.what != 0) = false ∨ ((x.what != 0) = true ∧ (x.what != 2) = false) := by
            rcases z0 with h | h
            · exact .inl (by rw [h]; rfl)
            · exact .inr (by rw [h]; exact ⟨rfl, rfl⟩)
          clear z0
          rcases HB3 with z1 | ⟨z1, z2⟩
          all_goals
            go_wp2_with fail
            go_roundw
            case rel => exact ⟨k + 1, x.c, x.B, xb', cB', hk60, by go_num, HOK.out.1, PN.out⟩
            case measure => simp [intOf]; omega
        · have z1 : (x.what != 0) = true := by rw [bne_iff_ne]; exact fun h => z0 (.inl h)
          have z2 : (x.what != 2) = true := by rw [bne_iff_ne]; exact fun h => z0 (.inr h)
          clear z0
          obtain ⟨⟨g0, g1⟩, _⟩ := has2 PN.out.x
          go_wp2_with fail
          refine (same_any PN.out.m.at_ xb' cB' yb cU PN.out.m.at_.len PN.out.rB).mono ?_; rintro e we ⟨rfl, hbe⟩
          go_wp2_with fail
          go_ret
          exact ⟨rfl, bel_then PN.out.m.bel hbe⟩
    · obtain ⟨⟨m0, m1⟩, _⟩ := has2 PS.out.x
      have k60 : (60 : Int) ≤ (k : Int) := by omega
      go_wp2_with fail
      refine (same_any PS.out.m.at_ xb cB yb cU PS.out.m.at_.len PS.out.rB).mono ?_; rintro e we ⟨rfl, hbe⟩
      go_wp2_with fail
      go_ret
      exact ⟨rfl, bel_then PS.out.m.bel hbe⟩

theorem stepPlays_walk (c : Cp) (A : Option Addr) (cap : Nat) (l : List Int) (w : World) (o : c.Ok) (hr : RowAt w A cap l) :
    Calls Try.prog 4 #[c.val, .slice A l.length cap] w fun e w' => e = .returned (.bool true) ∧ Below w.heap.size w w' := by
  by_cases h : 1000 < l.length
  · exact splays_long c o A _ cap h w
  · obtain ⟨r0, r1, r2, r3, r4, r5, r6, r7, hx⟩ := o.eight
    obtain ⟨pc, r, b, s⟩ := c
    simp only at hx
    subst hx
    exact splays_n pc r0 r1 r2 r3 r4 r5 r6 r7 b s o A cap l _ rfl (by omega) w hr
end Go.Proofs.Ytjcggpaiminecaa.Mm
