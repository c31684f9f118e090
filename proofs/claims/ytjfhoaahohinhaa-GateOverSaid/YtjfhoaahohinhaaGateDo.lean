/- Package gate as it landed: Do: what all ways have in common. -/
import Derived.Test.YtjfhoaahohinhaaGateCodeB
import Derived.Test.YtjfhoaahohinhaaMeR
import Derived.Test.YtjfhoaahohinhaaGateBld
namespace Go.Proofs.Ytjfhoaahohinhaa.Mm
open Go.ChangeShapes Go.WideShapes Go.ChangeAt Go.RowKit
set_option linter.unusedVariables false
set_option linter.unusedSimpArgs false

structure GdS (w : World) (cs ds : List Value) (W : World) : Prop where
  c : HasB W w.heap.size 35 cs
  d : HasB W (w.heap.size + 1) 40 ds
  rc : HasB W (w.heap.size + 1 + 1) 35 [.int .u32 0, .int .u32 0, .int .u32 0, .int .u32 0, .int .u32 0, .int .u32 0, .int .u32 0, .int .u32 0, .int .u32 0, .int .u32 0, .int .u32 0]
  rd : HasB W (w.heap.size + 1 + 1 + 1) 40 [.slice none 0 0, .int .i64 0, .slice none 0 0, .bool false, .int .u32 0]
  bel : Below w.heap.size w W
theorem GdS.below {w W W' : World} {cs ds : List Value} (k : GdS w cs ds W) (hb : Below W.heap.size W W') : GdS w cs ds W' :=
  ⟨k.c.below hb, k.d.below hb, k.rc.below hb, k.rd.below hb, bel_then k.bel hb⟩
theorem GdS.lt {w W : World} {cs ds : List Value} (k : GdS w cs ds W) : w.heap.size + 4 ≤ W.heap.size := by have := k.rd.lt; omega
theorem GdS.new (w : World) (cs ds : List Value) :
    ∃ W, (((w.alloc (.cells cs.toArray 35)).alloc (.cells ds.toArray 40)).alloc (.cells #[.int .u32 0, .int .u32 0, .int .u32 0, .int .u32 0, .int .u32 0, .int .u32 0, .int .u32 0, .int .u32 0, .int .u32 0, .int .u32 0, .int .u32 0] 35)).alloc (.cells #[.slice none 0 0, .int .i64 0, .slice none 0 0, .bool false, .int .u32 0] 40) = W ∧ GdS w cs ds W := by
  refine ⟨_, rfl, ⟨?_, ?_, ?_, ?_, bel_al (bel_al (bel_al (bel_al (Below.refl _ _) _) _) _) _⟩⟩
  · exact (((HasB.new w _ cs).al _).al _).al _
  · exact (((HasB.newAt _ _ _ ds.toArray (by simp)).al _).al _)
  · exact ((HasB.newAt _ _ _ #[.int .u32 0, .int .u32 0, .int .u32 0, .int .u32 0, .int .u32 0, .int .u32 0, .int .u32 0, .int .u32 0, .int .u32 0, .int .u32 0, .int .u32 0] (by simp)).al _)
  · exact HasB.newAt _ _ _ #[.slice none 0 0, .int .i64 0, .slice none 0 0, .bool false, .int .u32 0] (by simp)
theorem GdS.setC {w W : World} {cs ds : List Value} (k : GdS w cs ds W) (i : Nat) (v : Value) :
    ∃ W', W.setCell ⟨w.heap.size, i, none⟩ v = W' ∧ GdS w (cs.set i v) ds W' ∧ Chg w.heap.size w.heap.size W W' := by
  have c : Chg w.heap.size w.heap.size W (W.setCell ⟨w.heap.size, i, none⟩ v) := chg_set (Chg.refl _ _ _) _ (.inl rfl) _ _
  exact ⟨_, rfl, ⟨has_set k.c i v, k.d.chg c (by omega) (by omega), k.rc.chg c (by omega) (by omega), k.rd.chg c (by omega) (by omega), c.below k.bel k.bel.size (by omega) (by omega)⟩, c⟩
theorem GdS.setD {w W : World} {cs ds : List Value} (k : GdS w cs ds W) (i : Nat) (v : Value) :
    ∃ W', W.setCell ⟨w.heap.size + 1, i, none⟩ v = W' ∧ GdS w cs (ds.set i v) W' ∧ Chg (w.heap.size + 1) (w.heap.size + 1) W W' := by
  have c : Chg (w.heap.size + 1) (w.heap.size + 1) W (W.setCell ⟨w.heap.size + 1, i, none⟩ v) := chg_set (Chg.refl _ _ _) _ (.inl rfl) _ _
  exact ⟨_, rfl, ⟨k.c.chg c (by omega) (by omega), has_set k.d i v, k.rc.chg c (by omega) (by omega), k.rd.chg c (by omega) (by omega), c.below k.bel k.bel.size (by omega) (by omega)⟩, c⟩
theorem gst16 {w W : World} (bel : Below w.heap.size w W) (v0 v1 v2 v3 v4 v5 v6 v7 v8 v9 v10 u0 u1 u2 u3 u4 : Value) :
    let w' := ((((((((((((((((W.setCell ⟨w.heap.size + 1 + 1, 0, none⟩ v0).setCell ⟨w.heap.size + 1 + 1, 1, none⟩ v1).setCell ⟨w.heap.size + 1 + 1, 2, none⟩ v2).setCell ⟨w.heap.size + 1 + 1, 3, none⟩ v3).setCell ⟨w.heap.size + 1 + 1, 4, none⟩ v4).setCell ⟨w.heap.size + 1 + 1, 5, none⟩ v5).setCell ⟨w.heap.size + 1 + 1, 6, none⟩ v6).setCell ⟨w.heap.size + 1 + 1, 7, none⟩ v7).setCell ⟨w.heap.size + 1 + 1, 8, none⟩ v8).setCell ⟨w.heap.size + 1 + 1, 9, none⟩ v9).setCell ⟨w.heap.size + 1 + 1, 10, none⟩ v10).setCell ⟨w.heap.size + 1 + 1 + 1, 0, none⟩ u0).setCell ⟨w.heap.size + 1 + 1 + 1, 1, none⟩ u1).setCell ⟨w.heap.size + 1 + 1 + 1, 2, none⟩ u2).setCell ⟨w.heap.size + 1 + 1 + 1, 3, none⟩ u3).setCell ⟨w.heap.size + 1 + 1 + 1, 4, none⟩ u4)
    Chg (w.heap.size + 1 + 1) (w.heap.size + 1 + 1 + 1) W w'.drew ∧ Below w.heap.size w w'.drew := by
  intro w'
  have c1 : Chg (w.heap.size + 1 + 1) (w.heap.size + 1 + 1 + 1) W w' := chg_set (chg_set (chg_set (chg_set (chg_set (chg_set (chg_set (chg_set (chg_set (chg_set (chg_set (chg_set (chg_set (chg_set (chg_set (chg_set (Chg.refl _ _ _) _ (.inl rfl) _ _) _ (.inl rfl) _ _) _ (.inl rfl) _ _) _ (.inl rfl) _ _) _ (.inl rfl) _ _) _ (.inl rfl) _ _) _ (.inl rfl) _ _) _ (.inl rfl) _ _) _ (.inl rfl) _ _) _ (.inl rfl) _ _) _ (.inl rfl) _ _) _ (.inr rfl) _ _) _ (.inr rfl) _ _) _ (.inr rfl) _ _) _ (.inr rfl) _ _) _ (.inr rfl) _ _
  have c2 := chg_drew c1
  exact ⟨c2, c2.below bel bel.size (by omega) (by omega)⟩
theorem has11G {w : World} {g : Nat} {t : TypeId} {v0 v1 v2 v3 v4 v5 v6 v7 v8 v9 v10 : Value} (k : HasB w g t [v0, v1, v2, v3, v4, v5, v6, v7, v8, v9, v10]) :
    (w.cell? ⟨g, 0, none⟩ = some v0 ∧ w.cell? ⟨g, 1, none⟩ = some v1 ∧ w.cell? ⟨g, 2, none⟩ = some v2 ∧ w.cell? ⟨g, 3, none⟩ = some v3 ∧ w.cell? ⟨g, 4, none⟩ = some v4 ∧ w.cell? ⟨g, 5, none⟩ = some v5 ∧ w.cell? ⟨g, 6, none⟩ = some v6 ∧ w.cell? ⟨g, 7, none⟩ = some v7 ∧ w.cell? ⟨g, 8, none⟩ = some v8 ∧ w.cell? ⟨g, 9, none⟩ = some v9 ∧ w.cell? ⟨g, 10, none⟩ = some v10) ∧
    (w.frozen? ⟨g, 0, none⟩ = false ∧ w.frozen? ⟨g, 1, none⟩ = false ∧ w.frozen? ⟨g, 2, none⟩ = false ∧ w.frozen? ⟨g, 3, none⟩ = false ∧ w.frozen? ⟨g, 4, none⟩ = false ∧ w.frozen? ⟨g, 5, none⟩ = false ∧ w.frozen? ⟨g, 6, none⟩ = false ∧ w.frozen? ⟨g, 7, none⟩ = false ∧ w.frozen? ⟨g, 8, none⟩ = false ∧ w.frozen? ⟨g, 9, none⟩ = false ∧ w.frozen? ⟨g, 10, none⟩ = false) :=
  ⟨⟨k.cell 0, k.cell 1, k.cell 2, k.cell 3, k.cell 4, k.cell 5, k.cell 6, k.cell 7, k.cell 8, k.cell 9, k.cell 10⟩, ⟨k.frozen 0, k.frozen 1, k.frozen 2, k.frozen 3, k.frozen 4, k.frozen 5, k.frozen 6, k.frozen 7, k.frozen 8, k.frozen 9, k.frozen 10⟩⟩
/-- what 'with' answers -/
def WithP (w' : World) (tr : List Ev) (k : Nat) (x : Ev) (e : Ending) (w'' : World) : Prop :=
  ∃ g cap', e = .returned (.slice (some ⟨g, 0, none⟩) (k + 1) cap') ∧ EvRow w'' (some ⟨g, 0, none⟩) cap' (tr ++ [x]) ∧ Below w'.heap.size w' w'' ∧ w'.heap.size ≤ g
end Go.Proofs.Ytjfhoaahohinhaa.Mm
