/- Safe code in its region, as the statement VerifySafe runs it: the memory, the processor, what was read. -/
import Derived.Test.YtinehmagkdgiiaaStD
import Derived.Test.YtinehmagkdgiiaaMeR
import Derived.Test.YtinehmagkdgiiaaGoB
import Derived.Test.YtinehmagkdgiiaaVerMath2
namespace Go.Proofs.Ytinehmagkdgiiaa.Mm
open Go.ChangeShapes Go.WideShapes Go.ChangeAt Go.RowKit
set_option linter.unusedVariables false

theorem has_pass {w w' : World} {p g h k : Nat} {B : List Int} {T : List Bool} {t : TypeId} {cs : List Value} (x : HasB w k t cs) (m : MemAt w p g h B T) (c : Chg g g w w') (ht : t ≠ 5) : HasB w' k t cs :=
  x.chg c (x.ne m.bytes ht) (x.ne m.bytes ht)
theorem box_c (w : World) (vs : Array Value) (wh ga : Int) : ∃ W, (w.alloc (.cells vs 47)).alloc (.cells #[.int .i64 wh, .int .i64 ga] 51) = W ∧ HasB W w.heap.size 47 vs.toList ∧ HasB W (w.heap.size + 1) 51 [.int .i64 wh, .int .i64 ga] ∧ Below w.heap.size w W :=
  ⟨_, rfl, (HasB.newAt w _ _ vs rfl).al _, HasB.newAt _ _ _ _ (by simp), bel_al (bel_al (Below.refl _ _) _) _⟩
theorem mst_keep {w0 w w' : World} {p g h x : Nat} {B : List Int} {T : List Bool} (s : MSt w0 p g h B T w) (c : Chg x x w w') (b : Below w0.heap.size w0 w') (d : p ≠ x ∧ g ≠ x ∧ h ≠ x) : MSt w0 p g h B T w' :=
  ⟨⟨s.at_.own.chg c d.1 d.1, s.at_.bytes.chg c d.2.1 d.2.1, s.at_.zones.chg c d.2.2 d.2.2, s.at_.len, s.at_.pos, s.at_.top, s.at_.byte⟩, s.p_, s.g_, s.h_, b⟩
theorem IntRow.chg {w w' : World} {A : Option Addr} {c g : Nat} {l : List Int} {t : TypeId} {cs : List Value} (r : IntRow w A c l) (hb : HasB w g t cs) (hcs : ∀ n : Int, Value.int .i64 n ∉ cs) (k : Chg g g w w') : IntRow w' A c l := by
  refine ⟨r.1, r.2.1, fun hne => ?_⟩
  obtain ⟨p, hA, hp, hc⟩ := r.2.2 hne
  have h0 := hc 0 (List.length_pos_iff.2 hne)
  have hpb : p.block ≠ g := by
    have := cell_apart hb h0 (hcs _)
    rwa [block_add] at this
  refine ⟨p, hA, Nat.lt_of_lt_of_le hp k.size, fun i hi => ?_⟩
  have he : w'.cell? (p.add i) = w.cell? (p.add i) := by
    unfold World.cell?
    rw [k.block _ (by rw [block_add]; exact hp) (by rw [block_add]; exact hpb) (by rw [block_add]; exact hpb)]
  exact he.trans (hc i hi)
theorem u8_noint (L : List Int) (n : Int) : Value.int .i64 n ∉ L.map (Value.int .u8) := by
  intro h
  obtain ⟨x, _, e⟩ := List.mem_map.1 h
  cases e
theorem cs_noint {c : Cp} (o : c.Ok) (n : Int) : Value.int .i64 n ∉ c.cs := by
  obtain ⟨r0, r1, r2, r3, r4, r5, r6, r7, hr⟩ := o.eight
  unfold Cp.cs
  rw [hr]
  simp

/-- in a round's head -/
structure VsS (w : World) (p g h D wa z : Nat) (A : Option Addr) (cc : Nat) (L : List Int) (B0 : List Int) (c : Cp) (B : List Int) (W : World) : Prop where
  m : MSt w p g h B (List.replicate z true) W
  d : HasB W D 47 c.cs
  ra : HasB W wa 5 (B0.map (Value.int .u8))
  row : IntRow W A cc L
  lo : w.heap.size ≤ D
  gw : g < wa
/-- behind the step -/
structure VsT (w : World) (p g h D E wa z : Nat) (A : Option Addr) (cc : Nat) (L : List Int) (B0 : List Int) (c : Cp) (x : Ou) (W : World) : Prop where
  m : MSt w p g h x.B (List.replicate z true) W
  d : HasB W D 47 c.cs
  e : HasB W E 47 x.c.cs
  eo : HasB W (E + 1) 51 [.int .i64 x.what, .int .i64 x.gate]
  ra : HasB W wa 5 (B0.map (Value.int .u8))
  row : IntRow W A cc L
  lo : w.heap.size ≤ D
  gw : g < wa
section
variable {w W W' : World} {p g h D E wa z cc : Nat} {A : Option Addr} {L B0 B : List Int} {c : Cp} {x : Ou}
theorem VsS.below (s : VsS w p g h D wa z A cc L B0 c B W) (b : Below W.heap.size W W') : VsS w p g h D wa z A cc L B0 c B W' := ⟨s.m.below b, s.d.below b, s.ra.below b, s.row.below b, s.lo, s.gw⟩
theorem VsT.below (t : VsT w p g h D E wa z A cc L B0 c x W) (b : Below W.heap.size W W') : VsT w p g h D E wa z A cc L B0 c x W' := ⟨t.m.below b, t.d.below b, t.e.below b, t.eo.below b, t.ra.below b, t.row.below b, t.lo, t.gw⟩
/-- the step: what it leaves, and its two results boxed -/
theorem VsS.step (s : VsS w p g h D wa z A cc L B0 c B W) (m : MemAt W' p g h x.B (List.replicate z true)) (k : Chg g g W W') (vs : Array Value) (hv : vs.toList = x.c.cs) :
    ∃ W8, (W'.alloc (.cells vs 47)).alloc (.cells #[.int .i64 x.what, .int .i64 x.gate] 51) = W8 ∧ VsT w p g h D W'.heap.size wa z A cc L B0 c x W8 := by
  obtain ⟨W8, e8, x8, o8, b8⟩ := box_c W' vs x.what x.gate
  rw [hv] at x8
  have hne : wa ≠ g := by have := s.gw; omega
  exact ⟨W8, e8, (s.m.chg m k.wide).below b8, (has_pass s.d s.m.at_ k (by decide)).below b8, x8, o8, (s.ra.chg k hne hne).below b8, (s.row.chg s.m.at_.bytes (u8_noint _) k).below b8, s.lo, s.gw⟩
theorem VsT.put (t : VsT w p g h D E wa z A cc L B0 c x W) (o : c.Ok) (v0 v1 v2 v3 v4 v5 v6 v7 v8 v9 v10 : Value) (hx : x.c.cs = [v0, v1, v2, v3, v4, v5, v6, v7, v8, v9, v10]) :
    VsT w p g h D E wa z A cc L B0 x.c x (((((((((((W.setCell ⟨D, 0, none⟩ v0).setCell ⟨D, 1, none⟩ v1).setCell ⟨D, 2, none⟩ v2).setCell ⟨D, 3, none⟩ v3).setCell ⟨D, 4, none⟩ v4).setCell ⟨D, 5, none⟩ v5).setCell ⟨D, 6, none⟩ v6).setCell ⟨D, 7, none⟩ v7).setCell ⟨D, 8, none⟩ v8).setCell ⟨D, 9, none⟩ v9).setCell ⟨D, 10, none⟩ v10) := by
  have c1 : Chg D D W (((((((((((W.setCell ⟨D, 0, none⟩ v0).setCell ⟨D, 1, none⟩ v1).setCell ⟨D, 2, none⟩ v2).setCell ⟨D, 3, none⟩ v3).setCell ⟨D, 4, none⟩ v4).setCell ⟨D, 5, none⟩ v5).setCell ⟨D, 6, none⟩ v6).setCell ⟨D, 7, none⟩ v7).setCell ⟨D, 8, none⟩ v8).setCell ⟨D, 9, none⟩ v9).setCell ⟨D, 10, none⟩ v10) := chg_set (chg_set (chg_set (chg_set (chg_set (chg_set (chg_set (chg_set (chg_set (chg_set (chg_set (Chg.refl _ _ _) _ (.inl rfl) _ _) _ (.inl rfl) _ _) _ (.inl rfl) _ _) _ (.inl rfl) _ _) _ (.inl rfl) _ _) _ (.inl rfl) _ _) _ (.inl rfl) _ _) _ (.inl rfl) _ _) _ (.inl rfl) _ _) _ (.inl rfl) _ _) _ (.inl rfl) _ _
  have b1 := c1.below t.m.bel t.m.bel.size t.lo t.lo
  have hd := t.d
  obtain ⟨a0, a1, a2, a3, a4, a5, a6, a7, a8, a9, a10, ha⟩ : ∃ a0 a1 a2 a3 a4 a5 a6 a7 a8 a9 a10, c.cs = [a0, a1, a2, a3, a4, a5, a6, a7, a8, a9, a10] := by
    have hl := Cp.cs_len o
    generalize c.cs = L at hl
    match L, hl with
    | [a0, a1, a2, a3, a4, a5, a6, a7, a8, a9, a10], _ => exact ⟨_, _, _, _, _, _, _, _, _, _, _, rfl⟩
  have hrow := t.row.chg t.d (cs_noint o) c1
  rw [ha] at hd
  have n1 := t.m.at_.own.ne hd (by decide)
  have n2 := t.m.at_.bytes.ne hd (by decide)
  have n3 := t.m.at_.zones.ne hd (by decide)
  have n4 := t.ra.ne hd (by decide)
  have n5 := t.eo.ne hd (by decide)
  have hE : E ≠ D ∨ E = D := by omega
  exact ⟨mst_keep t.m c1 b1 ⟨n1, n2, n3⟩, by rw [hx]; exact has_set (has_set (has_set (has_set (has_set (has_set (has_set (has_set (has_set (has_set (has_set (hd) 0 _) 1 _) 2 _) 3 _) 4 _) 5 _) 6 _) 7 _) 8 _) 9 _) 10 _, by
    rcases hE with hE | rfl
    · exact t.e.chg c1 hE hE
    · rw [hx]; exact has_set (has_set (has_set (has_set (has_set (has_set (has_set (has_set (has_set (has_set (has_set (hd) 0 _) 1 _) 2 _) 3 _) 4 _) 5 _) 6 _) 7 _) 8 _) 9 _) 10 _, t.eo.chg c1 n5 n5, t.ra.chg c1 n4 n4, hrow, t.lo, t.gw⟩
theorem VsT.s (t : VsT w p g h D E wa z A cc L B0 x.c x W) : VsS w p g h D wa z A cc L B0 x.c x.B W := ⟨t.m, t.d, t.ra, t.row, t.lo, t.gw⟩
end
end Go.Proofs.Ytinehmagkdgiiaa.Mm
