/- The document's own gate: gate none. -/
import Derived.Test.YtbgnkljeodandaaGreatLBxS
import Derived.Test.YtbgnkljeodandaaGreatLBrG
import Derived.Maps.AppendAt
namespace Go.Proofs.YtbgnkljeodandaaGreat.Mm
open Go.ChangeShapes Go.WideShapes Go.ChangeAt Go.RowKit
set_option linter.unusedVariables false
set_option linter.unusedSimpArgs false

theorem rev_info : (Tryz.prog.info? 117).map (fun i => (i.zero, i.size, i.bytes)) = some (some (.agg #[.int .i64 0, .int .u32 0]), 2, 16) := by kernel_rfl
theorem rev_of_own {T : TypeId} {w : World} {base n : Nat} {v : Value} {L : List Ev} (h : w.ownsRow base T 2 v n (L.flatMap evC)) (hw : ∀ x ∈ L, evWf x) : ∃ A cap, v = .slice A n cap ∧ n = L.length ∧ EvRow w A cap L := by
  have hl : L.length = n := by have := h.1; rw [flatV_len] at this; omega
  rcases h.2 with ⟨rfl, rfl⟩ | ⟨g, cap, cur, rfl, _, hh, hc, hm, _⟩
  · have : L = [] := List.eq_nil_of_length_eq_zero hl
    subst this
    exact ⟨none, 0, rfl, rfl, evRow_nil w⟩
  · refine ⟨_, cap, rfl, hl.symm, by omega, hm, hw, fun hne => ⟨_, rfl, (h.lt g rfl).2, fun i hi => ?_⟩⟩
    have key : ∀ j, j < 2 → w.cell? ⟨g, i * 2 + j, none⟩ = (evC (L.getD i (0, 0)))[j]? := fun j hj => by
      have e := flatV_get L i hi j hj
      have hs : ∃ u, (evC (L.getD i (0, 0)))[j]? = some u := ⟨_, List.getElem?_eq_getElem (show j < (evC _).length from hj)⟩
      obtain ⟨u, hu⟩ := hs
      rw [hu] at e ⊢
      have := h.cells (g := g) rfl _ u e
      rw [addr0V] at this
      exact this
    rw [addr0V]
    exact ⟨key 0 (by decide), key 1 (by decide)⟩
theorem rev_cells {w : World} {p : Addr} {M : List Ev} (h : ∀ i, i < M.length → EvAt w (p.add (i * 2)) (M.getD i (0, 0))) : ∀ j u, (M.flatMap evC)[j]? = some u → w.cell? (p.add j) = some u := by
  intro j u hj
  have hjl : j < M.length * 2 := by
    rcases Nat.lt_or_ge j (M.length * 2) with h | h
    · exact h
    · rw [List.getElem?_eq_none (by rw [flatV_len]; exact h)] at hj; cases hj
  obtain ⟨q, r, hr, rfl⟩ : ∃ q r, r < 2 ∧ j = q * 2 + r := ⟨j / 2, j % 2, by omega, by omega⟩
  have hi : q < M.length := by omega
  obtain ⟨k0, k1⟩ := h q hi
  have e := flatV_get M q hi r hr
  rw [hj] at e
  generalize M.getD q (0, 0) = y at *
  have hr : r = 0 ∨ r = 1 := by omega
  rcases hr with rfl | rfl <;> simp [evC] at e <;> subst e
  · exact k0
  · have e2 : p.add (q * 2 + 1) = ⟨(p.add (q * 2)).block, (p.add (q * 2)).off + 1, none⟩ := by
      have e3 : p.add (q * 2 + 1) = (p.add (q * 2)).add 1 := by
        unfold Addr.add
        by_cases h : q = 0
        · subst h; simp
        · have h4 : ¬ q * 2 = 0 := by omega
          simp [h4, Nat.add_assoc]
      rw [e3]
      generalize p.add (q * 2) = y
      unfold Addr.add
      simp
    rw [e2]; exact k1
theorem flatV_ones (L : List Ev) : ∀ u ∈ L.flatMap evC, u.oneCell' = true := by
 intro u hu
 obtain ⟨x, _, h⟩ := List.mem_flatMap.1 hu
 exact evC_one x u h
theorem append_nil_rev {w : World} {base : Nat} {ty : TypeId} {v : Value} {n : Nat} {xs : List Value} (hown : w.ownsRow base 117 2 v n xs) (c : Nat) :
  (Builtin.append_ #[54, 54] ty #[v, .slice none 0 c]).run Tryz.prog w = .ok v w := by
 obtain ⟨u0, hu0, hz0, hz1, hz2⟩ := info_parts rev_info
 rcases hown.2 with ⟨rfl, rfl⟩ | ⟨g, cap, cur, rfl, _, _, hnc, _⟩
 · simp [Builtin.append_, run_underlying Tryz.underlying54, sizeOf, typeInfo, hu0, Builtin.lenOf, Builtin.firstCells]
 · simp [Builtin.append_, run_underlying Tryz.underlying54, sizeOf, typeInfo, hu0, Builtin.lenOf, Builtin.firstCells, hnc, storeCells]
theorem app_revrow_op {w : World} {o : Oper} {a : Act} {K : Act → World → Prop} {Q : Exit → Act → World → Prop} (s x : Operand)
    (ho : o.op = .call { callee := .builtin .append, args := #[s, x], argTypes := #[54, 54] })
    (base : Nat) (v : Value) (n : Nat) (L : List Ev) (hs : a.eval s = v) (hown : w.ownsRow base 117 2 v n (L.flatMap evC)) (hW : ∀ y ∈ L, evWf y)
    (A : Option Addr) (m c : Nat) (M : List Ev) (hx : a.eval x = .slice A m c) (hm : m = M.length) (cap : Nat) (hr : EvRow w A cap M) (n' : Nat) (hn' : n' = n + m) (hlen : n + m ≤ 200000) (hbase : base ≤ w.heap.size)
    (h : ∀ A' cap' w', w'.ownsRow base 117 2 (.slice A' n' cap') n' ((L ++ M).flatMap evC) → w.grownBy w' v.ownBlock → Below base w w' → K (a.put o.dst (.slice A' n' cap')) w') :
    o.wp Tryz.prog a w K Q := by
  subst hn'
  obtain ⟨u0, hu0, hz0, hz1, hz2⟩ := info_parts rev_info
  have hLM : ∀ y ∈ L ++ M, evWf y := fun z hz => (List.mem_append.1 hz).elim (hW z) (hr.2.2.1 z)
  cases A with
  | none =>
    have hM : M = [] := by
      by_cases hne : M = []
      · exact hne
      · obtain ⟨ad, h, _⟩ := hr.2.2.2 hne; cases h
    subst hM
    subst hm
    unfold Oper.wp execOp
    simp only [ho, resolve, invoke, builtin, Sem.run_bind, Sem.run_pure, Result.andThen_ok, List.map_toArray, List.map_cons, List.map_nil, hs, hx, List.length_nil, append_nil_rev hown c]
    have hown' : w.ownsRow base 117 2 v (n + 0) ((L ++ []).flatMap evC) := by simpa using hown
    obtain ⟨A', cap', rfl, _, hrow⟩ := rev_of_own hown' hLM
    exact h A' cap' w hown' ⟨rfl, rfl, rfl, Nat.le_refl _, fun k hk _ => rfl⟩ (Below.refl _ _)
  | some ad =>
    have hcs : ∀ j u, (M.flatMap evC)[j]? = some u → w.cell? (ad.add j) = some u := by
      by_cases hne : M = []
      · subst hne; intro j u hj; simp at hj
      · obtain ⟨ad', e, _, hc⟩ := hr.2.2.2 hne
        injection e with e; subst e
        exact rev_cells hc
    refine wp_append_own w s x 54 ho base 117 u0 _ 2 16 Tryz.underlying54 hu0 hz0 hz1 hz2 rfl (by decide) v n (L.flatMap evC) hs hown ad m c (M.flatMap evC) hx (by rw [flatV_len, hm])
      hcs (flatV_ones M) (by unfold maxLen; omega) (by omega) hbase ?_
    intro v' w' hown' hg _
    rw [← flatV_app] at hown'
    obtain ⟨A', cap', rfl, _, hrow⟩ := rev_of_own hown' hLM
    exact h A' cap' w' hown' hg ((Below.refl base w).grown hg hbase (fun k hk => (hown.lt k hk).1))
theorem rev_new (w : World) : (w.alloc (.cells #[] 117)).ownsRow w.heap.size 117 2 (.slice (some ⟨w.heap.size, 0, none⟩) 0 0) 0 (([] : List Ev).flatMap evC) :=
 World.ownsRow_lit (size := 2) (base := w.heap.size) (e := 117) w #[] 0 (by simp) (by unfold maxLen; omega) rfl
theorem rev_one (w : World) (y : Ev) (hy : evWf y) (c : Nat) (h1 : 1 ≤ c) (h2 : c ≤ maxLen) : EvRow (w.alloc (.cells #[.int .i64 y.1, .int .u32 y.2] 117)) (some ⟨w.heap.size, 0, none⟩) c [y] :=
 ⟨by simpa using h1, h2, fun x hx => by simp at hx; subst hx; exact hy, fun _ => ⟨_, rfl, by simp, fun i hi => by
  have h0 : i = 0 := by simp at hi; omega
  subst h0
  simpa [Addr.add] using evAt_new w y 117⟩⟩
theorem rev_keep {w w' : World} {base n : Nat} {v : Value} {xs : List Value} (h : w.ownsRow base 117 2 v n xs) (b : Below w.heap.size w w') : w'.ownsRow base 117 2 v n xs :=
 h.kept (row := none) ⟨b.os, b.tape, b.output, b.size, fun k hk _ => b.block k hk⟩ (by cases hv : v.ownBlock <;> simp)
structure GtS (w : World) (cs : List Value) (M0 M1 : Value) (ds : List Value) (W : World) : Prop where
 c : HasB W w.heap.size 47 cs
 m : HasB W (w.heap.size + 1) 50 [M0, M1]
 d : HasB W (w.heap.size + 1 + 1) 56 ds
 rc : HasB W (w.heap.size + 1 + 1 + 1) 47 [.int .u32 0, .int .u32 0, .int .u32 0, .int .u32 0, .int .u32 0, .int .u32 0, .int .u32 0, .int .u32 0, .int .u32 0, .int .u32 0, .int .u32 0]
 rd : HasB W (w.heap.size + 1 + 1 + 1 + 1) 56 [.slice none 0 0, .int .i64 0, .slice none 0 0, .bool false, .int .u32 0]
 bel : Below w.heap.size w W
theorem GtS.below {w W W' : World} {cs ds : List Value} {M0 M1 : Value} (k : GtS w cs M0 M1 ds W) (hb : Below W.heap.size W W') : GtS w cs M0 M1 ds W' :=
 ⟨k.c.below hb, k.m.below hb, k.d.below hb, k.rc.below hb, k.rd.below hb, bel_then k.bel hb⟩
theorem GtS.lt {w W : World} {cs ds : List Value} {M0 M1 : Value} (k : GtS w cs M0 M1 ds W) : w.heap.size + 5 ≤ W.heap.size := by have := k.rd.lt; omega
theorem GtS.new (w : World) (cs ds : List Value) (M0 M1 : Value) :
  ∃ W, (((((w.alloc (.cells cs.toArray 47)).alloc (.cells #[M0, M1] 50)).alloc (.cells ds.toArray 56)).alloc (.cells #[.int .u32 0, .int .u32 0, .int .u32 0, .int .u32 0, .int .u32 0, .int .u32 0, .int .u32 0, .int .u32 0, .int .u32 0, .int .u32 0, .int .u32 0] 47)).alloc (.cells #[.slice none 0 0, .int .i64 0, .slice none 0 0, .bool false, .int .u32 0] 56)) = W ∧ GtS w cs M0 M1 ds W := by
 refine ⟨_, rfl, ⟨?_, ?_, ?_, ?_, ?_, bel_al (bel_al (bel_al (bel_al (bel_al (Below.refl _ _) _) _) _) _) _⟩⟩
 · exact ((((HasB.new w _ cs).al _).al _).al _).al _
 · exact (((HasB.newAt _ _ _ #[M0, M1] (by simp)).al _).al _).al _
 · exact (((HasB.newAt _ _ _ ds.toArray (by simp)).al _).al _)
 · exact ((HasB.newAt _ _ _ #[.int .u32 0, .int .u32 0, .int .u32 0, .int .u32 0, .int .u32 0, .int .u32 0, .int .u32 0, .int .u32 0, .int .u32 0, .int .u32 0, .int .u32 0] (by simp)).al _)
 · exact HasB.newAt _ _ _ #[.slice none 0 0, .int .i64 0, .slice none 0 0, .bool false, .int .u32 0] (by simp)
theorem GtS.setC {w W : World} {cs ds : List Value} {M0 M1 : Value} (k : GtS w cs M0 M1 ds W) (i : Nat) (v : Value) :
  ∃ W', W.setCell ⟨w.heap.size, i, none⟩ v = W' ∧ GtS w (cs.set i v) M0 M1 ds W' ∧ Chg w.heap.size w.heap.size W W' := by
 have c : Chg w.heap.size w.heap.size W (W.setCell ⟨w.heap.size, i, none⟩ v) := chg_set (Chg.refl _ _ _) _ (.inl rfl) _ _
 exact ⟨_, rfl, ⟨has_set k.c i v, k.m.chg c (by omega) (by omega), k.d.chg c (by omega) (by omega), k.rc.chg c (by omega) (by omega), k.rd.chg c (by omega) (by omega), c.below k.bel k.bel.size (by omega) (by omega)⟩, c⟩
theorem GtS.setD {w W : World} {cs ds : List Value} {M0 M1 : Value} (k : GtS w cs M0 M1 ds W) (i : Nat) (v : Value) :
  ∃ W', W.setCell ⟨w.heap.size + 1 + 1, i, none⟩ v = W' ∧ GtS w cs M0 M1 (ds.set i v) W' ∧ Chg (w.heap.size + 1 + 1) (w.heap.size + 1 + 1) W W' := by
 have c : Chg (w.heap.size + 1 + 1) (w.heap.size + 1 + 1) W (W.setCell ⟨w.heap.size + 1 + 1, i, none⟩ v) := chg_set (Chg.refl _ _ _) _ (.inl rfl) _ _
 exact ⟨_, rfl, ⟨k.c.chg c (by omega) (by omega), k.m.chg c (by omega) (by omega), has_set k.d i v, k.rc.chg c (by omega) (by omega), k.rd.chg c (by omega) (by omega), c.below k.bel k.bel.size (by omega) (by omega)⟩, c⟩
theorem allocE (w : World) : ∃ W, w.alloc (.cells #[] 117) = W ∧ W.ownsRow w.heap.size 117 2 (.slice (some ⟨w.heap.size, 0, none⟩) 0 0) 0 (([] : List Ev).flatMap evC) ∧ Below w.heap.size w W := ⟨_, rfl, rev_new w, bel_al (Below.refl _ _) _⟩
theorem allocY (w : World) (y : Ev) (hy : evWf y) : ∃ W, w.alloc (.cells #[.int .i64 y.1, .int .u32 y.2] 117) = W ∧ EvRow W (some ⟨w.heap.size, 0, none⟩) 1 [y] ∧ Below w.heap.size w W := ⟨_, rfl, rev_one w y hy 1 (Nat.le_refl _) (by unfold maxLen; omega), bel_al (Below.refl _ _) _⟩
theorem rev_row {w : World} {base n cap : Nat} {A : Option Addr} {L : List Ev} (h : w.ownsRow base 117 2 (.slice A n cap) n (L.flatMap evC)) (hw : ∀ x ∈ L, evWf x) : EvRow w A cap L := by
 obtain ⟨A', c', e, _, r⟩ := rev_of_own h hw
 injection e with e1 e2 e3
 subst e1 e3
 exact r
theorem ev_all {l : List Ev} {y : Ev} (h : ∀ x ∈ l, evWf x) (hy : evWf y) : ∀ x ∈ l ++ [y], evWf x := fun x hx => by
 rcases List.mem_append.1 hx with k | k
 · exact h x k
 · rw [List.mem_singleton.1 k]; exact hy
theorem rst16 {w W : World} (bel : Below w.heap.size w W) (v0 v1 v2 v3 v4 v5 v6 v7 v8 v9 v10 u0 u1 u2 u3 u4 : Value) :
  let w' := ((((((((((((((((W.setCell ⟨w.heap.size + 1 + 1 + 1, 0, none⟩ v0).setCell ⟨w.heap.size + 1 + 1 + 1, 1, none⟩ v1).setCell ⟨w.heap.size + 1 + 1 + 1, 2, none⟩ v2).setCell ⟨w.heap.size + 1 + 1 + 1, 3, none⟩ v3).setCell ⟨w.heap.size + 1 + 1 + 1, 4, none⟩ v4).setCell ⟨w.heap.size + 1 + 1 + 1, 5, none⟩ v5).setCell ⟨w.heap.size + 1 + 1 + 1, 6, none⟩ v6).setCell ⟨w.heap.size + 1 + 1 + 1, 7, none⟩ v7).setCell ⟨w.heap.size + 1 + 1 + 1, 8, none⟩ v8).setCell ⟨w.heap.size + 1 + 1 + 1, 9, none⟩ v9).setCell ⟨w.heap.size + 1 + 1 + 1, 10, none⟩ v10).setCell ⟨w.heap.size + 1 + 1 + 1 + 1, 0, none⟩ u0).setCell ⟨w.heap.size + 1 + 1 + 1 + 1, 1, none⟩ u1).setCell ⟨w.heap.size + 1 + 1 + 1 + 1, 2, none⟩ u2).setCell ⟨w.heap.size + 1 + 1 + 1 + 1, 3, none⟩ u3).setCell ⟨w.heap.size + 1 + 1 + 1 + 1, 4, none⟩ u4)
  Chg (w.heap.size + 1 + 1 + 1) (w.heap.size + 1 + 1 + 1 + 1) W w'.drew ∧ Below w.heap.size w w'.drew := by
 intro w'
 have c1 : Chg (w.heap.size + 1 + 1 + 1) (w.heap.size + 1 + 1 + 1 + 1) W w' := chg_set (chg_set (chg_set (chg_set (chg_set (chg_set (chg_set (chg_set (chg_set (chg_set (chg_set (chg_set (chg_set (chg_set (chg_set (chg_set (Chg.refl _ _ _) _ (.inl rfl) _ _) _ (.inl rfl) _ _) _ (.inl rfl) _ _) _ (.inl rfl) _ _) _ (.inl rfl) _ _) _ (.inl rfl) _ _) _ (.inl rfl) _ _) _ (.inl rfl) _ _) _ (.inl rfl) _ _) _ (.inl rfl) _ _) _ (.inl rfl) _ _) _ (.inr rfl) _ _) _ (.inr rfl) _ _) _ (.inr rfl) _ _) _ (.inr rfl) _ _) _ (.inr rfl) _ _
 have c2 := chg_drew c1
 exact ⟨c2, c2.below bel bel.size (by omega) (by omega)⟩
def RGP (w : World) (r : Cp × Wd) (RA : Option Addr) (rc : Nat) (T0 : Option Addr) (tr0 : List Ev) (e : Ending) (w' : World) : Prop :=
 ∃ TA tc, e = .returned (.tuple #[r.1.val, r.2.val RA rc TA tc]) ∧ EvRow w' TA tc r.2.tr ∧ Below w.heap.size w w' ∧ ((TA = T0 ∧ r.2.tr = tr0) ∨ ∀ x, TA = some x → w.heap.size ≤ x.block)
def og0 : Oper := { dst := some 103, op := Op.buildSlice 54 0 #[], type := 54, pos := "ref.go:59", after := #[], guard := none }
def og1 : Oper := { dst := some 105, op := Op.load 54 (Operand.tmp 104), type := 54, pos := "ref.go:59", after := #[{ on := 1, ground := Ground.data }], guard := none }
def og2 : Oper := { dst := some 106, op := Op.call { callee := Callee.builtin Builtin.append, args := #[Operand.tmp 103, Operand.tmp 105], argTypes := #[54, 54] }, type := 54, pos := "ref.go:59", after := #[{ on := 0, ground := Ground.data }, { on := 2, ground := Ground.data }], guard := none }
def og3 : Oper := { dst := some 112, op := Op.buildSlice 54 1 #[(0, Operand.tmp 111)], type := 54, pos := "ref.go:59", after := #[{ on := 8, ground := Ground.data }], guard := none }
def og4 : Oper := { dst := some 113, op := Op.call { callee := Callee.builtin Builtin.append, args := #[Operand.tmp 106, Operand.tmp 112], argTypes := #[54, 54] }, type := 54, pos := "ref.go:59", after := #[{ on := 3, ground := Ground.data }, { on := 9, ground := Ground.data }, { on := 3, ground := Ground.chain }], guard := none }
def og5 : Oper := { dst := none, op := Op.store 54 (Operand.tmp 114) (Operand.tmp 113), type := 0, pos := "ref.go:59", after := #[{ on := 11, ground := Ground.data }, { on := 10, ground := Ground.data }, { on := 10, ground := Ground.chain }, { on := 0, ground := Ground.phase }, { on := 1, ground := Ground.phase }, { on := 2, ground := Ground.phase }, { on := 3, ground := Ground.phase }, { on := 4, ground := Ground.phase }, { on := 5, ground := Ground.phase }, { on := 6, ground := Ground.phase }, { on := 7, ground := Ground.phase }, { on := 8, ground := Ground.phase }, { on := 9, ground := Ground.phase }, { on := 10, ground := Ground.phase }], guard := none }
set_option maxRecDepth 100000 in
set_option maxHeartbeats 8000000 in
theorem rg_log {x0 x1 x2 x5 x7 x8 x9 x10 x11 x12 x13 x14 x15 x16 x17 x18 x19 x20 x21 x22 x23 x24 x25 x26 x27 x28 x29 x30 x31 x32 x33 x34 x35 x36 x37 x38 x39 x40 x41 x42 x43 x44 x45 x46 x47 x48 x49 x50 x51 x52 x53 x54 x55 x56 x57 x58 x59 x60 x61 x62 x63 x64 x65 x66 x67 x68 x69 x70 x71 x72 x73 x74 x75 x76 x77 x78 x79 x80 x81 x82 x83 x84 x85 x86 x87 x88 x89 x90 x91 x92 x93 x94 x95 x96 x97 x98 x99 x100 x101 x102 x103 x104 x105 x106 x107 x108 x109 x110 x111 x112 x113 x114 x115 x116 : Value} (xb yb cB cU : Nat) (w GW : World) (nn r0x : Int) (Cl : List Value) (hC : Cl[1]? = some (.int .u32 r0x)) (d0 d1 d3 d4 : Value) (T : Option Addr) (ct k : Nat) (tr : List Ev) (hk : tr.length = k) (hk1 : k ≤ 100000) (HY0 : evWf (nn, r0x))
    (gw : GtS w Cl (.slice (some ⟨xb, 0, none⟩) 2200 cB) (.slice (some ⟨yb, 0, none⟩) 2200 cU) [d0, d1, .slice T k ct, d3, d4] GW) (rT : EvRow GW T ct tr) {Q : Exit → Act → World → Prop}
    (h : ∀ (A9 : Option Addr) (c9 : Nat) (W9 : World) (t103 t104 t105 t106 t107 t108 t109 t110 t111 t112 t113 t114 : Value), GtS w Cl (.slice (some ⟨xb, 0, none⟩) 2200 cB) (.slice (some ⟨yb, 0, none⟩) 2200 cU) [d0, d1, .slice A9 (k + 1) c9, d3, d4] W9 → EvRow W9 A9 c9 (tr ++ [(nn, r0x)]) → (∀ x, A9 = some x → w.heap.size + 1 + 1 + 1 + 1 < x.block) → Q .normal { tmps := #[x0, x1, x2, .int .i64 nn, .pointer (some ⟨w.heap.size, 0, none⟩), x5, .pointer (some ⟨w.heap.size + 1 + 1, 0, none⟩), x7, x8, x9, x10, x11, x12, x13, x14, x15, x16, x17, x18, x19, x20, x21, x22, x23, x24, x25, x26, x27, x28, x29, x30, x31, x32, x33, x34, x35, x36, x37, x38, x39, x40, x41, x42, x43, x44, x45, x46, x47, x48, x49, x50, x51, x52, x53, x54, x55, x56, x57, x58, x59, x60, x61, x62, x63, x64, x65, x66, x67, x68, x69, x70, x71, x72, x73, x74, x75, x76, x77, x78, x79, x80, x81, x82, x83, x84, x85, x86, x87, x88, x89, x90, x91, x92, x93, x94, x95, x96, x97, x98, x99, x100, x101, x102, t103, t104, t105, t106, t107, t108, t109, t110, t111, t112, t113, t114, x115, x116], defers := [] } W9) :
    Code.wp Tryz.prog (Code.region 18 #[{ dst := some 103, op := Op.buildSlice 54 0 #[], type := 54, pos := "ref.go:59", after := #[], guard := none }, { dst := some 104, op := Op.fieldAddr 56 (Operand.tmp 6) 2, type := 0, pos := "ref.go:59", after := #[], guard := none }, { dst := some 105, op := Op.load 54 (Operand.tmp 104), type := 54, pos := "ref.go:59", after := #[{ on := 1, ground := Ground.data }], guard := none }, { dst := some 106, op := Op.call { callee := Callee.builtin Builtin.append, args := #[Operand.tmp 103, Operand.tmp 105], argTypes := #[54, 54] }, type := 54, pos := "ref.go:59", after := #[{ on := 0, ground := Ground.data }, { on := 2, ground := Ground.data }], guard := none }, { dst := some 107, op := Op.move (Operand.tmp 3), type := 3, pos := "ref.go:59", after := #[], guard := none }, { dst := some 108, op := Op.fieldAddr 47 (Operand.tmp 4) 1, type := 0, pos := "ref.go:59", after := #[], guard := none }, { dst := some 109, op := Op.indexAddr 33 (Operand.tmp 108) (Operand.const (Value.int IntKind.i64 0)), type := 0, pos := "ref.go:59", after := #[{ on := 5, ground := Ground.data }], guard := none }, { dst := some 110, op := Op.load 32 (Operand.tmp 109), type := 32, pos := "ref.go:59", after := #[{ on := 6, ground := Ground.data }], guard := none }, { dst := some 111, op := Op.build 117 #[(0, Operand.tmp 107), (1, Operand.tmp 110)], type := 117, pos := "ref.go:59", after := #[{ on := 4, ground := Ground.data }, { on := 7, ground := Ground.data }], guard := none }, { dst := some 112, op := Op.buildSlice 54 1 #[(0, Operand.tmp 111)], type := 54, pos := "ref.go:59", after := #[{ on := 8, ground := Ground.data }], guard := none }, { dst := some 113, op := Op.call { callee := Callee.builtin Builtin.append, args := #[Operand.tmp 106, Operand.tmp 112], argTypes := #[54, 54] }, type := 54, pos := "ref.go:59", after := #[{ on := 3, ground := Ground.data }, { on := 9, ground := Ground.data }, { on := 3, ground := Ground.chain }], guard := none }, { dst := some 114, op := Op.fieldAddr 56 (Operand.tmp 6) 2, type := 0, pos := "ref.go:59", after := #[{ on := 0, ground := Ground.phase }, { on := 1, ground := Ground.phase }, { on := 2, ground := Ground.phase }, { on := 3, ground := Ground.phase }, { on := 4, ground := Ground.phase }, { on := 5, ground := Ground.phase }, { on := 6, ground := Ground.phase }, { on := 7, ground := Ground.phase }, { on := 8, ground := Ground.phase }, { on := 9, ground := Ground.phase }, { on := 10, ground := Ground.phase }], guard := none }, { dst := none, op := Op.store 54 (Operand.tmp 114) (Operand.tmp 113), type := 0, pos := "ref.go:59", after := #[{ on := 11, ground := Ground.data }, { on := 10, ground := Ground.data }, { on := 10, ground := Ground.chain }, { on := 0, ground := Ground.phase }, { on := 1, ground := Ground.phase }, { on := 2, ground := Ground.phase }, { on := 3, ground := Ground.phase }, { on := 4, ground := Ground.phase }, { on := 5, ground := Ground.phase }, { on := 6, ground := Ground.phase }, { on := 7, ground := Ground.phase }, { on := 8, ground := Ground.phase }, { on := 9, ground := Ground.phase }, { on := 10, ground := Ground.phase }], guard := none }] true) Q { tmps := #[x0, x1, x2, .int .i64 nn, .pointer (some ⟨w.heap.size, 0, none⟩), x5, .pointer (some ⟨w.heap.size + 1 + 1, 0, none⟩), x7, x8, x9, x10, x11, x12, x13, x14, x15, x16, x17, x18, x19, x20, x21, x22, x23, x24, x25, x26, x27, x28, x29, x30, x31, x32, x33, x34, x35, x36, x37, x38, x39, x40, x41, x42, x43, x44, x45, x46, x47, x48, x49, x50, x51, x52, x53, x54, x55, x56, x57, x58, x59, x60, x61, x62, x63, x64, x65, x66, x67, x68, x69, x70, x71, x72, x73, x74, x75, x76, x77, x78, x79, x80, x81, x82, x83, x84, x85, x86, x87, x88, x89, x90, x91, x92, x93, x94, x95, x96, x97, x98, x99, x100, x101, x102, x103, x104, x105, x106, x107, x108, x109, x110, x111, x112, x113, x114, x115, x116], defers := [] } GW := by
  have HK := Lib.hid hk
  have HY := Lib.hid HY0
  have GI := Lib.hid gw
  have TI := Lib.hid rT
  have TW := Lib.hid rT.2.2.1
  have KS := Lib.hid (fun W' (b' : Below GW.heap.size GW W') => show W'.cell? ⟨w.heap.size, 1, none⟩ = some (.int .u32 (r0x)) from ((gw.c.below b').cell 1).trans hC)
  have HC := Lib.hid hC
  clear gw rT HY0 hk hC
  refine wp_region_noPanic ?_
  refine wp_region_held_drew (S := (fun w' => w'.cell? ⟨w.heap.size, 1, none⟩ = some (.int .u32 r0x))) (by kernel_rfl) ?_ (fun hHeld => ?_)
  · (try dsimp only)
    first | exact KS.out _ (Below.refl _ _) | exact KS.out _ ((Below.refl _ _).drew)
  generalize hn0 : GW.drew = Wn0 at hHeld ⊢
  have BN0 : Hid (Below GW.heap.size GW Wn0) := Lib.hid (by rw [← hn0]; exact (Below.refl _ _).drew)
  clear hn0
  refine wpAnyH_take (i := 1) (v := ?_) rfl (by kernel_rfl) (by kernel_rfl) (by kernel_rfl) (fun _ _ _ h => h) (Or.inl ⟨by rfl, ?_⟩) (by assumption) ?_
  rotate_left
  · intro w hSw; (try dsimp only at hSw); go_simp <;> (with_reducible rfl)
  (try simp only [Act.put, lsA, lsZ, lsS])
  refine wpAnyH_take (i := 4) (v := ?_) rfl (by kernel_rfl) (by kernel_rfl) (by kernel_rfl) (fun _ _ _ h => h) (Or.inl ⟨by rfl, ?_⟩) (by assumption) ?_
  rotate_left
  · intro w hSw; (try dsimp only at hSw); go_simp <;> (with_reducible rfl)
  (try simp only [Act.put, lsA, lsZ, lsS])
  refine wpAnyH_take (i := 5) (v := ?_) rfl (by kernel_rfl) (by kernel_rfl) (by kernel_rfl) (fun _ _ _ h => h) (Or.inl ⟨by rfl, ?_⟩) (by assumption) ?_
  rotate_left
  · intro w hSw; (try dsimp only at hSw); go_simp <;> (with_reducible rfl)
  (try simp only [Act.put, lsA, lsZ, lsS])
  refine wpAnyH_take (i := 6) (v := ?_) rfl (by kernel_rfl) (by kernel_rfl) (by kernel_rfl) (fun _ _ _ h => h) (Or.inl ⟨by rfl, ?_⟩) (by assumption) ?_
  rotate_left
  · intro w hSw; (try dsimp only at hSw); go_simp <;> (with_reducible rfl)
  (try simp only [Act.put, lsA, lsZ, lsS])
  refine wpAnyH_take (i := 7) (v := ?_) rfl (by kernel_rfl) (by kernel_rfl) (by kernel_rfl) (fun _ _ _ h => h) (Or.inl ⟨by rfl, ?_⟩) (by assumption) ?_
  rotate_left
  · intro w hSw; (try dsimp only at hSw); go_simp <;> (with_reducible rfl)
  (try simp only [Act.put, lsA, lsZ, lsS])
  refine wpAnyH_take (i := 8) (v := ?_) rfl (by kernel_rfl) (by kernel_rfl) (by kernel_rfl) (fun _ _ _ h => h) (Or.inl ⟨by rfl, ?_⟩) (by assumption) ?_
  rotate_left
  · intro w hSw; (try dsimp only at hSw); go_simp <;> (with_reducible rfl)
  (try simp only [Act.put, lsA, lsZ, lsS])
  refine wpAnyH_ready (rs := [0, 2, 9]) (by kernel_rfl) (by simp) ?_
  refine AllReadyH.cons (o := og0) rfl (fun K hK => ?_) ?_
  · unfold og0; go_simp
    obtain ⟨E0, en0, o0, q0⟩ := allocE Wn0
    rw [en0]
    have O0 := Lib.hid o0
    have BN1 := Lib.hid (BN0.out.trans (q0.mono BN0.out.size))
    have SZ0 := Lib.hid BN0.out.size
    have BQ0 := Lib.hid q0
    have OL0 : Hid (Wn0.heap.size < E0.heap.size) := Lib.hid (o0.lt _ rfl).2
    have HB0 := Lib.hid q0.size
    clear en0 o0 q0
    refine hK.out _ _ ?_ (fun hHeld => ?_)
    · (try dsimp only)
      exact KS.out _ BN1.out
    clear hK K
    (try simp only [Act.put, lsA, lsZ, lsS])
    refine wpAnyH_ready (rs := [2, 9]) (by kernel_rfl) (by simp) ?_
    refine AllReadyH.cons (o := og1) rfl (fun K hK => ?_) ?_
    · unfold og1; have y2 := (GI.out.below BN1.out).d.cell 2
      simp only [List.getElem?_cons_succ, List.getElem?_cons_zero] at y2
      go_simp
      have BN2 := BN1
      clear y2
      refine hK.out _ _ ?_ (fun hHeld => ?_)
      · (try dsimp only)
        exact KS.out _ BN2.out
      clear hK K
      (try simp only [Act.put, lsA, lsZ, lsS])
      refine wpAnyH_ready (rs := [3, 9]) (by kernel_rfl) (by simp) ?_
      refine AllReadyH.cons (o := og2) rfl (fun K hK => ?_) ?_
      · unfold og2; rw [if_pos (by rfl)]
        refine app_revrow_op (.tmp 103) (.tmp 105) rfl Wn0.heap.size (.slice (some ⟨Wn0.heap.size, 0, none⟩) 0 0) 0 [] rfl O0.out (fun z h => by cases h) T k ct tr rfl HK.out.symm ct (TI.out.below BN2.out) k (by omega) (by omega) HB0.out ?_
        intro A3 c3 E3 own3 gr3 bel3
        rw [List.nil_append] at own3
        have BN3 := Lib.hid (BN2.out.trans (bel3.mono SZ0.out))
        have HB0 := Lib.hid (Nat.le_trans HB0.out bel3.size)
        have O3 := Lib.hid own3
        clear own3 gr3 bel3 O0
        refine hK.out _ _ ?_ (fun hHeld => ?_)
        · (try dsimp only)
          exact KS.out _ BN3.out
        clear hK K
        (try simp only [Act.put, lsA, lsZ, lsS])
        refine wpAnyH_ready (rs := [9]) (by kernel_rfl) (by simp) ?_
        refine AllReadyH.cons (o := og3) rfl (fun K hK => ?_) ?_
        · unfold og3; go_simp
          obtain ⟨E9, en9, r9, q9⟩ := allocY E3 (nn, r0x) HY.out
          simp only at en9
          rw [en9]
          have RY := Lib.hid r9
          have BN4 := Lib.hid (BN3.out.trans (q9.mono BN3.out.size))
          have EL9 : Hid (E3.heap.size < E9.heap.size) := Lib.hid (by rw [← en9]; simp)
          have O3 := Lib.hid (rev_keep O3.out q9)
          have HB0 := Lib.hid (Nat.le_trans HB0.out q9.size)
          clear en9 r9 q9
          refine hK.out _ _ ?_ (fun hHeld => ?_)
          · (try dsimp only)
            exact KS.out _ BN4.out
          clear hK K
          (try simp only [Act.put, lsA, lsZ, lsS])
          refine wpAnyH_ready (rs := [10]) (by kernel_rfl) (by simp) ?_
          refine AllReadyH.cons (o := og4) rfl (fun K hK => ?_) ?_
          · unfold og4; rw [if_pos (by rfl)]
            refine app_revrow_op (.tmp 106) (.tmp 112) rfl Wn0.heap.size _ k tr rfl O3.out TW.out (some ⟨E3.heap.size, 0, none⟩) 1 1 [(nn, r0x)] rfl rfl 1 RY.out (k + 1) rfl (by omega) HB0.out ?_
            intro A9 c9 E10 own9 gr9 bel9
            have BN5 := Lib.hid (BN4.out.trans (bel9.mono SZ0.out))
            have OF : Hid (Off A9 (w.heap.size + 1 + 1)) := Lib.hid (fun x hx => by subst hx; have h1 := (own9.lt x.block rfl).1; have h2 := SZ0.out; have h3 := GI.out.lt; omega)
            have OA : Hid (∀ x, A9 = some x → w.heap.size + 1 + 1 + 1 + 1 < x.block) := Lib.hid (fun x hx => by subst hx; have h1 := (own9.lt x.block rfl).1; have h2 := SZ0.out; have h3 := GI.out.lt; omega)
            have RF := Lib.hid (rev_row own9 (ev_all TW.out HY.out))
            clear own9 gr9 bel9 O3 RY
            refine hK.out _ _ ?_ (fun hHeld => ?_)
            · (try dsimp only)
              exact KS.out _ BN5.out
            clear hK K
            (try simp only [Act.put, lsA, lsZ, lsS])
            refine wpAnyH_take (i := 11) (v := ?_) rfl (by kernel_rfl) (by kernel_rfl) (by kernel_rfl) (fun _ _ _ h => h) (Or.inl ⟨by rfl, ?_⟩) (by assumption) ?_
            rotate_left
            · intro w hSw; (try dsimp only at hSw); go_simp <;> (with_reducible rfl)
            (try simp only [Act.put, lsA, lsZ, lsS])
            refine wpAnyH_ready (rs := [12]) (by kernel_rfl) (by simp) ?_
            refine AllReadyH.cons (o := og5) rfl (fun K hK => ?_) ?_
            · unfold og5; obtain ⟨E12, e12, g12, x12⟩ := (GI.out.below BN5.out).setD 2 (.slice A9 (k + 1) c9)
              have y2 := (GI.out.below BN5.out).d.cell 2; have f2 := (GI.out.below BN5.out).d.frozen 2
              simp only [List.getElem?_cons_succ, List.getElem?_cons_zero] at y2
              have GF := Lib.hid g12
              have RG := Lib.hid (RF.out.chg x12 OF.out OF.out)
              have KQ := Lib.hid ((g12.c.cell 1).trans HC.out)
              clear g12 x12
              go_simp
              clear y2 f2 e12
              refine hK.out _ _ ?_ (fun hHeld => ?_)
              · (try dsimp only)
                exact KQ.out
              clear hK K
              (try simp only [Act.put, lsA, lsZ, lsS])
              refine wpAnyH_done (by kernel_rfl) ?_ _
              refine NoPanic.normal ?_
              exact h _ _ _ _ _ _ _ _ _ _ _ _ _ _ _ GF.out RG.out OA.out
            exact AllReadyH.nil
          exact AllReadyH.nil
        exact AllReadyH.nil
      refine AllReadyH.cons (o := og3) rfl (fun K hK => ?_) ?_
      · unfold og3; go_simp
        obtain ⟨E9, en9, r9, q9⟩ := allocY E0 (nn, r0x) HY.out
        simp only at en9
        rw [en9]
        have RY := Lib.hid r9
        have BN3 := Lib.hid (BN2.out.trans (q9.mono BN2.out.size))
        have EL9 : Hid (E0.heap.size < E9.heap.size) := Lib.hid (by rw [← en9]; simp)
        have O0 := Lib.hid (rev_keep O0.out q9)
        have NE : Hid (E0.heap.size ≠ Wn0.heap.size) := Lib.hid (Nat.ne_of_gt OL0.out)
        have HB0 := Lib.hid (Nat.le_trans HB0.out q9.size)
        clear en9 r9 q9
        refine hK.out _ _ ?_ (fun hHeld => ?_)
        · (try dsimp only)
          exact KS.out _ BN3.out
        clear hK K
        (try simp only [Act.put, lsA, lsZ, lsS])
        refine wpAnyH_ready (rs := [3]) (by kernel_rfl) (by simp) ?_
        refine AllReadyH.cons (o := og2) rfl (fun K hK => ?_) ?_
        · unfold og2; rw [if_pos (by rfl)]
          refine app_revrow_op (.tmp 103) (.tmp 105) rfl Wn0.heap.size (.slice (some ⟨Wn0.heap.size, 0, none⟩) 0 0) 0 [] rfl O0.out (fun z h => by cases h) T k ct tr rfl HK.out.symm ct (TI.out.below BN3.out) k (by omega) (by omega) HB0.out ?_
          intro A3 c3 E3 own3 gr3 bel3
          rw [List.nil_append] at own3
          have BN4 := Lib.hid (BN3.out.trans (bel3.mono SZ0.out))
          have HB0 := Lib.hid (Nat.le_trans HB0.out bel3.size)
          have RY := Lib.hid (RY.out.chg (⟨gr3.os, gr3.tape, gr3.output, gr3.size, fun k hk h1 _ => gr3.block k hk (fun e => by simp [Value.ownBlock] at e; exact h1 (by first | exact e | exact e.symm))⟩ : Chg Wn0.heap.size Wn0.heap.size E9 E3) (fun x hx => by cases hx; exact NE.out) (fun x hx => by cases hx; exact NE.out))
          have O3 := Lib.hid own3
          clear own3 gr3 bel3 O0
          refine hK.out _ _ ?_ (fun hHeld => ?_)
          · (try dsimp only)
            exact KS.out _ BN4.out
          clear hK K
          (try simp only [Act.put, lsA, lsZ, lsS])
          refine wpAnyH_ready (rs := [10]) (by kernel_rfl) (by simp) ?_
          refine AllReadyH.cons (o := og4) rfl (fun K hK => ?_) ?_
          · unfold og4; rw [if_pos (by rfl)]
            refine app_revrow_op (.tmp 106) (.tmp 112) rfl Wn0.heap.size _ k tr rfl O3.out TW.out (some ⟨E0.heap.size, 0, none⟩) 1 1 [(nn, r0x)] rfl rfl 1 RY.out (k + 1) rfl (by omega) HB0.out ?_
            intro A9 c9 E10 own9 gr9 bel9
            have BN5 := Lib.hid (BN4.out.trans (bel9.mono SZ0.out))
            have OF : Hid (Off A9 (w.heap.size + 1 + 1)) := Lib.hid (fun x hx => by subst hx; have h1 := (own9.lt x.block rfl).1; have h2 := SZ0.out; have h3 := GI.out.lt; omega)
            have OA : Hid (∀ x, A9 = some x → w.heap.size + 1 + 1 + 1 + 1 < x.block) := Lib.hid (fun x hx => by subst hx; have h1 := (own9.lt x.block rfl).1; have h2 := SZ0.out; have h3 := GI.out.lt; omega)
            have RF := Lib.hid (rev_row own9 (ev_all TW.out HY.out))
            clear own9 gr9 bel9 O3 RY
            refine hK.out _ _ ?_ (fun hHeld => ?_)
            · (try dsimp only)
              exact KS.out _ BN5.out
            clear hK K
            (try simp only [Act.put, lsA, lsZ, lsS])
            refine wpAnyH_take (i := 11) (v := ?_) rfl (by kernel_rfl) (by kernel_rfl) (by kernel_rfl) (fun _ _ _ h => h) (Or.inl ⟨by rfl, ?_⟩) (by assumption) ?_
            rotate_left
            · intro w hSw; (try dsimp only at hSw); go_simp <;> (with_reducible rfl)
            (try simp only [Act.put, lsA, lsZ, lsS])
            refine wpAnyH_ready (rs := [12]) (by kernel_rfl) (by simp) ?_
            refine AllReadyH.cons (o := og5) rfl (fun K hK => ?_) ?_
            · unfold og5; obtain ⟨E12, e12, g12, x12⟩ := (GI.out.below BN5.out).setD 2 (.slice A9 (k + 1) c9)
              have y2 := (GI.out.below BN5.out).d.cell 2; have f2 := (GI.out.below BN5.out).d.frozen 2
              simp only [List.getElem?_cons_succ, List.getElem?_cons_zero] at y2
              have GF := Lib.hid g12
              have RG := Lib.hid (RF.out.chg x12 OF.out OF.out)
              have KQ := Lib.hid ((g12.c.cell 1).trans HC.out)
              clear g12 x12
              go_simp
              clear y2 f2 e12
              refine hK.out _ _ ?_ (fun hHeld => ?_)
              · (try dsimp only)
                exact KQ.out
              clear hK K
              (try simp only [Act.put, lsA, lsZ, lsS])
              refine wpAnyH_done (by kernel_rfl) ?_ _
              refine NoPanic.normal ?_
              exact h _ _ _ _ _ _ _ _ _ _ _ _ _ _ _ GF.out RG.out OA.out
            exact AllReadyH.nil
          exact AllReadyH.nil
        exact AllReadyH.nil
      exact AllReadyH.nil
    refine AllReadyH.cons (o := og3) rfl (fun K hK => ?_) ?_
    · unfold og3; go_simp
      obtain ⟨E9, en9, r9, q9⟩ := allocY E0 (nn, r0x) HY.out
      simp only at en9
      rw [en9]
      have RY := Lib.hid r9
      have BN2 := Lib.hid (BN1.out.trans (q9.mono BN1.out.size))
      have EL9 : Hid (E0.heap.size < E9.heap.size) := Lib.hid (by rw [← en9]; simp)
      have O0 := Lib.hid (rev_keep O0.out q9)
      have NE : Hid (E0.heap.size ≠ Wn0.heap.size) := Lib.hid (Nat.ne_of_gt OL0.out)
      have HB0 := Lib.hid (Nat.le_trans HB0.out q9.size)
      clear en9 r9 q9
      refine hK.out _ _ ?_ (fun hHeld => ?_)
      · (try dsimp only)
        exact KS.out _ BN2.out
      clear hK K
      (try simp only [Act.put, lsA, lsZ, lsS])
      refine wpAnyH_ready (rs := [2]) (by kernel_rfl) (by simp) ?_
      refine AllReadyH.cons (o := og1) rfl (fun K hK => ?_) ?_
      · unfold og1; have y2 := (GI.out.below BN2.out).d.cell 2
        simp only [List.getElem?_cons_succ, List.getElem?_cons_zero] at y2
        go_simp
        have BN3 := BN2
        clear y2
        refine hK.out _ _ ?_ (fun hHeld => ?_)
        · (try dsimp only)
          exact KS.out _ BN3.out
        clear hK K
        (try simp only [Act.put, lsA, lsZ, lsS])
        refine wpAnyH_ready (rs := [3]) (by kernel_rfl) (by simp) ?_
        refine AllReadyH.cons (o := og2) rfl (fun K hK => ?_) ?_
        · unfold og2; rw [if_pos (by rfl)]
          refine app_revrow_op (.tmp 103) (.tmp 105) rfl Wn0.heap.size (.slice (some ⟨Wn0.heap.size, 0, none⟩) 0 0) 0 [] rfl O0.out (fun z h => by cases h) T k ct tr rfl HK.out.symm ct (TI.out.below BN3.out) k (by omega) (by omega) HB0.out ?_
          intro A3 c3 E3 own3 gr3 bel3
          rw [List.nil_append] at own3
          have BN4 := Lib.hid (BN3.out.trans (bel3.mono SZ0.out))
          have HB0 := Lib.hid (Nat.le_trans HB0.out bel3.size)
          have RY := Lib.hid (RY.out.chg (⟨gr3.os, gr3.tape, gr3.output, gr3.size, fun k hk h1 _ => gr3.block k hk (fun e => by simp [Value.ownBlock] at e; exact h1 (by first | exact e | exact e.symm))⟩ : Chg Wn0.heap.size Wn0.heap.size E9 E3) (fun x hx => by cases hx; exact NE.out) (fun x hx => by cases hx; exact NE.out))
          have O3 := Lib.hid own3
          clear own3 gr3 bel3 O0
          refine hK.out _ _ ?_ (fun hHeld => ?_)
          · (try dsimp only)
            exact KS.out _ BN4.out
          clear hK K
          (try simp only [Act.put, lsA, lsZ, lsS])
          refine wpAnyH_ready (rs := [10]) (by kernel_rfl) (by simp) ?_
          refine AllReadyH.cons (o := og4) rfl (fun K hK => ?_) ?_
          · unfold og4; rw [if_pos (by rfl)]
            refine app_revrow_op (.tmp 106) (.tmp 112) rfl Wn0.heap.size _ k tr rfl O3.out TW.out (some ⟨E0.heap.size, 0, none⟩) 1 1 [(nn, r0x)] rfl rfl 1 RY.out (k + 1) rfl (by omega) HB0.out ?_
            intro A9 c9 E10 own9 gr9 bel9
            have BN5 := Lib.hid (BN4.out.trans (bel9.mono SZ0.out))
            have OF : Hid (Off A9 (w.heap.size + 1 + 1)) := Lib.hid (fun x hx => by subst hx; have h1 := (own9.lt x.block rfl).1; have h2 := SZ0.out; have h3 := GI.out.lt; omega)
            have OA : Hid (∀ x, A9 = some x → w.heap.size + 1 + 1 + 1 + 1 < x.block) := Lib.hid (fun x hx => by subst hx; have h1 := (own9.lt x.block rfl).1; have h2 := SZ0.out; have h3 := GI.out.lt; omega)
            have RF := Lib.hid (rev_row own9 (ev_all TW.out HY.out))
            clear own9 gr9 bel9 O3 RY
            refine hK.out _ _ ?_ (fun hHeld => ?_)
            · (try dsimp only)
              exact KS.out _ BN5.out
            clear hK K
            (try simp only [Act.put, lsA, lsZ, lsS])
            refine wpAnyH_take (i := 11) (v := ?_) rfl (by kernel_rfl) (by kernel_rfl) (by kernel_rfl) (fun _ _ _ h => h) (Or.inl ⟨by rfl, ?_⟩) (by assumption) ?_
            rotate_left
            · intro w hSw; (try dsimp only at hSw); go_simp <;> (with_reducible rfl)
            (try simp only [Act.put, lsA, lsZ, lsS])
            refine wpAnyH_ready (rs := [12]) (by kernel_rfl) (by simp) ?_
            refine AllReadyH.cons (o := og5) rfl (fun K hK => ?_) ?_
            · unfold og5; obtain ⟨E12, e12, g12, x12⟩ := (GI.out.below BN5.out).setD 2 (.slice A9 (k + 1) c9)
              have y2 := (GI.out.below BN5.out).d.cell 2; have f2 := (GI.out.below BN5.out).d.frozen 2
              simp only [List.getElem?_cons_succ, List.getElem?_cons_zero] at y2
              have GF := Lib.hid g12
              have RG := Lib.hid (RF.out.chg x12 OF.out OF.out)
              have KQ := Lib.hid ((g12.c.cell 1).trans HC.out)
              clear g12 x12
              go_simp
              clear y2 f2 e12
              refine hK.out _ _ ?_ (fun hHeld => ?_)
              · (try dsimp only)
                exact KQ.out
              clear hK K
              (try simp only [Act.put, lsA, lsZ, lsS])
              refine wpAnyH_done (by kernel_rfl) ?_ _
              refine NoPanic.normal ?_
              exact h _ _ _ _ _ _ _ _ _ _ _ _ _ _ _ GF.out RG.out OA.out
            exact AllReadyH.nil
          exact AllReadyH.nil
        exact AllReadyH.nil
      exact AllReadyH.nil
    exact AllReadyH.nil
  refine AllReadyH.cons (o := og1) rfl (fun K hK => ?_) ?_
  · unfold og1; have y2 := (GI.out.below BN0.out).d.cell 2
    simp only [List.getElem?_cons_succ, List.getElem?_cons_zero] at y2
    go_simp
    have BN1 := BN0
    clear y2
    refine hK.out _ _ ?_ (fun hHeld => ?_)
    · (try dsimp only)
      exact KS.out _ BN1.out
    clear hK K
    (try simp only [Act.put, lsA, lsZ, lsS])
    refine wpAnyH_ready (rs := [0, 9]) (by kernel_rfl) (by simp) ?_
    refine AllReadyH.cons (o := og0) rfl (fun K hK => ?_) ?_
    · unfold og0; go_simp
      obtain ⟨E0, en0, o0, q0⟩ := allocE Wn0
      rw [en0]
      have O0 := Lib.hid o0
      have BN2 := Lib.hid (BN1.out.trans (q0.mono BN1.out.size))
      have SZ0 := Lib.hid BN1.out.size
      have BQ0 := Lib.hid q0
      have OL0 : Hid (Wn0.heap.size < E0.heap.size) := Lib.hid (o0.lt _ rfl).2
      have HB0 := Lib.hid q0.size
      clear en0 o0 q0
      refine hK.out _ _ ?_ (fun hHeld => ?_)
      · (try dsimp only)
        exact KS.out _ BN2.out
      clear hK K
      (try simp only [Act.put, lsA, lsZ, lsS])
      refine wpAnyH_ready (rs := [3, 9]) (by kernel_rfl) (by simp) ?_
      refine AllReadyH.cons (o := og2) rfl (fun K hK => ?_) ?_
      · unfold og2; rw [if_pos (by rfl)]
        refine app_revrow_op (.tmp 103) (.tmp 105) rfl Wn0.heap.size (.slice (some ⟨Wn0.heap.size, 0, none⟩) 0 0) 0 [] rfl O0.out (fun z h => by cases h) T k ct tr rfl HK.out.symm ct (TI.out.below BN2.out) k (by omega) (by omega) HB0.out ?_
        intro A3 c3 E3 own3 gr3 bel3
        rw [List.nil_append] at own3
        have BN3 := Lib.hid (BN2.out.trans (bel3.mono SZ0.out))
        have HB0 := Lib.hid (Nat.le_trans HB0.out bel3.size)
        have O3 := Lib.hid own3
        clear own3 gr3 bel3 O0
        refine hK.out _ _ ?_ (fun hHeld => ?_)
        · (try dsimp only)
          exact KS.out _ BN3.out
        clear hK K
        (try simp only [Act.put, lsA, lsZ, lsS])
        refine wpAnyH_ready (rs := [9]) (by kernel_rfl) (by simp) ?_
        refine AllReadyH.cons (o := og3) rfl (fun K hK => ?_) ?_
        · unfold og3; go_simp
          obtain ⟨E9, en9, r9, q9⟩ := allocY E3 (nn, r0x) HY.out
          simp only at en9
          rw [en9]
          have RY := Lib.hid r9
          have BN4 := Lib.hid (BN3.out.trans (q9.mono BN3.out.size))
          have EL9 : Hid (E3.heap.size < E9.heap.size) := Lib.hid (by rw [← en9]; simp)
          have O3 := Lib.hid (rev_keep O3.out q9)
          have HB0 := Lib.hid (Nat.le_trans HB0.out q9.size)
          clear en9 r9 q9
          refine hK.out _ _ ?_ (fun hHeld => ?_)
          · (try dsimp only)
            exact KS.out _ BN4.out
          clear hK K
          (try simp only [Act.put, lsA, lsZ, lsS])
          refine wpAnyH_ready (rs := [10]) (by kernel_rfl) (by simp) ?_
          refine AllReadyH.cons (o := og4) rfl (fun K hK => ?_) ?_
          · unfold og4; rw [if_pos (by rfl)]
            refine app_revrow_op (.tmp 106) (.tmp 112) rfl Wn0.heap.size _ k tr rfl O3.out TW.out (some ⟨E3.heap.size, 0, none⟩) 1 1 [(nn, r0x)] rfl rfl 1 RY.out (k + 1) rfl (by omega) HB0.out ?_
            intro A9 c9 E10 own9 gr9 bel9
            have BN5 := Lib.hid (BN4.out.trans (bel9.mono SZ0.out))
            have OF : Hid (Off A9 (w.heap.size + 1 + 1)) := Lib.hid (fun x hx => by subst hx; have h1 := (own9.lt x.block rfl).1; have h2 := SZ0.out; have h3 := GI.out.lt; omega)
            have OA : Hid (∀ x, A9 = some x → w.heap.size + 1 + 1 + 1 + 1 < x.block) := Lib.hid (fun x hx => by subst hx; have h1 := (own9.lt x.block rfl).1; have h2 := SZ0.out; have h3 := GI.out.lt; omega)
            have RF := Lib.hid (rev_row own9 (ev_all TW.out HY.out))
            clear own9 gr9 bel9 O3 RY
            refine hK.out _ _ ?_ (fun hHeld => ?_)
            · (try dsimp only)
              exact KS.out _ BN5.out
            clear hK K
            (try simp only [Act.put, lsA, lsZ, lsS])
            refine wpAnyH_take (i := 11) (v := ?_) rfl (by kernel_rfl) (by kernel_rfl) (by kernel_rfl) (fun _ _ _ h => h) (Or.inl ⟨by rfl, ?_⟩) (by assumption) ?_
            rotate_left
            · intro w hSw; (try dsimp only at hSw); go_simp <;> (with_reducible rfl)
            (try simp only [Act.put, lsA, lsZ, lsS])
            refine wpAnyH_ready (rs := [12]) (by kernel_rfl) (by simp) ?_
            refine AllReadyH.cons (o := og5) rfl (fun K hK => ?_) ?_
            · unfold og5; obtain ⟨E12, e12, g12, x12⟩ := (GI.out.below BN5.out).setD 2 (.slice A9 (k + 1) c9)
              have y2 := (GI.out.below BN5.out).d.cell 2; have f2 := (GI.out.below BN5.out).d.frozen 2
              simp only [List.getElem?_cons_succ, List.getElem?_cons_zero] at y2
              have GF := Lib.hid g12
              have RG := Lib.hid (RF.out.chg x12 OF.out OF.out)
              have KQ := Lib.hid ((g12.c.cell 1).trans HC.out)
              clear g12 x12
              go_simp
              clear y2 f2 e12
              refine hK.out _ _ ?_ (fun hHeld => ?_)
              · (try dsimp only)
                exact KQ.out
              clear hK K
              (try simp only [Act.put, lsA, lsZ, lsS])
              refine wpAnyH_done (by kernel_rfl) ?_ _
              refine NoPanic.normal ?_
              exact h _ _ _ _ _ _ _ _ _ _ _ _ _ _ _ GF.out RG.out OA.out
            exact AllReadyH.nil
          exact AllReadyH.nil
        exact AllReadyH.nil
      refine AllReadyH.cons (o := og3) rfl (fun K hK => ?_) ?_
      · unfold og3; go_simp
        obtain ⟨E9, en9, r9, q9⟩ := allocY E0 (nn, r0x) HY.out
        simp only at en9
        rw [en9]
        have RY := Lib.hid r9
        have BN3 := Lib.hid (BN2.out.trans (q9.mono BN2.out.size))
        have EL9 : Hid (E0.heap.size < E9.heap.size) := Lib.hid (by rw [← en9]; simp)
        have O0 := Lib.hid (rev_keep O0.out q9)
        have NE : Hid (E0.heap.size ≠ Wn0.heap.size) := Lib.hid (Nat.ne_of_gt OL0.out)
        have HB0 := Lib.hid (Nat.le_trans HB0.out q9.size)
        clear en9 r9 q9
        refine hK.out _ _ ?_ (fun hHeld => ?_)
        · (try dsimp only)
          exact KS.out _ BN3.out
        clear hK K
        (try simp only [Act.put, lsA, lsZ, lsS])
        refine wpAnyH_ready (rs := [3]) (by kernel_rfl) (by simp) ?_
        refine AllReadyH.cons (o := og2) rfl (fun K hK => ?_) ?_
        · unfold og2; rw [if_pos (by rfl)]
          refine app_revrow_op (.tmp 103) (.tmp 105) rfl Wn0.heap.size (.slice (some ⟨Wn0.heap.size, 0, none⟩) 0 0) 0 [] rfl O0.out (fun z h => by cases h) T k ct tr rfl HK.out.symm ct (TI.out.below BN3.out) k (by omega) (by omega) HB0.out ?_
          intro A3 c3 E3 own3 gr3 bel3
          rw [List.nil_append] at own3
          have BN4 := Lib.hid (BN3.out.trans (bel3.mono SZ0.out))
          have HB0 := Lib.hid (Nat.le_trans HB0.out bel3.size)
          have RY := Lib.hid (RY.out.chg (⟨gr3.os, gr3.tape, gr3.output, gr3.size, fun k hk h1 _ => gr3.block k hk (fun e => by simp [Value.ownBlock] at e; exact h1 (by first | exact e | exact e.symm))⟩ : Chg Wn0.heap.size Wn0.heap.size E9 E3) (fun x hx => by cases hx; exact NE.out) (fun x hx => by cases hx; exact NE.out))
          have O3 := Lib.hid own3
          clear own3 gr3 bel3 O0
          refine hK.out _ _ ?_ (fun hHeld => ?_)
          · (try dsimp only)
            exact KS.out _ BN4.out
          clear hK K
          (try simp only [Act.put, lsA, lsZ, lsS])
          refine wpAnyH_ready (rs := [10]) (by kernel_rfl) (by simp) ?_
          refine AllReadyH.cons (o := og4) rfl (fun K hK => ?_) ?_
          · unfold og4; rw [if_pos (by rfl)]
            refine app_revrow_op (.tmp 106) (.tmp 112) rfl Wn0.heap.size _ k tr rfl O3.out TW.out (some ⟨E0.heap.size, 0, none⟩) 1 1 [(nn, r0x)] rfl rfl 1 RY.out (k + 1) rfl (by omega) HB0.out ?_
            intro A9 c9 E10 own9 gr9 bel9
            have BN5 := Lib.hid (BN4.out.trans (bel9.mono SZ0.out))
            have OF : Hid (Off A9 (w.heap.size + 1 + 1)) := Lib.hid (fun x hx => by subst hx; have h1 := (own9.lt x.block rfl).1; have h2 := SZ0.out; have h3 := GI.out.lt; omega)
            have OA : Hid (∀ x, A9 = some x → w.heap.size + 1 + 1 + 1 + 1 < x.block) := Lib.hid (fun x hx => by subst hx; have h1 := (own9.lt x.block rfl).1; have h2 := SZ0.out; have h3 := GI.out.lt; omega)
            have RF := Lib.hid (rev_row own9 (ev_all TW.out HY.out))
            clear own9 gr9 bel9 O3 RY
            refine hK.out _ _ ?_ (fun hHeld => ?_)
            · (try dsimp only)
              exact KS.out _ BN5.out
            clear hK K
            (try simp only [Act.put, lsA, lsZ, lsS])
            refine wpAnyH_take (i := 11) (v := ?_) rfl (by kernel_rfl) (by kernel_rfl) (by kernel_rfl) (fun _ _ _ h => h) (Or.inl ⟨by rfl, ?_⟩) (by assumption) ?_
            rotate_left
            · intro w hSw; (try dsimp only at hSw); go_simp <;> (with_reducible rfl)
            (try simp only [Act.put, lsA, lsZ, lsS])
            refine wpAnyH_ready (rs := [12]) (by kernel_rfl) (by simp) ?_
            refine AllReadyH.cons (o := og5) rfl (fun K hK => ?_) ?_
            · unfold og5; obtain ⟨E12, e12, g12, x12⟩ := (GI.out.below BN5.out).setD 2 (.slice A9 (k + 1) c9)
              have y2 := (GI.out.below BN5.out).d.cell 2; have f2 := (GI.out.below BN5.out).d.frozen 2
              simp only [List.getElem?_cons_succ, List.getElem?_cons_zero] at y2
              have GF := Lib.hid g12
              have RG := Lib.hid (RF.out.chg x12 OF.out OF.out)
              have KQ := Lib.hid ((g12.c.cell 1).trans HC.out)
              clear g12 x12
              go_simp
              clear y2 f2 e12
              refine hK.out _ _ ?_ (fun hHeld => ?_)
              · (try dsimp only)
                exact KQ.out
              clear hK K
              (try simp only [Act.put, lsA, lsZ, lsS])
              refine wpAnyH_done (by kernel_rfl) ?_ _
              refine NoPanic.normal ?_
              exact h _ _ _ _ _ _ _ _ _ _ _ _ _ _ _ GF.out RG.out OA.out
            exact AllReadyH.nil
          exact AllReadyH.nil
        exact AllReadyH.nil
      exact AllReadyH.nil
    refine AllReadyH.cons (o := og3) rfl (fun K hK => ?_) ?_
    · unfold og3; go_simp
      obtain ⟨E9, en9, r9, q9⟩ := allocY Wn0 (nn, r0x) HY.out
      simp only at en9
      rw [en9]
      have RY := Lib.hid r9
      have BN2 := Lib.hid (BN1.out.trans (q9.mono BN1.out.size))
      have EL9 : Hid (Wn0.heap.size < E9.heap.size) := Lib.hid (by rw [← en9]; simp)
      clear en9 r9 q9
      refine hK.out _ _ ?_ (fun hHeld => ?_)
      · (try dsimp only)
        exact KS.out _ BN2.out
      clear hK K
      (try simp only [Act.put, lsA, lsZ, lsS])
      refine wpAnyH_ready (rs := [0]) (by kernel_rfl) (by simp) ?_
      refine AllReadyH.cons (o := og0) rfl (fun K hK => ?_) ?_
      · unfold og0; go_simp
        obtain ⟨E0, en0, o0, q0⟩ := allocE E9
        rw [en0]
        have O0 := Lib.hid o0
        have BN3 := Lib.hid (BN2.out.trans (q0.mono BN2.out.size))
        have SZ0 := Lib.hid BN2.out.size
        have BQ0 := Lib.hid q0
        have NE : Hid (Wn0.heap.size ≠ E9.heap.size) := Lib.hid (Nat.ne_of_lt (EL9.out))
        have RY := Lib.hid (RY.out.below q0)
        have OL0 : Hid (E9.heap.size < E0.heap.size) := Lib.hid (o0.lt _ rfl).2
        have HB0 := Lib.hid q0.size
        clear en0 o0 q0
        refine hK.out _ _ ?_ (fun hHeld => ?_)
        · (try dsimp only)
          exact KS.out _ BN3.out
        clear hK K
        (try simp only [Act.put, lsA, lsZ, lsS])
        refine wpAnyH_ready (rs := [3]) (by kernel_rfl) (by simp) ?_
        refine AllReadyH.cons (o := og2) rfl (fun K hK => ?_) ?_
        · unfold og2; rw [if_pos (by rfl)]
          refine app_revrow_op (.tmp 103) (.tmp 105) rfl E9.heap.size (.slice (some ⟨E9.heap.size, 0, none⟩) 0 0) 0 [] rfl O0.out (fun z h => by cases h) T k ct tr rfl HK.out.symm ct (TI.out.below BN3.out) k (by omega) (by omega) HB0.out ?_
          intro A3 c3 E3 own3 gr3 bel3
          rw [List.nil_append] at own3
          have BN4 := Lib.hid (BN3.out.trans (bel3.mono SZ0.out))
          have HB0 := Lib.hid (Nat.le_trans HB0.out bel3.size)
          have RY := Lib.hid (RY.out.chg (⟨gr3.os, gr3.tape, gr3.output, gr3.size, fun k hk h1 _ => gr3.block k hk (fun e => by simp [Value.ownBlock] at e; exact h1 (by first | exact e | exact e.symm))⟩ : Chg E9.heap.size E9.heap.size E0 E3) (fun x hx => by cases hx; exact NE.out) (fun x hx => by cases hx; exact NE.out))
          have O3 := Lib.hid own3
          clear own3 gr3 bel3 O0
          refine hK.out _ _ ?_ (fun hHeld => ?_)
          · (try dsimp only)
            exact KS.out _ BN4.out
          clear hK K
          (try simp only [Act.put, lsA, lsZ, lsS])
          refine wpAnyH_ready (rs := [10]) (by kernel_rfl) (by simp) ?_
          refine AllReadyH.cons (o := og4) rfl (fun K hK => ?_) ?_
          · unfold og4; rw [if_pos (by rfl)]
            refine app_revrow_op (.tmp 106) (.tmp 112) rfl E9.heap.size _ k tr rfl O3.out TW.out (some ⟨Wn0.heap.size, 0, none⟩) 1 1 [(nn, r0x)] rfl rfl 1 RY.out (k + 1) rfl (by omega) HB0.out ?_
            intro A9 c9 E10 own9 gr9 bel9
            have BN5 := Lib.hid (BN4.out.trans (bel9.mono SZ0.out))
            have OF : Hid (Off A9 (w.heap.size + 1 + 1)) := Lib.hid (fun x hx => by subst hx; have h1 := (own9.lt x.block rfl).1; have h2 := SZ0.out; have h3 := GI.out.lt; omega)
            have OA : Hid (∀ x, A9 = some x → w.heap.size + 1 + 1 + 1 + 1 < x.block) := Lib.hid (fun x hx => by subst hx; have h1 := (own9.lt x.block rfl).1; have h2 := SZ0.out; have h3 := GI.out.lt; omega)
            have RF := Lib.hid (rev_row own9 (ev_all TW.out HY.out))
            clear own9 gr9 bel9 O3 RY
            refine hK.out _ _ ?_ (fun hHeld => ?_)
            · (try dsimp only)
              exact KS.out _ BN5.out
            clear hK K
            (try simp only [Act.put, lsA, lsZ, lsS])
            refine wpAnyH_take (i := 11) (v := ?_) rfl (by kernel_rfl) (by kernel_rfl) (by kernel_rfl) (fun _ _ _ h => h) (Or.inl ⟨by rfl, ?_⟩) (by assumption) ?_
            rotate_left
            · intro w hSw; (try dsimp only at hSw); go_simp <;> (with_reducible rfl)
            (try simp only [Act.put, lsA, lsZ, lsS])
            refine wpAnyH_ready (rs := [12]) (by kernel_rfl) (by simp) ?_
            refine AllReadyH.cons (o := og5) rfl (fun K hK => ?_) ?_
            · unfold og5; obtain ⟨E12, e12, g12, x12⟩ := (GI.out.below BN5.out).setD 2 (.slice A9 (k + 1) c9)
              have y2 := (GI.out.below BN5.out).d.cell 2; have f2 := (GI.out.below BN5.out).d.frozen 2
              simp only [List.getElem?_cons_succ, List.getElem?_cons_zero] at y2
              have GF := Lib.hid g12
              have RG := Lib.hid (RF.out.chg x12 OF.out OF.out)
              have KQ := Lib.hid ((g12.c.cell 1).trans HC.out)
              clear g12 x12
              go_simp
              clear y2 f2 e12
              refine hK.out _ _ ?_ (fun hHeld => ?_)
              · (try dsimp only)
                exact KQ.out
              clear hK K
              (try simp only [Act.put, lsA, lsZ, lsS])
              refine wpAnyH_done (by kernel_rfl) ?_ _
              refine NoPanic.normal ?_
              exact h _ _ _ _ _ _ _ _ _ _ _ _ _ _ _ GF.out RG.out OA.out
            exact AllReadyH.nil
          exact AllReadyH.nil
        exact AllReadyH.nil
      exact AllReadyH.nil
    exact AllReadyH.nil
  refine AllReadyH.cons (o := og3) rfl (fun K hK => ?_) ?_
  · unfold og3; go_simp
    obtain ⟨E9, en9, r9, q9⟩ := allocY Wn0 (nn, r0x) HY.out
    simp only at en9
    rw [en9]
    have RY := Lib.hid r9
    have BN1 := Lib.hid (BN0.out.trans (q9.mono BN0.out.size))
    have EL9 : Hid (Wn0.heap.size < E9.heap.size) := Lib.hid (by rw [← en9]; simp)
    clear en9 r9 q9
    refine hK.out _ _ ?_ (fun hHeld => ?_)
    · (try dsimp only)
      exact KS.out _ BN1.out
    clear hK K
    (try simp only [Act.put, lsA, lsZ, lsS])
    refine wpAnyH_ready (rs := [0, 2]) (by kernel_rfl) (by simp) ?_
    refine AllReadyH.cons (o := og0) rfl (fun K hK => ?_) ?_
    · unfold og0; go_simp
      obtain ⟨E0, en0, o0, q0⟩ := allocE E9
      rw [en0]
      have O0 := Lib.hid o0
      have BN2 := Lib.hid (BN1.out.trans (q0.mono BN1.out.size))
      have SZ0 := Lib.hid BN1.out.size
      have BQ0 := Lib.hid q0
      have NE : Hid (Wn0.heap.size ≠ E9.heap.size) := Lib.hid (Nat.ne_of_lt (EL9.out))
      have RY := Lib.hid (RY.out.below q0)
      have OL0 : Hid (E9.heap.size < E0.heap.size) := Lib.hid (o0.lt _ rfl).2
      have HB0 := Lib.hid q0.size
      clear en0 o0 q0
      refine hK.out _ _ ?_ (fun hHeld => ?_)
      · (try dsimp only)
        exact KS.out _ BN2.out
      clear hK K
      (try simp only [Act.put, lsA, lsZ, lsS])
      refine wpAnyH_ready (rs := [2]) (by kernel_rfl) (by simp) ?_
      refine AllReadyH.cons (o := og1) rfl (fun K hK => ?_) ?_
      · unfold og1; have y2 := (GI.out.below BN2.out).d.cell 2
        simp only [List.getElem?_cons_succ, List.getElem?_cons_zero] at y2
        go_simp
        have BN3 := BN2
        clear y2
        refine hK.out _ _ ?_ (fun hHeld => ?_)
        · (try dsimp only)
          exact KS.out _ BN3.out
        clear hK K
        (try simp only [Act.put, lsA, lsZ, lsS])
        refine wpAnyH_ready (rs := [3]) (by kernel_rfl) (by simp) ?_
        refine AllReadyH.cons (o := og2) rfl (fun K hK => ?_) ?_
        · unfold og2; rw [if_pos (by rfl)]
          refine app_revrow_op (.tmp 103) (.tmp 105) rfl E9.heap.size (.slice (some ⟨E9.heap.size, 0, none⟩) 0 0) 0 [] rfl O0.out (fun z h => by cases h) T k ct tr rfl HK.out.symm ct (TI.out.below BN3.out) k (by omega) (by omega) HB0.out ?_
          intro A3 c3 E3 own3 gr3 bel3
          rw [List.nil_append] at own3
          have BN4 := Lib.hid (BN3.out.trans (bel3.mono SZ0.out))
          have HB0 := Lib.hid (Nat.le_trans HB0.out bel3.size)
          have RY := Lib.hid (RY.out.chg (⟨gr3.os, gr3.tape, gr3.output, gr3.size, fun k hk h1 _ => gr3.block k hk (fun e => by simp [Value.ownBlock] at e; exact h1 (by first | exact e | exact e.symm))⟩ : Chg E9.heap.size E9.heap.size E0 E3) (fun x hx => by cases hx; exact NE.out) (fun x hx => by cases hx; exact NE.out))
          have O3 := Lib.hid own3
          clear own3 gr3 bel3 O0
          refine hK.out _ _ ?_ (fun hHeld => ?_)
          · (try dsimp only)
            exact KS.out _ BN4.out
          clear hK K
          (try simp only [Act.put, lsA, lsZ, lsS])
          refine wpAnyH_ready (rs := [10]) (by kernel_rfl) (by simp) ?_
          refine AllReadyH.cons (o := og4) rfl (fun K hK => ?_) ?_
          · unfold og4; rw [if_pos (by rfl)]
            refine app_revrow_op (.tmp 106) (.tmp 112) rfl E9.heap.size _ k tr rfl O3.out TW.out (some ⟨Wn0.heap.size, 0, none⟩) 1 1 [(nn, r0x)] rfl rfl 1 RY.out (k + 1) rfl (by omega) HB0.out ?_
            intro A9 c9 E10 own9 gr9 bel9
            have BN5 := Lib.hid (BN4.out.trans (bel9.mono SZ0.out))
            have OF : Hid (Off A9 (w.heap.size + 1 + 1)) := Lib.hid (fun x hx => by subst hx; have h1 := (own9.lt x.block rfl).1; have h2 := SZ0.out; have h3 := GI.out.lt; omega)
            have OA : Hid (∀ x, A9 = some x → w.heap.size + 1 + 1 + 1 + 1 < x.block) := Lib.hid (fun x hx => by subst hx; have h1 := (own9.lt x.block rfl).1; have h2 := SZ0.out; have h3 := GI.out.lt; omega)
            have RF := Lib.hid (rev_row own9 (ev_all TW.out HY.out))
            clear own9 gr9 bel9 O3 RY
            refine hK.out _ _ ?_ (fun hHeld => ?_)
            · (try dsimp only)
              exact KS.out _ BN5.out
            clear hK K
            (try simp only [Act.put, lsA, lsZ, lsS])
            refine wpAnyH_take (i := 11) (v := ?_) rfl (by kernel_rfl) (by kernel_rfl) (by kernel_rfl) (fun _ _ _ h => h) (Or.inl ⟨by rfl, ?_⟩) (by assumption) ?_
            rotate_left
            · intro w hSw; (try dsimp only at hSw); go_simp <;> (with_reducible rfl)
            (try simp only [Act.put, lsA, lsZ, lsS])
            refine wpAnyH_ready (rs := [12]) (by kernel_rfl) (by simp) ?_
            refine AllReadyH.cons (o := og5) rfl (fun K hK => ?_) ?_
            · unfold og5; obtain ⟨E12, e12, g12, x12⟩ := (GI.out.below BN5.out).setD 2 (.slice A9 (k + 1) c9)
              have y2 := (GI.out.below BN5.out).d.cell 2; have f2 := (GI.out.below BN5.out).d.frozen 2
              simp only [List.getElem?_cons_succ, List.getElem?_cons_zero] at y2
              have GF := Lib.hid g12
              have RG := Lib.hid (RF.out.chg x12 OF.out OF.out)
              have KQ := Lib.hid ((g12.c.cell 1).trans HC.out)
              clear g12 x12
              go_simp
              clear y2 f2 e12
              refine hK.out _ _ ?_ (fun hHeld => ?_)
              · (try dsimp only)
                exact KQ.out
              clear hK K
              (try simp only [Act.put, lsA, lsZ, lsS])
              refine wpAnyH_done (by kernel_rfl) ?_ _
              refine NoPanic.normal ?_
              exact h _ _ _ _ _ _ _ _ _ _ _ _ _ _ _ GF.out RG.out OA.out
            exact AllReadyH.nil
          exact AllReadyH.nil
        exact AllReadyH.nil
      exact AllReadyH.nil
    refine AllReadyH.cons (o := og1) rfl (fun K hK => ?_) ?_
    · unfold og1; have y2 := (GI.out.below BN1.out).d.cell 2
      simp only [List.getElem?_cons_succ, List.getElem?_cons_zero] at y2
      go_simp
      have BN2 := BN1
      clear y2
      refine hK.out _ _ ?_ (fun hHeld => ?_)
      · (try dsimp only)
        exact KS.out _ BN2.out
      clear hK K
      (try simp only [Act.put, lsA, lsZ, lsS])
      refine wpAnyH_ready (rs := [0]) (by kernel_rfl) (by simp) ?_
      refine AllReadyH.cons (o := og0) rfl (fun K hK => ?_) ?_
      · unfold og0; go_simp
        obtain ⟨E0, en0, o0, q0⟩ := allocE E9
        rw [en0]
        have O0 := Lib.hid o0
        have BN3 := Lib.hid (BN2.out.trans (q0.mono BN2.out.size))
        have SZ0 := Lib.hid BN2.out.size
        have BQ0 := Lib.hid q0
        have NE : Hid (Wn0.heap.size ≠ E9.heap.size) := Lib.hid (Nat.ne_of_lt (EL9.out))
        have RY := Lib.hid (RY.out.below q0)
        have OL0 : Hid (E9.heap.size < E0.heap.size) := Lib.hid (o0.lt _ rfl).2
        have HB0 := Lib.hid q0.size
        clear en0 o0 q0
        refine hK.out _ _ ?_ (fun hHeld => ?_)
        · (try dsimp only)
          exact KS.out _ BN3.out
        clear hK K
        (try simp only [Act.put, lsA, lsZ, lsS])
        refine wpAnyH_ready (rs := [3]) (by kernel_rfl) (by simp) ?_
        refine AllReadyH.cons (o := og2) rfl (fun K hK => ?_) ?_
        · unfold og2; rw [if_pos (by rfl)]
          refine app_revrow_op (.tmp 103) (.tmp 105) rfl E9.heap.size (.slice (some ⟨E9.heap.size, 0, none⟩) 0 0) 0 [] rfl O0.out (fun z h => by cases h) T k ct tr rfl HK.out.symm ct (TI.out.below BN3.out) k (by omega) (by omega) HB0.out ?_
          intro A3 c3 E3 own3 gr3 bel3
          rw [List.nil_append] at own3
          have BN4 := Lib.hid (BN3.out.trans (bel3.mono SZ0.out))
          have HB0 := Lib.hid (Nat.le_trans HB0.out bel3.size)
          have RY := Lib.hid (RY.out.chg (⟨gr3.os, gr3.tape, gr3.output, gr3.size, fun k hk h1 _ => gr3.block k hk (fun e => by simp [Value.ownBlock] at e; exact h1 (by first | exact e | exact e.symm))⟩ : Chg E9.heap.size E9.heap.size E0 E3) (fun x hx => by cases hx; exact NE.out) (fun x hx => by cases hx; exact NE.out))
          have O3 := Lib.hid own3
          clear own3 gr3 bel3 O0
          refine hK.out _ _ ?_ (fun hHeld => ?_)
          · (try dsimp only)
            exact KS.out _ BN4.out
          clear hK K
          (try simp only [Act.put, lsA, lsZ, lsS])
          refine wpAnyH_ready (rs := [10]) (by kernel_rfl) (by simp) ?_
          refine AllReadyH.cons (o := og4) rfl (fun K hK => ?_) ?_
          · unfold og4; rw [if_pos (by rfl)]
            refine app_revrow_op (.tmp 106) (.tmp 112) rfl E9.heap.size _ k tr rfl O3.out TW.out (some ⟨Wn0.heap.size, 0, none⟩) 1 1 [(nn, r0x)] rfl rfl 1 RY.out (k + 1) rfl (by omega) HB0.out ?_
            intro A9 c9 E10 own9 gr9 bel9
            have BN5 := Lib.hid (BN4.out.trans (bel9.mono SZ0.out))
            have OF : Hid (Off A9 (w.heap.size + 1 + 1)) := Lib.hid (fun x hx => by subst hx; have h1 := (own9.lt x.block rfl).1; have h2 := SZ0.out; have h3 := GI.out.lt; omega)
            have OA : Hid (∀ x, A9 = some x → w.heap.size + 1 + 1 + 1 + 1 < x.block) := Lib.hid (fun x hx => by subst hx; have h1 := (own9.lt x.block rfl).1; have h2 := SZ0.out; have h3 := GI.out.lt; omega)
            have RF := Lib.hid (rev_row own9 (ev_all TW.out HY.out))
            clear own9 gr9 bel9 O3 RY
            refine hK.out _ _ ?_ (fun hHeld => ?_)
            · (try dsimp only)
              exact KS.out _ BN5.out
            clear hK K
            (try simp only [Act.put, lsA, lsZ, lsS])
            refine wpAnyH_take (i := 11) (v := ?_) rfl (by kernel_rfl) (by kernel_rfl) (by kernel_rfl) (fun _ _ _ h => h) (Or.inl ⟨by rfl, ?_⟩) (by assumption) ?_
            rotate_left
            · intro w hSw; (try dsimp only at hSw); go_simp <;> (with_reducible rfl)
            (try simp only [Act.put, lsA, lsZ, lsS])
            refine wpAnyH_ready (rs := [12]) (by kernel_rfl) (by simp) ?_
            refine AllReadyH.cons (o := og5) rfl (fun K hK => ?_) ?_
            · unfold og5; obtain ⟨E12, e12, g12, x12⟩ := (GI.out.below BN5.out).setD 2 (.slice A9 (k + 1) c9)
              have y2 := (GI.out.below BN5.out).d.cell 2; have f2 := (GI.out.below BN5.out).d.frozen 2
              simp only [List.getElem?_cons_succ, List.getElem?_cons_zero] at y2
              have GF := Lib.hid g12
              have RG := Lib.hid (RF.out.chg x12 OF.out OF.out)
              have KQ := Lib.hid ((g12.c.cell 1).trans HC.out)
              clear g12 x12
              go_simp
              clear y2 f2 e12
              refine hK.out _ _ ?_ (fun hHeld => ?_)
              · (try dsimp only)
                exact KQ.out
              clear hK K
              (try simp only [Act.put, lsA, lsZ, lsS])
              refine wpAnyH_done (by kernel_rfl) ?_ _
              refine NoPanic.normal ?_
              exact h _ _ _ _ _ _ _ _ _ _ _ _ _ _ _ GF.out RG.out OA.out
            exact AllReadyH.nil
          exact AllReadyH.nil
        exact AllReadyH.nil
      exact AllReadyH.nil
    exact AllReadyH.nil
  exact AllReadyH.nil
set_option maxRecDepth 100000 in
set_option maxHeartbeats 8000000 in
theorem rgate_over (xb yb cB cU : Nat) (pc r0 r1 r2 r3 r4 r5 r6 r7 b s nn : Int) (RA : Option Addr) (rc n : Nat) (tk cd : Int) (T : Option Addr) (ct k : Nat) (w : World)  :
  Calls Tryz.prog 32 #[.agg #[.int .u32 pc, .int .u32 r0, .int .u32 r1, .int .u32 r2, .int .u32 r3, .int .u32 r4, .int .u32 r5, .int .u32 r6, .int .u32 r7, .int .u32 b, .int .u32 s], .agg #[.slice (some ⟨xb, 0, none⟩) 2200 cB, .slice (some ⟨yb, 0, none⟩) 2200 cU], .agg #[.slice RA n rc, .int .i64 tk, .slice T k ct, .bool true, .int .u32 cd], .int .i64 nn] w fun e w' => e = .returned (.tuple #[.agg #[.int .u32 pc, .int .u32 r0, .int .u32 r1, .int .u32 r2, .int .u32 r3, .int .u32 r4, .int .u32 r5, .int .u32 r6, .int .u32 r7, .int .u32 b, .int .u32 s], .agg #[.slice RA n rc, .int .i64 tk, .slice T k ct, .bool true, .int .u32 cd]]) ∧ Below w.heap.size w w' := by
 obtain ⟨G1, e1, g1⟩ := GtS.new w [.int .u32 pc, .int .u32 r0, .int .u32 r1, .int .u32 r2, .int .u32 r3, .int .u32 r4, .int .u32 r5, .int .u32 r6, .int .u32 r7, .int .u32 b, .int .u32 s] [.slice RA n rc, .int .i64 tk, .slice T k ct, .bool true, .int .u32 cd] (.slice (some ⟨xb, 0, none⟩) 2200 cB) (.slice (some ⟨yb, 0, none⟩) 2200 cU)
 obtain ⟨⟨a0, a1, a2, a3, a4, a5, a6, a7, a8, a9, a10⟩, _⟩ := has11 g1.c
 obtain ⟨⟨b0, b1, b2, b3, b4⟩, ⟨h0, h1, h2, h3, h4⟩⟩ := has5 g1.d
 obtain ⟨⟨m0, m1, m2, m3, m4, m5, m6, m7, m8, m9, m10⟩, ⟨f0, f1, f2, f3, f4, f5, f6, f7, f8, f9, f10⟩⟩ := has11 g1.rc
 obtain ⟨⟨n0, n1, n2, n3, n4⟩, ⟨q0, q1, q2, q3, q4⟩⟩ := has5 g1.rd
 have GB := Lib.hid g1.bel
 clear g1
 go_enter Tryz.func32, Tryz.ntmps32
 go_wp2_with fail
 go_region
 all_goals go_wp2_with fail
 all_goals refine bodyPost_ret (v := .tuple #[.agg #[.int .u32 pc, .int .u32 r0, .int .u32 r1, .int .u32 r2, .int .u32 r3, .int .u32 r4, .int .u32 r5, .int .u32 r6, .int .u32 r7, .int .u32 b, .int .u32 s], .agg #[.slice RA n rc, .int .i64 tk, .slice T k ct, .bool true, .int .u32 cd]]) (by simp [results, Tryz.results32, go_sem, m0, m1, m2, m3, m4, m5, m6, m7, m8, m9, m10, n0, n1, n2, n3, n4]) rfl ?_
 all_goals obtain ⟨x1, x2⟩ := rst16 GB.out (.int .u32 pc) (.int .u32 r0) (.int .u32 r1) (.int .u32 r2) (.int .u32 r3) (.int .u32 r4) (.int .u32 r5) (.int .u32 r6) (.int .u32 r7) (.int .u32 b) (.int .u32 s) (.slice RA n rc) (.int .i64 tk) (.slice T k ct) (.bool true) (.int .u32 cd)
 all_goals exact ⟨rfl, x2⟩
set_option maxRecDepth 100000 in
set_option maxHeartbeats 8000000 in
theorem rgate_low (xb yb cB cU : Nat) (pc r0 r1 r2 r3 r4 r5 r6 r7 b s nn : Int) (RA : Option Addr) (rc n : Nat) (tk cd : Int) (T : Option Addr) (ct k : Nat) (w : World) (h : nn < 0) :
  Calls Tryz.prog 32 #[.agg #[.int .u32 pc, .int .u32 r0, .int .u32 r1, .int .u32 r2, .int .u32 r3, .int .u32 r4, .int .u32 r5, .int .u32 r6, .int .u32 r7, .int .u32 b, .int .u32 s], .agg #[.slice (some ⟨xb, 0, none⟩) 2200 cB, .slice (some ⟨yb, 0, none⟩) 2200 cU], .agg #[.slice RA n rc, .int .i64 tk, .slice T k ct, .bool false, .int .u32 cd], .int .i64 nn] w fun e w' => e = .returned (.tuple #[.agg #[.int .u32 pc, .int .u32 r0, .int .u32 r1, .int .u32 r2, .int .u32 r3, .int .u32 r4, .int .u32 r5, .int .u32 r6, .int .u32 r7, .int .u32 b, .int .u32 s], .agg #[.slice RA n rc, .int .i64 tk, .slice T k ct, .bool false, .int .u32 cd]]) ∧ Below w.heap.size w w' := by
 have hq : decide (nn < 0) = true := decide_eq_true h
 clear h
 obtain ⟨G1, e1, g1⟩ := GtS.new w [.int .u32 pc, .int .u32 r0, .int .u32 r1, .int .u32 r2, .int .u32 r3, .int .u32 r4, .int .u32 r5, .int .u32 r6, .int .u32 r7, .int .u32 b, .int .u32 s] [.slice RA n rc, .int .i64 tk, .slice T k ct, .bool false, .int .u32 cd] (.slice (some ⟨xb, 0, none⟩) 2200 cB) (.slice (some ⟨yb, 0, none⟩) 2200 cU)
 obtain ⟨⟨a0, a1, a2, a3, a4, a5, a6, a7, a8, a9, a10⟩, _⟩ := has11 g1.c
 obtain ⟨⟨b0, b1, b2, b3, b4⟩, ⟨h0, h1, h2, h3, h4⟩⟩ := has5 g1.d
 obtain ⟨⟨m0, m1, m2, m3, m4, m5, m6, m7, m8, m9, m10⟩, ⟨f0, f1, f2, f3, f4, f5, f6, f7, f8, f9, f10⟩⟩ := has11 g1.rc
 obtain ⟨⟨n0, n1, n2, n3, n4⟩, ⟨q0, q1, q2, q3, q4⟩⟩ := has5 g1.rd
 have GB := Lib.hid g1.bel
 clear g1
 go_enter Tryz.func32, Tryz.ntmps32
 go_wp2_with fail
 go_region
 all_goals go_wp2_with fail
 all_goals refine bodyPost_ret (v := .tuple #[.agg #[.int .u32 pc, .int .u32 r0, .int .u32 r1, .int .u32 r2, .int .u32 r3, .int .u32 r4, .int .u32 r5, .int .u32 r6, .int .u32 r7, .int .u32 b, .int .u32 s], .agg #[.slice RA n rc, .int .i64 tk, .slice T k ct, .bool false, .int .u32 cd]]) (by simp [results, Tryz.results32, go_sem, m0, m1, m2, m3, m4, m5, m6, m7, m8, m9, m10, n0, n1, n2, n3, n4]) rfl ?_
 all_goals obtain ⟨x1, x2⟩ := rst16 GB.out (.int .u32 pc) (.int .u32 r0) (.int .u32 r1) (.int .u32 r2) (.int .u32 r3) (.int .u32 r4) (.int .u32 r5) (.int .u32 r6) (.int .u32 r7) (.int .u32 b) (.int .u32 s) (.slice RA n rc) (.int .i64 tk) (.slice T k ct) (.bool false) (.int .u32 cd)
 all_goals exact ⟨rfl, x2⟩
set_option maxRecDepth 100000 in
set_option maxHeartbeats 8000000 in
theorem rgate_high (xb yb cB cU : Nat) (pc r0 r1 r2 r3 r4 r5 r6 r7 b s nn : Int) (RA : Option Addr) (rc n : Nat) (tk cd : Int) (T : Option Addr) (ct k : Nat) (w : World) (h : 3 < nn) :
  Calls Tryz.prog 32 #[.agg #[.int .u32 pc, .int .u32 r0, .int .u32 r1, .int .u32 r2, .int .u32 r3, .int .u32 r4, .int .u32 r5, .int .u32 r6, .int .u32 r7, .int .u32 b, .int .u32 s], .agg #[.slice (some ⟨xb, 0, none⟩) 2200 cB, .slice (some ⟨yb, 0, none⟩) 2200 cU], .agg #[.slice RA n rc, .int .i64 tk, .slice T k ct, .bool false, .int .u32 cd], .int .i64 nn] w fun e w' => e = .returned (.tuple #[.agg #[.int .u32 pc, .int .u32 r0, .int .u32 r1, .int .u32 r2, .int .u32 r3, .int .u32 r4, .int .u32 r5, .int .u32 r6, .int .u32 r7, .int .u32 b, .int .u32 s], .agg #[.slice RA n rc, .int .i64 tk, .slice T k ct, .bool false, .int .u32 cd]]) ∧ Below w.heap.size w w' := by
 have hq : decide (nn < 0) = false := decide_eq_false (by omega)
 have hq2 : decide (3 < nn) = true := decide_eq_true h
 clear h
 obtain ⟨G1, e1, g1⟩ := GtS.new w [.int .u32 pc, .int .u32 r0, .int .u32 r1, .int .u32 r2, .int .u32 r3, .int .u32 r4, .int .u32 r5, .int .u32 r6, .int .u32 r7, .int .u32 b, .int .u32 s] [.slice RA n rc, .int .i64 tk, .slice T k ct, .bool false, .int .u32 cd] (.slice (some ⟨xb, 0, none⟩) 2200 cB) (.slice (some ⟨yb, 0, none⟩) 2200 cU)
 obtain ⟨⟨a0, a1, a2, a3, a4, a5, a6, a7, a8, a9, a10⟩, _⟩ := has11 g1.c
 obtain ⟨⟨b0, b1, b2, b3, b4⟩, ⟨h0, h1, h2, h3, h4⟩⟩ := has5 g1.d
 obtain ⟨⟨m0, m1, m2, m3, m4, m5, m6, m7, m8, m9, m10⟩, ⟨f0, f1, f2, f3, f4, f5, f6, f7, f8, f9, f10⟩⟩ := has11 g1.rc
 obtain ⟨⟨n0, n1, n2, n3, n4⟩, ⟨q0, q1, q2, q3, q4⟩⟩ := has5 g1.rd
 have GB := Lib.hid g1.bel
 clear g1
 go_enter Tryz.func32, Tryz.ntmps32
 go_wp2_with fail
 go_region
 all_goals go_wp2_with fail
 all_goals refine bodyPost_ret (v := .tuple #[.agg #[.int .u32 pc, .int .u32 r0, .int .u32 r1, .int .u32 r2, .int .u32 r3, .int .u32 r4, .int .u32 r5, .int .u32 r6, .int .u32 r7, .int .u32 b, .int .u32 s], .agg #[.slice RA n rc, .int .i64 tk, .slice T k ct, .bool false, .int .u32 cd]]) (by simp [results, Tryz.results32, go_sem, m0, m1, m2, m3, m4, m5, m6, m7, m8, m9, m10, n0, n1, n2, n3, n4]) rfl ?_
 all_goals obtain ⟨x1, x2⟩ := rst16 GB.out (.int .u32 pc) (.int .u32 r0) (.int .u32 r1) (.int .u32 r2) (.int .u32 r3) (.int .u32 r4) (.int .u32 r5) (.int .u32 r6) (.int .u32 r7) (.int .u32 b) (.int .u32 s) (.slice RA n rc) (.int .i64 tk) (.slice T k ct) (.bool false) (.int .u32 cd)
 all_goals exact ⟨rfl, x2⟩
end Go.Proofs.YtbgnkljeodandaaGreat.Mm
