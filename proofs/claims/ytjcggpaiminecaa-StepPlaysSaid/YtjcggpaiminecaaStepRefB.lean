/- The document's own step: the blocks of a call. -/
import Derived.Test.YtjcggpaiminecaaStepRefA
namespace Go.Proofs.Ytjcggpaiminecaa.Mm
open Go.ChangeShapes Go.WideShapes Go.ChangeAt Go.RowKit
set_option linter.unusedVariables false

/-- a row of the call's own, as a slice that reads as a list -/
theorem row_of_own {w : World} {base n : Nat} {v : Value} {L : List Int} (h : w.ownsRow base 5 1 v n (L.map (Value.int .u8))) (hb : Bytes L) : ∃ A cap, v = .slice A n cap ∧ n = L.length ∧ RowAt w A cap L := by
  have hl : L.length = n := by have := h.1; simpa using this
  rcases h.2 with ⟨rfl, rfl⟩ | ⟨g, cap, cur, rfl, _, hh, hc, hm, _⟩
  · have : L = [] := List.eq_nil_of_length_eq_zero hl
    subst this
    exact ⟨none, 0, rfl, rfl, Nat.le_refl _, Nat.zero_le _, hb, fun h => absurd rfl h⟩
  · refine ⟨_, cap, rfl, hl.symm, by omega, hm, hb, fun hne => ⟨_, rfl, ?_, fun i hi => ?_⟩⟩
    · have := h.lt g rfl; exact this.2
    · exact h.cells (g := g) rfl i (.int .u8 (L.getD i 0)) (by simp [List.getElem?_eq_getElem hi, List.getD])

theorem append_nil_run {w : World} {base : Nat} {ty : TypeId} {v : Value} {n : Nat} {xs : List Value} (hown : w.ownsRow base 5 1 v n xs) (c : Nat) :
    (Builtin.append_ #[30, 30] ty #[v, .slice none 0 c]).run Try.prog w = .ok v w := by
  obtain ⟨u0, hu0, hz0, hz1, hz2⟩ := info_parts u8_info
  rcases hown.2 with ⟨rfl, rfl⟩ | ⟨g, cap, cur, rfl, _, _, hnc, _⟩
  · simp [Builtin.append_, run_underlying Try.underlying30, sizeOf, typeInfo, hu0, Builtin.lenOf, Builtin.firstCells]
  · simp [Builtin.append_, run_underlying Try.underlying30, sizeOf, typeInfo, hu0, Builtin.lenOf, Builtin.firstCells, hnc, storeCells]

/-- bytes that read as a list, put behind a row of the call's own -/
theorem append_row {w : World} {ops : Array Oper} {rest : List Oper} {o : Oper} {a : Act} {Q : Exit → Act → World → Prop} (hgd : o.guard = none) (s x : Operand)
    (ho : o.op = .call { callee := .builtin .append, args := #[s, x], argTypes := #[30, 30] })
    (base : Nat) (v : Value) (n : Nat) (L : List Int) (hs : a.eval s = v) (hown : w.ownsRow base 5 1 v n (L.map (Value.int .u8))) (hL : Bytes L)
    (A : Option Addr) (m c : Nat) (M : List Int) (hx : a.eval x = .slice A m c) (hm : m = M.length) (cap : Nat) (hr : RowAt w A cap M) (n' : Nat) (hn' : n' = n + m) (hlen : n + m ≤ 1000000) (hbase : base ≤ w.heap.size)
    (h : ∀ A' cap' w', w'.ownsRow base 5 1 (.slice A' n' cap') n' ((L ++ M).map (Value.int .u8)) → RowAt w' A' cap' (L ++ M) → Below base w w' → wpList Try.prog ops Q rest (a.put o.dst (.slice A' n' cap')) w') :
    wpList Try.prog ops Q (o :: rest) a w := by
  subst hn'
  obtain ⟨u0, hu0, hz0, hz1, hz2⟩ := info_parts u8_info
  have hLM : Bytes (L ++ M) := fun z hz => by
    rcases List.mem_append.1 hz with h | h
    · exact hL z h
    · exact hr.2.2.1 z h
  cases A with
  | none =>
    have hM : M = [] := by
      by_cases hne : M = []
      · exact hne
      · obtain ⟨ad, h, _⟩ := hr.2.2.2 hne; cases h
    subst hM
    subst hm
    refine wpList_plain hgd fun K hK => ?_
    unfold Oper.wp execOp
    simp only [ho, resolve, invoke, builtin, Sem.run_bind, Sem.run_pure, Result.andThen_ok, List.map_toArray, List.map_cons, List.map_nil, hs, hx, List.length_nil, append_nil_run hown c]
    have hown' : w.ownsRow base 5 1 v (n + 0) ((L ++ []).map (Value.int .u8)) := by simpa using hown
    obtain ⟨A', cap', rfl, _, hrow⟩ := row_of_own hown' hLM
    exact hK _ _ (h A' cap' w hown' hrow (Below.refl _ _))
  | some ad =>
    refine wpList_append_own_at w hgd s x 30 ho base 5 u0 _ 1 1 Try.underlying30 hu0 hz0 hz1 hz2 rfl (by decide) v n (L.map (Value.int .u8)) hs hown ad m c (M.map (Value.int .u8)) hx (by simp [hm])
      (fun j u hj => ?_) (ints_oneCell .u8 M) (by unfold maxLen; omega) (by omega) hbase ?_
    · have hjl : j < M.length := by
        rcases Nat.lt_or_ge j M.length with h | h
        · exact h
        · rw [List.getElem?_eq_none (by simpa using h)] at hj; cases hj
      obtain ⟨ad', e, _, hc⟩ := hr.2.2.2 (by intro h; subst h; simp at hjl)
      injection e with e; subst e
      rw [hc j hjl]
      simp [List.getElem?_eq_getElem hjl] at hj
      subst hj
      simp [List.getD, List.getElem?_eq_getElem hjl]
    · intro v' w' hown' hg _ _
      rw [← List.map_append] at hown'
      obtain ⟨A', cap', rfl, _, hrow⟩ := row_of_own hown' hLM
      exact h A' cap' w' hown' hrow ((Below.refl base w).grown hg hbase (fun k hk => (hown.lt k hk).1))


/-- a block of bytes that was just made is a row -/
theorem row_new (w : World) (l : List Int) (t : TypeId) (cap : Nat) (hc : l.length ≤ cap) (hm : cap ≤ maxLen) (hb : Bytes l) : RowAt (w.alloc (.cells (l.map (Value.int .u8)).toArray t)) (some ⟨w.heap.size, 0, none⟩) cap l := by
  refine ⟨hc, hm, hb, fun _ => ⟨_, rfl, by simp, fun i hi => ?_⟩⟩
  have e : (⟨w.heap.size, 0, none⟩ : Addr).add i = ⟨w.heap.size, i, none⟩ := by unfold Addr.add; by_cases h : i = 0 <;> simp [h]
  rw [e, (HasB.new w t (l.map (Value.int .u8))).cell i]
  simp [List.getD, hi]
/-- the blocks of a call of the document's own Do -/
structure RDoS (w : World) (pc r0 r1 r2 r3 r4 r5 r6 r7 b s : Int) (M0 M1 : Value) (W : World) : Prop where
  c : HasB W w.heap.size 54 [.int .u32 pc, .int .u32 r0, .int .u32 r1, .int .u32 r2, .int .u32 r3, .int .u32 r4, .int .u32 r5, .int .u32 r6, .int .u32 r7, .int .u32 b, .int .u32 s]
  m : HasB W (w.heap.size + 1) 33 [M0, M1]
  d : HasB W (w.heap.size + 1 + 1) 54 [.int .u32 0, .int .u32 0, .int .u32 0, .int .u32 0, .int .u32 0, .int .u32 0, .int .u32 0, .int .u32 0, .int .u32 0, .int .u32 0, .int .u32 0]
  o : HasB W (w.heap.size + 1 + 1 + 1) 33 [.slice none 0 0, .slice none 0 0]
  bel : Below w.heap.size w W
theorem RDoS.below {w W W' : World} {pc r0 r1 r2 r3 r4 r5 r6 r7 b s : Int} {M0 M1 : Value} (k : RDoS w pc r0 r1 r2 r3 r4 r5 r6 r7 b s M0 M1 W) (hb : Below W.heap.size W W') : RDoS w pc r0 r1 r2 r3 r4 r5 r6 r7 b s M0 M1 W' :=
  ⟨k.c.below hb, k.m.below hb, k.d.below hb, k.o.below hb, bel_then k.bel hb⟩
theorem RDoS.new (w : World) (pc r0 r1 r2 r3 r4 r5 r6 r7 b s : Int) (M0 M1 : Value) :
    ∃ W, ((((w.alloc (.cells #[.int .u32 pc, .int .u32 r0, .int .u32 r1, .int .u32 r2, .int .u32 r3, .int .u32 r4, .int .u32 r5, .int .u32 r6, .int .u32 r7, .int .u32 b, .int .u32 s] 54)).alloc (.cells #[M0, M1] 33)).alloc (.cells #[.int .u32 0, .int .u32 0, .int .u32 0, .int .u32 0, .int .u32 0, .int .u32 0, .int .u32 0, .int .u32 0, .int .u32 0, .int .u32 0, .int .u32 0] 54)).alloc (.cells #[.slice none 0 0, .slice none 0 0] 33)) = W ∧ RDoS w pc r0 r1 r2 r3 r4 r5 r6 r7 b s M0 M1 W ∧ W.heap.size = w.heap.size + 1 + 1 + 1 + 1 := by
  refine ⟨_, rfl, ⟨?_, ?_, ?_, ?_, bel_al (bel_al (bel_al (bel_al (Below.refl _ _) _) _) _) _⟩, by simp⟩
  · exact ((((HasB.newAt w _ _ _ rfl).al _).al _).al _)
  · exact (((HasB.newAt _ _ _ _ (by simp)).al _).al _)
  · exact ((HasB.newAt _ _ _ _ (by simp)).al _)
  · exact HasB.newAt _ _ _ _ (by simp)
theorem RDoS.chg {w W W' : World} {pc r0 r1 r2 r3 r4 r5 r6 r7 b s : Int} {M0 M1 : Value} {N : Nat} (k : RDoS w pc r0 r1 r2 r3 r4 r5 r6 r7 b s M0 M1 W) (hgt : w.heap.size + 1 + 1 + 1 < N) (c : Chg N N W W') : RDoS w pc r0 r1 r2 r3 r4 r5 r6 r7 b s M0 M1 W' :=
  ⟨k.c.chg c (by omega) (by omega), k.m.chg c (by omega) (by omega), k.d.chg c (by omega) (by omega), k.o.chg c (by omega) (by omega), c.below k.bel k.bel.size (by omega) (by omega)⟩
theorem own_below {w w' : World} {base n : Nat} {v : Value} {xs : List Value} (h : w.ownsRow base 5 1 v n xs) (b : Below w.heap.size w w') : w'.ownsRow base 5 1 v n xs :=
  h.kept (row := none) ⟨b.os, b.tape, b.output, b.size, fun k hk _ => b.block k hk⟩ (by cases hv : v.ownBlock <;> simp)
theorem row_cell {w : World} {xb cap : Nat} {l : List Int} (h : RowAt w (some ⟨xb, 0, none⟩) cap l) (i : Nat) (hi : i < l.length) : w.cell? ⟨xb, i, none⟩ = some (.int .u8 (l.getD i 0)) := by
  obtain ⟨x, hx, _, hc⟩ := h.2.2.2 (by intro e; subst e; simp at hi)
  injection hx with hx; subst hx
  have := hc i hi
  rwa [addr_add, Nat.zero_add] at this
/-- so many bytes are gathered -/
def RGet (W0 : World) (K pc : Nat) (B : List Int) (v i : Value) (w' : World) : Prop :=
  ∃ k : Nat, k ≤ K ∧ i = .int .i64 ((pc : Int) + (k : Int)) ∧ w'.ownsRow W0.heap.size 5 1 v k ((((B.drop pc).take K).take k).map (Value.int .u8)) ∧ Below W0.heap.size W0 w'
theorem get_take {B : List Int} {K pc k : Nat} (hk : k < K) (hB : pc + K ≤ B.length) : ((B.drop pc).take K).take (k + 1) = ((B.drop pc).take K).take k ++ [B.getD (pc + k) 0] := by
  have h1 : k < ((B.drop pc).take K).length := by rw [List.length_take, List.length_drop]; omega
  rw [List.take_succ_eq_append_getElem h1]
  have e : ((B.drop pc).take K)[k] = B.getD (pc + k) 0 := by
    simp [List.getD, List.getElem?_eq_getElem (show pc + k < B.length by omega)]
  rw [e]
/-- both results laid -/
theorem rst13 {w W : World} (bel : Below w.heap.size w W) (v0 v1 v2 v3 v4 v5 v6 v7 v8 v9 v10 u0 u1 : Value) :
    let w' := (((((((((((((W.setCell ⟨w.heap.size + 1 + 1, 0, none⟩ v0).setCell ⟨w.heap.size + 1 + 1, 1, none⟩ v1).setCell ⟨w.heap.size + 1 + 1, 2, none⟩ v2).setCell ⟨w.heap.size + 1 + 1, 3, none⟩ v3).setCell ⟨w.heap.size + 1 + 1, 4, none⟩ v4).setCell ⟨w.heap.size + 1 + 1, 5, none⟩ v5).setCell ⟨w.heap.size + 1 + 1, 6, none⟩ v6).setCell ⟨w.heap.size + 1 + 1, 7, none⟩ v7).setCell ⟨w.heap.size + 1 + 1, 8, none⟩ v8).setCell ⟨w.heap.size + 1 + 1, 9, none⟩ v9).setCell ⟨w.heap.size + 1 + 1, 10, none⟩ v10).setCell ⟨w.heap.size + 1 + 1 + 1, 0, none⟩ u0).setCell ⟨w.heap.size + 1 + 1 + 1, 1, none⟩ u1)
    Chg (w.heap.size + 1 + 1) (w.heap.size + 1 + 1 + 1) W w'.drew ∧ Below w.heap.size w w'.drew := by
  intro w'
  have c1 : Chg (w.heap.size + 1 + 1) (w.heap.size + 1 + 1 + 1) W w' := chg_set (chg_set (chg_set (chg_set (chg_set (chg_set (chg_set (chg_set (chg_set (chg_set (chg_set (chg_set (chg_set (Chg.refl _ _ _) _ (.inl rfl) _ _) _ (.inl rfl) _ _) _ (.inl rfl) _ _) _ (.inl rfl) _ _) _ (.inl rfl) _ _) _ (.inl rfl) _ _) _ (.inl rfl) _ _) _ (.inl rfl) _ _) _ (.inl rfl) _ _) _ (.inl rfl) _ _) _ (.inl rfl) _ _) _ (.inr rfl) _ _) _ (.inr rfl) _ _
  have c2 := chg_drew c1
  exact ⟨c2, c2.below bel bel.size (by omega) (by omega)⟩
theorem RDoS.ins {w W : World} {I : Nat} {pc r0 r1 r2 r3 r4 r5 r6 r7 b s : Int} {M0 M1 : Value} (k : RDoS w pc r0 r1 r2 r3 r4 r5 r6 r7 b s M0 M1 W) (hgt : w.heap.size + 1 + 1 + 1 < I) (v0 v1 v2 v3 : Value) :
    RDoS w pc r0 r1 r2 r3 r4 r5 r6 r7 b s M0 M1 ((((W.setCell ⟨I, 0, none⟩ v0).setCell ⟨I, 1, none⟩ v1).setCell ⟨I, 2, none⟩ v2).setCell ⟨I, 3, none⟩ v3) ∧ Chg I I W ((((W.setCell ⟨I, 0, none⟩ v0).setCell ⟨I, 1, none⟩ v1).setCell ⟨I, 2, none⟩ v2).setCell ⟨I, 3, none⟩ v3) := by
  have c := (chg_set (chg_set (chg_set (chg_set (Chg.refl I I W) I (.inl rfl) 0 v0) I (.inl rfl) 1 v1) I (.inl rfl) 2 v2) I (.inl rfl) 3 v3)
  exact ⟨k.chg hgt c, c⟩
theorem rdo_worlds {w w2 : World} {pc r0 r1 r2 r3 r4 r5 r6 r7 b s : Int} {M0 M1 : Value} (k : RDoS w pc r0 r1 r2 r3 r4 r5 r6 r7 b s M0 M1 w2) (op x y imm pc' : Int) :
    ∃ W3 W4 W5 W6 W7, w2.alloc (.cells #[.int .i64 0, .int .i64 0, .int .i64 0, .int .u32 0] 73) = W3 ∧ ((((W3.setCell ⟨w2.heap.size, 0, none⟩ (.int .i64 op)).setCell ⟨w2.heap.size, 1, none⟩ (.int .i64 x)).setCell ⟨w2.heap.size, 2, none⟩ (.int .i64 y)).setCell ⟨w2.heap.size, 3, none⟩ (.int .u32 imm)) = W4 ∧ W4.alloc (.cells #[.int .u32 0, .int .u32 0, .int .u32 0, .int .u32 0, .int .u32 0, .int .u32 0, .int .u32 0, .int .u32 0, .int .u32 0, .int .u32 0, .int .u32 0] 54) = W5 ∧ (((((((((((W5.setCell ⟨W4.heap.size, 0, none⟩ (.int .u32 pc)).setCell ⟨W4.heap.size, 1, none⟩ (.int .u32 r0)).setCell ⟨W4.heap.size, 2, none⟩ (.int .u32 r1)).setCell ⟨W4.heap.size, 3, none⟩ (.int .u32 r2)).setCell ⟨W4.heap.size, 4, none⟩ (.int .u32 r3)).setCell ⟨W4.heap.size, 5, none⟩ (.int .u32 r4)).setCell ⟨W4.heap.size, 6, none⟩ (.int .u32 r5)).setCell ⟨W4.heap.size, 7, none⟩ (.int .u32 r6)).setCell ⟨W4.heap.size, 8, none⟩ (.int .u32 r7)).setCell ⟨W4.heap.size, 9, none⟩ (.int .u32 b)).setCell ⟨W4.heap.size, 10, none⟩ (.int .u32 s)) = W6 ∧ W6.setCell ⟨W4.heap.size, 0, none⟩ (.int .u32 pc') = W7 ∧
      HasB W3 w2.heap.size 73 [.int .i64 0, .int .i64 0, .int .i64 0, .int .u32 0] ∧ RDoS w pc r0 r1 r2 r3 r4 r5 r6 r7 b s M0 M1 W4 ∧ HasB W5 W4.heap.size 54 [.int .u32 0, .int .u32 0, .int .u32 0, .int .u32 0, .int .u32 0, .int .u32 0, .int .u32 0, .int .u32 0, .int .u32 0, .int .u32 0, .int .u32 0] ∧ RDoS w pc r0 r1 r2 r3 r4 r5 r6 r7 b s M0 M1 W6 ∧ HasB W6 W4.heap.size 54 [.int .u32 pc, .int .u32 r0, .int .u32 r1, .int .u32 r2, .int .u32 r3, .int .u32 r4, .int .u32 r5, .int .u32 r6, .int .u32 r7, .int .u32 b, .int .u32 s] ∧ RDoS w pc r0 r1 r2 r3 r4 r5 r6 r7 b s M0 M1 W7 ∧ HasB W7 w2.heap.size 73 [.int .i64 op, .int .i64 x, .int .i64 y, .int .u32 imm] ∧ HasB W7 W4.heap.size 54 [.int .u32 pc', .int .u32 r0, .int .u32 r1, .int .u32 r2, .int .u32 r3, .int .u32 r4, .int .u32 r5, .int .u32 r6, .int .u32 r7, .int .u32 b, .int .u32 s] ∧ Below w2.heap.size w2 W7 ∧ w.heap.size + 1 + 1 + 1 < w2.heap.size ∧ w2.heap.size < W4.heap.size := by
  have z0 := k.o.lt
  refine ⟨_, _, _, _, _, rfl, rfl, rfl, rfl, rfl, ?_⟩
  generalize e3 : w2.alloc (.cells #[.int .i64 0, .int .i64 0, .int .i64 0, .int .u32 0] 73) = W3
  have hI : HasB W3 w2.heap.size 73 [.int .i64 0, .int .i64 0, .int .i64 0, .int .u32 0] := by rw [← e3]; exact HasB.newAt _ _ _ _ rfl
  have b3 : Below w2.heap.size w2 W3 := by rw [← e3]; exact bel_al (Below.refl _ _) _
  have K3 := k.below b3
  generalize e4 : ((((W3.setCell ⟨w2.heap.size, 0, none⟩ (.int .i64 op)).setCell ⟨w2.heap.size, 1, none⟩ (.int .i64 x)).setCell ⟨w2.heap.size, 2, none⟩ (.int .i64 y)).setCell ⟨w2.heap.size, 3, none⟩ (.int .u32 imm)) = W4
  have hI4 : HasB W4 w2.heap.size 73 [.int .i64 op, .int .i64 x, .int .i64 y, .int .u32 imm] := by rw [← e4]; exact has_set (has_set (has_set (has_set (hI) 0 _) 1 _) 2 _) 3 _
  have c4 : Chg w2.heap.size w2.heap.size W3 W4 := by rw [← e4]; exact chg_set (chg_set (chg_set (chg_set (Chg.refl _ _ _) _ (.inl rfl) _ _) _ (.inl rfl) _ _) _ (.inl rfl) _ _) _ (.inl rfl) _ _
  have K4 := K3.chg z0 c4
  have b4 : Below w2.heap.size w2 W4 := c4.below b3 b3.size (Nat.le_refl _) (Nat.le_refl _)
  have s4 : w2.heap.size < W4.heap.size := hI4.lt
  generalize e5 : W4.alloc (.cells #[.int .u32 0, .int .u32 0, .int .u32 0, .int .u32 0, .int .u32 0, .int .u32 0, .int .u32 0, .int .u32 0, .int .u32 0, .int .u32 0, .int .u32 0] 54) = W5
  have hN : HasB W5 W4.heap.size 54 [.int .u32 0, .int .u32 0, .int .u32 0, .int .u32 0, .int .u32 0, .int .u32 0, .int .u32 0, .int .u32 0, .int .u32 0, .int .u32 0, .int .u32 0] := by rw [← e5]; exact HasB.newAt _ _ _ _ rfl
  have b5 : Below W4.heap.size W4 W5 := by rw [← e5]; exact bel_al (Below.refl _ _) _
  have K5 := K4.below b5
  have hI5 := hI4.below b5
  have b5' := bel_then b4 b5
  generalize e6 : (((((((((((W5.setCell ⟨W4.heap.size, 0, none⟩ (.int .u32 pc)).setCell ⟨W4.heap.size, 1, none⟩ (.int .u32 r0)).setCell ⟨W4.heap.size, 2, none⟩ (.int .u32 r1)).setCell ⟨W4.heap.size, 3, none⟩ (.int .u32 r2)).setCell ⟨W4.heap.size, 4, none⟩ (.int .u32 r3)).setCell ⟨W4.heap.size, 5, none⟩ (.int .u32 r4)).setCell ⟨W4.heap.size, 6, none⟩ (.int .u32 r5)).setCell ⟨W4.heap.size, 7, none⟩ (.int .u32 r6)).setCell ⟨W4.heap.size, 8, none⟩ (.int .u32 r7)).setCell ⟨W4.heap.size, 9, none⟩ (.int .u32 b)).setCell ⟨W4.heap.size, 10, none⟩ (.int .u32 s)) = W6
  have hN6 : HasB W6 W4.heap.size 54 [.int .u32 pc, .int .u32 r0, .int .u32 r1, .int .u32 r2, .int .u32 r3, .int .u32 r4, .int .u32 r5, .int .u32 r6, .int .u32 r7, .int .u32 b, .int .u32 s] := by rw [← e6]; exact has_set (has_set (has_set (has_set (has_set (has_set (has_set (has_set (has_set (has_set (has_set (hN) 0 _) 1 _) 2 _) 3 _) 4 _) 5 _) 6 _) 7 _) 8 _) 9 _) 10 _
  have c6 : Chg W4.heap.size W4.heap.size W5 W6 := by rw [← e6]; exact chg_set (chg_set (chg_set (chg_set (chg_set (chg_set (chg_set (chg_set (chg_set (chg_set (chg_set (Chg.refl _ _ _) _ (.inl rfl) _ _) _ (.inl rfl) _ _) _ (.inl rfl) _ _) _ (.inl rfl) _ _) _ (.inl rfl) _ _) _ (.inl rfl) _ _) _ (.inl rfl) _ _) _ (.inl rfl) _ _) _ (.inl rfl) _ _) _ (.inl rfl) _ _) _ (.inl rfl) _ _
  have K6 := K5.chg (by omega) c6
  have hI6 := hI5.chg c6 (by omega) (by omega)
  have b6 : Below w2.heap.size w2 W6 := c6.below b5' b5'.size (by omega) (by omega)
  have c7 : Chg W4.heap.size W4.heap.size W6 (W6.setCell ⟨W4.heap.size, 0, none⟩ (.int .u32 pc')) := chg_set (Chg.refl _ _ _) _ (.inl rfl) _ _
  exact ⟨hI, K4, hN, K6, hN6, K6.chg (by omega) c7, hI6.chg c7 (by omega) (by omega), has_set hN6 0 _, c7.below b6 b6.size (by omega) (by omega), z0, s4⟩
/-- a register of the new processor set anew -/
theorem reg_world {w W : World} {I D : Nat} {pc r0 r1 r2 r3 r4 r5 r6 r7 b s op x y imm pc' q0 q1 q2 q3 q4 q5 q6 q7 qb qs : Int} {M0 M1 : Value} (k : RDoS w pc r0 r1 r2 r3 r4 r5 r6 r7 b s M0 M1 W) (hI : HasB W I 73 [.int .i64 op, .int .i64 x, .int .i64 y, .int .u32 imm]) (hD : HasB W D 54 [.int .u32 pc', .int .u32 q0, .int .u32 q1, .int .u32 q2, .int .u32 q3, .int .u32 q4, .int .u32 q5, .int .u32 q6, .int .u32 q7, .int .u32 qb, .int .u32 qs]) (h0 : w.heap.size + 1 + 1 + 1 < D) (h1 : I < D) (i : Nat) (hi : i < 8) (v : Int) :
    ∃ W9, W.setCell ⟨D, 1 + i, none⟩ (.int .u32 v) = W9 ∧ (∃ u, W.cell? ⟨D, 1 + i, none⟩ = some u) ∧ W.frozen? ⟨D, 1 + i, none⟩ = false ∧ RDoS w pc r0 r1 r2 r3 r4 r5 r6 r7 b s M0 M1 W9 ∧ HasB W9 I 73 [.int .i64 op, .int .i64 x, .int .i64 y, .int .u32 imm] ∧ HasB W9 D 54 ((⟨pc', [q0, q1, q2, q3, q4, q5, q6, q7], qb, qs⟩ : Cp).setR i v).cs ∧ Chg D D W W9 := by
  have c : Chg D D W (W.setCell ⟨D, 1 + i, none⟩ (.int .u32 v)) := chg_set (Chg.refl _ _ _) _ (.inl rfl) _ _
  refine ⟨_, rfl, ?_, hD.frozen _, k.chg h0 c, hI.chg c (by omega) (by omega), ?_, c⟩
  · rw [hD.cell]
    exact ⟨_, List.getElem?_eq_getElem (show 1 + i < 11 by omega)⟩
  · have := has_set hD (1 + i) (.int .u32 v)
    have e : ([.int .u32 pc', .int .u32 q0, .int .u32 q1, .int .u32 q2, .int .u32 q3, .int .u32 q4, .int .u32 q5, .int .u32 q6, .int .u32 q7, .int .u32 qb, .int .u32 qs] : List Value).set (1 + i) (.int .u32 v) = ((⟨pc', [q0, q1, q2, q3, q4, q5, q6, q7], qb, qs⟩ : Cp).setR i v).cs := by
      obtain rfl | rfl | rfl | rfl | rfl | rfl | rfl | rfl : i = 0 ∨ i = 1 ∨ i = 2 ∨ i = 3 ∨ i = 4 ∨ i = 5 ∨ i = 6 ∨ i = 7 := by omega
      all_goals rfl
    rwa [e] at this
/-- the new processor's place set anew -/
theorem pc_world {w W : World} {I D : Nat} {pc r0 r1 r2 r3 r4 r5 r6 r7 b s op x y imm pq q0 q1 q2 q3 q4 q5 q6 q7 qb qs : Int} {M0 M1 : Value} (k : RDoS w pc r0 r1 r2 r3 r4 r5 r6 r7 b s M0 M1 W) (hI : HasB W I 73 [.int .i64 op, .int .i64 x, .int .i64 y, .int .u32 imm]) (hD : HasB W D 54 [.int .u32 pq, .int .u32 q0, .int .u32 q1, .int .u32 q2, .int .u32 q3, .int .u32 q4, .int .u32 q5, .int .u32 q6, .int .u32 q7, .int .u32 qb, .int .u32 qs]) (h0 : w.heap.size + 1 + 1 + 1 < D) (h1 : I < D) (v : Int) :
    ∃ W9, W.setCell ⟨D, 0, none⟩ (.int .u32 v) = W9 ∧ W.cell? ⟨D, 0, none⟩ = some (.int .u32 pq) ∧ W.frozen? ⟨D, 0, none⟩ = false ∧ RDoS w pc r0 r1 r2 r3 r4 r5 r6 r7 b s M0 M1 W9 ∧ HasB W9 I 73 [.int .i64 op, .int .i64 x, .int .i64 y, .int .u32 imm] ∧ HasB W9 D 54 [.int .u32 v, .int .u32 q0, .int .u32 q1, .int .u32 q2, .int .u32 q3, .int .u32 q4, .int .u32 q5, .int .u32 q6, .int .u32 q7, .int .u32 qb, .int .u32 qs] ∧ Chg D D W W9 := by
  have c : Chg D D W (W.setCell ⟨D, 0, none⟩ (.int .u32 v)) := chg_set (Chg.refl _ _ _) _ (.inl rfl) _ _
  exact ⟨_, rfl, hD.cell 0, hD.frozen 0, k.chg h0 c, hI.chg c (by omega) (by omega), has_set hD 0 (.int .u32 v), c⟩

/-- the memory set anew -/
theorem mem_world {w W : World} {I D : Nat} {pc r0 r1 r2 r3 r4 r5 r6 r7 b s op x y imm : Int} {M0 M1 : Value} {ds : List Value} (k : RDoS w pc r0 r1 r2 r3 r4 r5 r6 r7 b s M0 M1 W) (hI : HasB W I 73 [.int .i64 op, .int .i64 x, .int .i64 y, .int .u32 imm]) (hD : HasB W D 54 ds) (h0 : w.heap.size + 1 + 1 + 1 < I) (h1 : I < D) (M2 M3 : Value) :
    ∃ W9, (W.setCell ⟨w.heap.size + 1, 0, none⟩ M2).setCell ⟨w.heap.size + 1, 1, none⟩ M3 = W9 ∧ (W.cell? ⟨w.heap.size + 1, 0, none⟩ = some M0 ∧ W.cell? ⟨w.heap.size + 1, 1, none⟩ = some M1) ∧ (W.frozen? ⟨w.heap.size + 1, 0, none⟩ = false ∧ W.frozen? ⟨w.heap.size + 1, 1, none⟩ = false) ∧ RDoS w pc r0 r1 r2 r3 r4 r5 r6 r7 b s M2 M3 W9 ∧ HasB W9 I 73 [.int .i64 op, .int .i64 x, .int .i64 y, .int .u32 imm] ∧ HasB W9 D 54 ds ∧ Chg (w.heap.size + 1) (w.heap.size + 1) W W9 := by
  have c : Chg (w.heap.size + 1) (w.heap.size + 1) W ((W.setCell ⟨w.heap.size + 1, 0, none⟩ M2).setCell ⟨w.heap.size + 1, 1, none⟩ M3) := chg_set (chg_set (Chg.refl _ _ _) _ (.inl rfl) _ _) _ (.inl rfl) _ _
  have h2 := has2 k.m
  exact ⟨_, rfl, h2.1, h2.2, ⟨k.c.chg c (by omega) (by omega), has_set (has_set k.m 0 M2) 1 M3, k.d.chg c (by omega) (by omega), k.o.chg c (by omega) (by omega), c.below k.bel k.bel.size (by omega) (by omega)⟩, hI.chg c (by omega) (by omega), hD.chg c (by omega) (by omega), c⟩
/-- a number's bytes -/
theorem rBytes_bel (v : Int) (v0 : 0 ≤ v) (v1 : v < 4294967296) (w : World) :
    Calls Try.prog 15 #[.int .u32 v] w fun e w' => ∃ q, e = .returned (.slice (some ⟨q, 0, none⟩) 4 4) ∧ RowAt w' (some ⟨q, 0, none⟩) 4 (b4 v) ∧ Below w.heap.size w w' := by
  refine (rBytes_any v v0 v1 w).mono ?_
  rintro e w' ⟨rfl, rfl⟩
  exact ⟨_, rfl, put4_row w v v0 v1, put4_bel w v⟩
/-- what the document's own Do comes to -/
def RDoP (w : World) (xb yb cU : Nat) (o : Ou) (e : Ending) (w' : World) : Prop :=
  ∃ xb' cB', e = .returned (.tuple #[o.c.val, .agg #[.slice (some ⟨xb', 0, none⟩) 256 cB', .slice (some ⟨yb, 0, none⟩) 256 cU], .int .i64 o.what, .int .i64 o.gate]) ∧ RowAt w' (some ⟨xb', 0, none⟩) cB' o.B ∧ Below w.heap.size w w' ∧ (xb' = xb ∨ w.heap.size ≤ xb')
end Go.Proofs.Ytjcggpaiminecaa.Mm
