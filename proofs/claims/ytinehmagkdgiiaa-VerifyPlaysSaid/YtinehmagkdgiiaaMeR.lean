/- Merged by wip/tools/regroup: MemApart, MemBack, MemRef, MemRefSet, MemRefWrite. -/
import Derived.Test.YtinehmagkdgiiaaMeA
import Derived.Deep.AppendLies
import Derived.Deep.RegionLaw
import Derived.Deep.DeepCutAuto
namespace Go.Proofs.Ytinehmagkdgiiaa.Mm
open Go.ChangeShapes Go.WideShapes Go.ChangeAt Go.RowKit
set_option linter.unusedVariables false
set_option maxRecDepth 10000

theorem u8_bd {n : Int} (h : (Lit.int .u8 n).wf = true) : 0 ≤ n ∧ n ≤ 255 := bounds_u8 h
theorem u32_bd {n : Int} (h : (Lit.int .u32 n).wf = true) : 0 ≤ n ∧ n < 4294967296 := by
  have := bounds_u32 h
  omega

theorem part_cell {w : World} {g : Nat} {B : List Int} {a n : Nat} (hb : HasB w g 5 (((B.drop a).take n).map (Value.int .u8))) (i : Nat) (hi : i < n) (hfit : a + n ≤ B.length) : w.cell? ⟨g, i, none⟩ = some (.int .u8 (B.getD (a + i) 0)) := by
  have hl : ((B.drop a).take n).length = n := by rw [List.length_take, List.length_drop]; omega
  rw [hb.cell, List.getElem?_map, List.getElem?_eq_getElem (by omega), Option.map_some]
  congr 2
  rw [← getD_drop', ← getD_take' (B.drop a) n i 0 hi]
  simp [List.getD, List.getElem?_eq_getElem (by omega : i < ((B.drop a).take n).length)]

end Go.Proofs.Ytinehmagkdgiiaa.Mm

namespace Go.Proofs.Ytinehmagkdgiiaa.Mm
open Go.ChangeShapes Go.WideShapes Go.ChangeAt Go.RowKit
set_option linter.unusedVariables false
set_option maxRecDepth 10000

/-- the same world, but for draws -/
structure Sm (w w' : World) : Prop where
  heap : w'.heap = w.heap
  os : w'.os = w.os
  tape : w'.tape = w.tape
  output : w'.output = w.output
theorem Sm.refl (w : World) : Sm w w := ⟨rfl, rfl, rfl, rfl⟩
theorem Sm.drewN {w w' : World} (h : Sm w w') (n : Nat) : Sm w (w'.drewN n) := ⟨h.heap, h.os, h.tape, h.output⟩
theorem Sm.drew {w w' : World} (h : Sm w w') : Sm w w'.drew := ⟨h.heap, h.os, h.tape, h.output⟩
theorem Sm.below {B : Nat} {w0 w w' : World} (h : Sm w w') (b : Below B w0 w) : Below B w0 w' := ⟨h.os.trans b.os, h.tape.trans b.tape, h.output.trans b.output, by rw [h.heap]; exact b.size, fun k hk => by rw [h.heap]; exact b.block k hk⟩
theorem Sm.bel {w w' : World} (h : Sm w w') : Below w.heap.size w w' := h.below (Below.refl _ _)
theorem Sm.has {w w' : World} {g : Nat} {t : TypeId} {cs : List Value} (h : Sm w w') (b : HasB w g t cs) : HasB w' g t cs := b.same (by rw [h.heap])
theorem Sm.cell {w w' : World} (h : Sm w w') (a : Addr) : w'.cell? a = w.cell? a := by unfold World.cell?; rw [h.heap]
theorem Sm.row {w w' : World} {A : Option Addr} {cap : Nat} {l : List Int} (h : Sm w w') (r : RowAt w A cap l) : RowAt w' A cap l := r.below h.bel

theorem getD_u8 {w : World} {g : Nat} {B : List Int} (hb : HasB w g 5 (B.map (Value.int .u8))) (i : Nat) (hi : i < B.length) : w.cell? ⟨g, i, none⟩ = some (.int .u8 (B.getD i 0)) := by
  rw [hb.cell, List.getElem?_map, List.getElem?_eq_getElem hi, Option.map_some]
  simp [List.getD, List.getElem?_eq_getElem hi]

/-- so many bytes have been looked at -/
def BackRel (w7 : World) (i : Value) (w' : World) : Prop := ∃ j : Nat, j ≤ 512 ∧ i = .int .i64 j ∧ Sm w7 w'
end Go.Proofs.Ytinehmagkdgiiaa.Mm

namespace Go.Proofs.Ytinehmagkdgiiaa.Mm
open Go.ChangeShapes Go.WideShapes Go.ChangeAt Go.RowKit
set_option linter.unusedVariables false
set_option maxRecDepth 10000

/-- a slice of bools that reads as a list -/
def BlAt (w : World) (A : Option Addr) (cap : Nat) (l : List Bool) : Prop :=
  l.length ≤ cap ∧ cap ≤ maxLen ∧ ∃ x, A = some x ∧ x.block < w.heap.size ∧ ∀ i, i < l.length → w.cell? (x.add i) = some (.bool (l.getD i false))
theorem BlAt.below {w w' : World} {A : Option Addr} {cap : Nat} {l : List Bool} (r : BlAt w A cap l) (b : Below w.heap.size w w') : BlAt w' A cap l := by
  obtain ⟨h1, h2, x, rfl, hx, hc⟩ := r
  exact ⟨h1, h2, x, rfl, Nat.lt_of_lt_of_le hx b.size, fun i hi => by rw [b.cell (by rw [block_add]; exact hx)]; exact hc i hi⟩

/-- are all of them there? -/
def allB (U : List Bool) (a n : Nat) : Bool := (List.range n).all fun i => U.getD (a + i) false
theorem allB_iff (U : List Bool) (a n : Nat) : allB U a n = true ↔ ∀ i, i < n → U.getD (a + i) false = true := by
  unfold allB
  rw [List.all_eq_true]
  exact ⟨fun h i hi => h i (List.mem_range.2 hi), fun h i hi => h i (List.mem_range.1 hi)⟩

/-- a new one -/
def RMade (w : World) (n : Nat) (e : Ending) (w' : World) : Prop :=
  ∃ g h, e = .returned (.agg #[.slice (some ⟨g, 0, none⟩) n n, .slice (some ⟨h, 0, none⟩) n n]) ∧ HasB w' g 5 ((List.replicate n (0 : Int)).map (Value.int .u8)) ∧ HasB w' h 4 ((List.replicate n false).map Value.bool) ∧ w.heap.size ≤ g ∧ w.heap.size ≤ h ∧ Below w.heap.size w w'

theorem two_new (w : World) (o : Obj) (t t' : TypeId) (cs cs' : List Value) :
    HasB (((w.alloc o).alloc (.cells cs.toArray t)).alloc (.cells cs'.toArray t')).drew (w.heap.size + 1) t cs ∧ HasB (((w.alloc o).alloc (.cells cs.toArray t)).alloc (.cells cs'.toArray t')).drew (w.heap.size + 1 + 1) t' cs' ∧
    Below w.heap.size w (((w.alloc o).alloc (.cells cs.toArray t)).alloc (.cells cs'.toArray t')).drew := by
  refine ⟨drew_has ?_, drew_has ?_, (bel_al (bel_al (bel_al (Below.refl _ _) _) _) _).drew⟩
  · have := (HasB.new (w.alloc o) t cs).below (bel_al (Below.refl _ _) (.cells cs'.toArray t'))
    rwa [World.size_alloc] at this
  · have := HasB.new ((w.alloc o).alloc (.cells cs.toArray t)) t' cs'
    rwa [World.size_alloc, World.size_alloc] at this
theorem rmade_1 (w : World) (n : Nat) (o : Obj) : RMade w n (.returned (.agg #[.slice (some ⟨w.heap.size + 1, 0, none⟩) n n, .slice (some ⟨w.heap.size + 1 + 1, 0, none⟩) n n])) (((w.alloc o).alloc (.cells ((List.replicate n (0 : Int)).map (Value.int .u8)).toArray 5)).alloc (.cells ((List.replicate n false).map Value.bool).toArray 4)).drew := by
  obtain ⟨h1, h2, h3⟩ := two_new w o 5 4 ((List.replicate n (0 : Int)).map (Value.int .u8)) ((List.replicate n false).map Value.bool)
  exact ⟨_, _, rfl, h1, h2, by omega, by omega, h3⟩
theorem rmade_2 (w : World) (n : Nat) (o : Obj) : RMade w n (.returned (.agg #[.slice (some ⟨w.heap.size + 1 + 1, 0, none⟩) n n, .slice (some ⟨w.heap.size + 1, 0, none⟩) n n])) (((w.alloc o).alloc (.cells ((List.replicate n false).map Value.bool).toArray 4)).alloc (.cells ((List.replicate n (0 : Int)).map (Value.int .u8)).toArray 5)).drew := by
  obtain ⟨h1, h2, h3⟩ := two_new w o 4 5 ((List.replicate n false).map Value.bool) ((List.replicate n (0 : Int)).map (Value.int .u8))
  exact ⟨_, _, rfl, h2, h1, by omega, by omega, h3⟩

end Go.Proofs.Ytinehmagkdgiiaa.Mm

namespace Go.Proofs.Ytinehmagkdgiiaa.Mm
open Go.ChangeShapes Go.WideShapes Go.ChangeAt Go.RowKit
set_option linter.unusedVariables false
set_option maxRecDepth 10000

/-- k elements laid, the others as they were made -/
def fil {α : Type} (L : List α) (k : Nat) (z : α) : List α := L.take k ++ List.replicate (L.length - k) z
section
variable {α : Type}
theorem fil_len (L : List α) (k : Nat) (z : α) (h : k ≤ L.length) : (fil L k z).length = L.length := by unfold fil; simp; omega
theorem fil_zero (L : List α) (z : α) : fil L 0 z = List.replicate L.length z := by unfold fil; simp
theorem fil_all (L : List α) (k : Nat) (z : α) (h : L.length = k) : fil L k z = L := by unfold fil; rw [h, Nat.sub_self, List.replicate_zero, List.append_nil, List.take_of_length_le (by omega)]
theorem fil_set (L : List α) (k : Nat) (z d : α) (h : k < L.length) : (fil L k z).set k (L.getD k d) = fil L (k + 1) z := by
  apply ext_getD z
  · rw [List.length_set, fil_len _ _ _ (by omega), fil_len _ _ _ (by omega)]
  · intro i hi
    rw [List.length_set, fil_len _ _ _ (by omega)] at hi
    have hg : ∀ m, m ≤ L.length → (fil L m z).getD i z = if i < m then L.getD i z else z := fun m hm => by
      unfold fil
      simp only [List.getD, List.getElem?_append, List.length_take, Nat.min_eq_left hm, List.getElem?_take]
      by_cases q : i < m
      · rw [if_pos q, if_pos q, if_pos q]
      · rw [if_neg q, if_neg q]
        simp [show i - m < L.length - m by omega]
    rw [hg _ (by omega)]
    have e : ((fil L k z).set k (L.getD k d)).getD i z = if k = i then L.getD k d else (fil L k z).getD i z := by
      simp only [List.getD, List.getElem?_set]
      rw [fil_len _ _ _ (by omega)]
      by_cases q : k = i
      · rw [if_pos q, if_pos q, if_pos (by omega)]; rfl
      · rw [if_neg q, if_neg q]
    rw [e, hg _ (by omega)]
    by_cases q : k = i
    · subst q
      rw [if_pos rfl, if_pos (by omega)]
      simp [List.getD, List.getElem?_eq_getElem h]
    · rw [if_neg q]
      by_cases q2 : i < k
      · rw [if_pos q2, if_pos (by omega)]
      · rw [if_neg q2, if_neg (by omega)]
end

theorem has_set {w : World} {g : Nat} {t : TypeId} {cs : List Value} (h : HasB w g t cs) (i : Nat) (u : Value) : HasB (w.setCell ⟨g, i, none⟩ u) g t (cs.set i u) := by
  unfold HasB at h ⊢
  simp [World.setCell, Array.getElem?_modify, h]
theorem has_far {w : World} {g g' : Nat} {t : TypeId} {cs : List Value} (h : HasB w g t cs) (hne : g ≠ g') (i : Nat) (u : Value) : HasB (w.setCell ⟨g', i, none⟩ u) g t cs := h.same (Below.heap_setCell _ _ _ _ hne)
theorem chg_set {g h : Nat} {W w : World} (c : Chg g h W w) (b : Nat) (hb : b = g ∨ b = h) (i : Nat) (u : Value) : Chg g h W (w.setCell ⟨b, i, none⟩ u) :=
  c.trans ⟨rfl, rfl, rfl, by simp, fun k _ h1 h2 => Below.heap_setCell _ _ _ _ (by rcases hb with rfl | rfl <;> assumption)⟩
theorem chg_drew {g h : Nat} {W w : World} (c : Chg g h W w) : Chg g h W w.drew := ⟨c.os, c.tape, c.output, c.size, c.block⟩

/-- the world, where k of the document's bytes are set -/
def RSetRel (W : World) (g h N : Nat) (NB : List Int) (NU : List Bool) (i : Value) (w' : World) : Prop :=
  ∃ k : Nat, k ≤ N ∧ i = .int .i64 k ∧ HasB w' g 5 ((fil NB k 0).map (Value.int .u8)) ∧ HasB w' h 4 ((fil NU k false).map Value.bool) ∧ Chg g h W w'

theorem rset_in {W wr : World} {g h N k : Nat} {NB : List Int} {NU : List Bool} {x : Int} {y is : Bool} (hk : k < N) (hgh : g ≠ h) (lb : NB.length = N) (lu : NU.length = N) (gB : HasB wr g 5 ((fil NB k 0).map (Value.int .u8))) (gU : HasB wr h 4 ((fil NU k false).map Value.bool)) (c : Chg g h W wr) (e1 : NB.getD k 0 = 0) (e2 : NU.getD k false = is) :
    RSetRel W g h N NB NU (.int .i64 ((k : Int) + 1)) ((((wr.setCell ⟨g, k, none⟩ (.int .u8 x)).setCell ⟨h, k, none⟩ (.bool y)).setCell ⟨g, k, none⟩ (.int .u8 0)).setCell ⟨h, k, none⟩ (.bool is)).drew.drew := by
  refine ⟨k + 1, hk, by simp, drew_has (drew_has ?_), drew_has (drew_has ?_), chg_drew (chg_drew (chg_set (chg_set (chg_set (chg_set c g (.inl rfl) _ _) h (.inr rfl) _ _) g (.inl rfl) _ _) h (.inr rfl) _ _))⟩
  · have := has_far (has_set (has_far (has_set gB k (.int .u8 x)) hgh k (.bool y)) k (.int .u8 0)) hgh k (.bool is)
    rw [List.set_set, ← List.map_set] at this
    have q := fil_set NB k 0 0 (by omega)
    rw [e1] at q
    rw [q] at this
    exact this
  · have := has_set (has_far (has_set (has_far gU hgh.symm k (.int .u8 x)) k (.bool y)) hgh.symm k (.int .u8 0)) k (.bool is)
    rw [List.set_set, ← List.map_set] at this
    have q := fil_set NU k false false (by omega)
    rw [e2] at q
    rw [q] at this
    exact this
theorem rset_out {W wr : World} {g h N k : Nat} {NB : List Int} {NU : List Bool} {x : Int} {y : Bool} (hk : k < N) (hgh : g ≠ h) (lb : NB.length = N) (lu : NU.length = N) (gB : HasB wr g 5 ((fil NB k 0).map (Value.int .u8))) (gU : HasB wr h 4 ((fil NU k false).map Value.bool)) (c : Chg g h W wr) (e1 : NB.getD k 0 = x) (e2 : NU.getD k false = y) :
    RSetRel W g h N NB NU (.int .i64 ((k : Int) + 1)) ((wr.setCell ⟨g, k, none⟩ (.int .u8 x)).setCell ⟨h, k, none⟩ (.bool y)).drew.drew := by
  refine ⟨k + 1, hk, by simp, drew_has (drew_has ?_), drew_has (drew_has ?_), chg_drew (chg_drew (chg_set (chg_set c g (.inl rfl) _ _) h (.inr rfl) _ _))⟩
  · have := has_far (has_set gB k (.int .u8 x)) hgh k (.bool y)
    rw [← List.map_set] at this
    have q := fil_set NB k 0 0 (by omega)
    rw [e1] at q
    rw [q] at this
    exact this
  · have := has_set (has_far gU hgh.symm k (.int .u8 x)) k (.bool y)
    rw [← List.map_set] at this
    have q := fil_set NU k false false (by omega)
    rw [e2] at q
    rw [q] at this
    exact this

def RSetP (w : World) (N : Nat) (NB : List Int) (NU : List Bool) (e : Ending) (w' : World) : Prop :=
  ∃ g h, e = .returned (.agg #[.slice (some ⟨g, 0, none⟩) N N, .slice (some ⟨h, 0, none⟩) N N]) ∧ HasB w' g 5 (NB.map (Value.int .u8)) ∧ HasB w' h 4 (NU.map Value.bool) ∧ w.heap.size ≤ g ∧ w.heap.size ≤ h ∧ Below w.heap.size w w'

end Go.Proofs.Ytinehmagkdgiiaa.Mm

namespace Go.Proofs.Ytinehmagkdgiiaa.Mm
open Go.ChangeShapes Go.WideShapes Go.ChangeAt Go.RowKit
set_option linter.unusedVariables false
set_option maxRecDepth 10000

def RWriteP (w : World) (yb N cU : Nat) (NB : List Int) (e : Ending) (w' : World) : Prop :=
  ∃ g cap, e = .returned (.agg #[.slice (some ⟨g, 0, none⟩) N cap, .slice (some ⟨yb, 0, none⟩) N cU]) ∧ RowAt w' (some ⟨g, 0, none⟩) cap NB ∧ w.heap.size ≤ g ∧ g < w'.heap.size ∧ Below w.heap.size w w'

theorem news_at {w : World} {xb cB : Nat} {B : List Int} (r : RowAt w (some ⟨xb, 0, none⟩) cB B) (hne : B ≠ []) : ∀ j u, (B.map (Value.int .u8))[j]? = some u → w.cell? ((⟨xb, 0, none⟩ : Addr).add j) = some u := by
  intro j u hj
  have hjl : j < B.length := by
    rcases Nat.lt_or_ge j B.length with h | h
    · exact h
    · rw [List.getElem?_eq_none (by simpa using h)] at hj; cases hj
  obtain ⟨x, hx, _, hc⟩ := r.at_ j hjl
  injection hx with hx; subst hx
  rw [hc]
  simp [List.getElem?_eq_getElem hjl] at hj
  subst hj
  simp [List.getD, List.getElem?_eq_getElem hjl]

theorem step_app {W : World} {ops : Array Oper} {o : Oper} {a : Act} {K : Act → World → Prop} {Q : Exit → Act → World → Prop} {E : Prop} (hgd : o.guard = none) (s x : Operand)
    (ho : o.op = .call { callee := .builtin .append, args := #[s, x], argTypes := #[22, 22] }) (s0 G N cB xb : Nat) (B : List Int)
    (hs : a.eval s = .slice (some ⟨G, 0, none⟩) 0 0) (hx : a.eval x = .slice (some ⟨xb, 0, none⟩) N cB) (hG : HasB W G 5 []) (hsG : s0 ≤ G) (r : RowAt W (some ⟨xb, 0, none⟩) cB B) (hB : B.length = N) (hN0 : 0 < N) (hN : N ≤ 65536)
    (h : ∀ g cap w' cur, HasB w' g 5 cur → cur.length = cap → N ≤ cap → cap ≤ maxLen → cur.take N = B.map (Value.int .u8) → (g = G ∨ g = W.heap.size) → Chg G G W w' → K (a.put o.dst (.slice (some ⟨g, 0, none⟩) N cap)) w') :
    if Region.wanted o (yielded ops a.tmps) = true then Oper.wp Try.prog o a W K Q else E := by
  obtain ⟨u0, hu0, hz0, hz1, hz2⟩ := info_parts u8_info
  have hGl := hG.lt
  have hne : B ≠ [] := by intro e; subst e; simp at hB; omega
  refine step_append_lies W hgd s x 22 ho s0 5 u0 _ 1 1 Try.underlying22 hu0 hz0 hz1 hz2 rfl (by decide) _ 0 [] hs ?_ ⟨xb, 0, none⟩ N cB (B.map (Value.int .u8)) hx (by simp [hB]) (news_at r hne) (ints_oneCell .u8 B) hN0 (by unfold maxLen; omega) (by omega) (by omega) W.heap.size rfl ?_
  · exact ⟨rfl, .inr ⟨G, 0, #[], rfl, hsG, hG, Nat.le_refl _, Nat.zero_le _, rfl, rfl⟩⟩
  · intro g cap w' hown hgr hor hlt
    rw [Nat.zero_add, List.nil_append] at hown
    rw [Nat.zero_add]
    obtain ⟨hl, h2⟩ := hown
    rcases h2 with ⟨hq, _⟩ | ⟨g', cap', cur, hv, hb, hh, hc1, hc2, hc3, hc4⟩
    · cases hq
    · injection hv with hv1 hv2 hv3
      injection hv1 with hv1
      injection hv1 with hv1
      subst hv1 hv3
      refine h g cap w' cur.toList (by unfold HasB; simpa using hh) (by simpa using hc3) hc1 hc2 (by simpa using hc4) ?_ ⟨hgr.os, hgr.tape, hgr.output, hgr.size, fun k hk h1 _ => hgr.block k hk (fun e => by simp [Value.ownBlock] at e; exact h1 e)⟩
      rcases hor with e | e
      · simp [Value.ownBlock] at e; exact .inl e.symm
      · exact .inr e

theorem chg_cells {g : Nat} {w w' : World} (c : Chg g g w w') : (∀ b o, b < w.heap.size → ¬ b = g → w'.cell? ⟨b, o, none⟩ = w.cell? ⟨b, o, none⟩) ∧ (∀ b o, b < w.heap.size → ¬ b = g → w'.frozen? ⟨b, o, none⟩ = w.frozen? ⟨b, o, none⟩) :=
  ⟨fun b o h1 h2 => World.cell?_of_block (c.block b h1 h2 h2), fun b o h1 h2 => World.frozen?_of_block (c.block b h1 h2 h2)⟩
theorem HasB.al {w : World} {g : Nat} {t : TypeId} {cs : List Value} (h : HasB w g t cs) (o : Obj) : HasB (w.alloc o) g t cs := h.below (bel_al (Below.refl _ _) _)
theorem HasB.newAt (w : World) (g : Nat) (t : TypeId) (cs : Array Value) (hg : g = w.heap.size) : HasB (w.alloc (.cells cs t)) g t cs.toList := by
  subst hg
  have := HasB.new w t cs.toList
  rwa [Array.toArray_toList] at this
theorem RowAt.al {w : World} {A : Option Addr} {cap : Nat} {l : List Int} (r : RowAt w A cap l) (o : Obj) : RowAt (w.alloc o) A cap l := r.below (bel_al (Below.refl _ _) _)
theorem RowAt.dr {w : World} {A : Option Addr} {cap : Nat} {l : List Int} (r : RowAt w A cap l) : RowAt w.drew A cap l := r

/-- the world, where k bytes are written -/
def RWRel (W : World) (g a n : Nat) (cur : List Value) (l : List Int) (i : Value) (w' : World) : Prop :=
  ∃ k : Nat, k ≤ n ∧ i = .int .i64 k ∧ HasB w' g 5 (splice cur a ((l.take k).map (Value.int .u8))) ∧ Chg g g W w'
theorem splice_set {α : Type} (L c : List α) (a : Nat) (x : α) (h : a + (c.length + 1) ≤ L.length) : (splice L a c).set (a + c.length) x = splice L a (c ++ [x]) := by
  apply ext_getD x
  · rw [List.length_set, splice_len _ _ _ (by omega), splice_len _ _ _ (by simp; omega)]
  · intro i hi
    have e : ((splice L a c).set (a + c.length) x).getD i x = if a + c.length = i then x else (splice L a c).getD i x := by
      simp only [List.getD, List.getElem?_set]
      rw [splice_len _ _ _ (by omega)]
      by_cases hq : a + c.length = i
      · rw [if_pos hq, if_pos hq, if_pos (by omega)]; rfl
      · rw [if_neg hq, if_neg hq]
    rw [e, splice_getD _ _ _ _ (by omega), splice_getD _ _ _ _ (by simp; omega)]
    simp only [List.length_append, List.length_cons, List.length_nil]
    by_cases hq : a + c.length = i
    · rw [if_pos hq, if_pos (by omega)]
      subst hq
      simp [List.getD]
    · rw [if_neg hq]
      by_cases h1 : a ≤ i ∧ i < a + c.length
      · rw [if_pos h1, if_pos (by omega)]
        simp [List.getD, List.getElem?_append, show i - a < c.length by omega]
      · rw [if_neg h1, if_neg (by omega)]
theorem rw_step {W wr : World} {g a n k : Nat} {cur : List Value} {l : List Int} {x : Int} (hk : k < n) (hl : l.length = n) (hf : a + n ≤ cur.length) (hB : HasB wr g 5 (splice cur a ((l.take k).map (Value.int .u8)))) (c : Chg g g W wr) (hx : l.getD k 0 = x) :
    RWRel W g a n cur l (.int .i64 ((k : Int) + 1)) (wr.setCell ⟨g, a + k, none⟩ (.int .u8 x)).drew := by
  refine ⟨k + 1, hk, by simp, drew_has ?_, chg_drew (chg_set c g (.inl rfl) _ _)⟩
  have hlk : ((l.take k).map (Value.int .u8)).length = k := by rw [List.length_map, List.length_take]; omega
  have := has_set hB (a + k) (.int .u8 x)
  have e := splice_set cur ((l.take k).map (Value.int .u8)) a (.int .u8 x) (by omega)
  rw [hlk] at e
  rw [e] at this
  have q : l.take (k + 1) = l.take k ++ [x] := by
    rw [List.take_succ_eq_append_getElem (by omega)]
    congr 2
    rw [← hx]
    simp [List.getD, List.getElem?_eq_getElem (by omega : k < l.length)]
  rw [q, List.map_append]
  exact this
theorem rw_row {w : World} {g a n N cp : Nat} {cur : List Value} {B l : List Int} (hf : a + l.length ≤ N) (hB : B.length = N) (hl : l.length = n) (hc : cur.length = cp) (h2 : N ≤ cp) (h3 : cp ≤ maxLen) (h4 : cur.take N = B.map (Value.int .u8)) (bB : Bytes B) (bl : Bytes l)
    (h : HasB w g 5 (splice cur a ((l.take n).map (Value.int .u8)))) : RowAt w (some ⟨g, 0, none⟩) cp (splice B a l) := by
  have hL : (splice B a l).length = N := by rw [splice_len _ _ _ (by omega), hB]
  refine ⟨by omega, h3, splice_byte bB bl _, fun _ => ⟨_, rfl, h.lt, fun i hi => ?_⟩⟩
  rw [hL] at hi
  rw [addr_add, Nat.zero_add, h.cell, List.take_of_length_le (by omega)]
  have hS : (splice cur a (l.map (Value.int .u8))).length = cp := by rw [splice_len _ _ _ (by rw [List.length_map]; omega), hc]
  have e := splice_getD cur a (l.map (Value.int .u8)) (.int .u8 0) (by rw [List.length_map]; omega) i
  rw [List.getElem?_eq_getElem (by omega)]
  simp only [List.getD, List.getElem?_eq_getElem (by omega : i < (splice cur a (l.map (Value.int .u8))).length), Option.getD_some] at e
  rw [e]
  have e' := splice_getD B a l 0 (by omega) i
  rw [e', List.length_map]
  by_cases q : a ≤ i ∧ i < a + l.length
  · rw [if_pos q, if_pos q]
    simp [List.getD, List.getElem?_eq_getElem (by omega : i - a < l.length)]
  · rw [if_neg q, if_neg q]
    have hc2 : cur[i]? = (B.map (Value.int .u8))[i]? := by rw [← h4, List.getElem?_take, if_pos hi]
    rw [hc2]
    simp [List.getD, List.getElem?_eq_getElem (by omega : i < B.length)]
end Go.Proofs.Ytinehmagkdgiiaa.Mm
