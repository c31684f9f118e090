/- The reader's operations: the sign of one that stands between such parts. -/
import Derived.Test.YtkacplcilkogpaaGreatDoorQLxB
import Derived.Test.YtkacplcilkogpaaGreatDoorQPaB
import Derived.Maps.AppendAt
import Derived.WalkLawsBesides
import Derived.WalkMore
namespace Go.Proofs.YtkacplcilkogpaaGreatDoor.Mm
open Go.ChangeShapes Go.WideShapes Go.ChangeAt Go.RowKit
set_option linter.unusedVariables false
set_option linter.unusedSimpArgs false
set_option maxRecDepth 10000

/-- nothing that was there has changed but the block g and the block r, if there is one -/
structure Ofr (g : Nat) (r : Option Nat) (w w' : World) : Prop where
  os : w'.os = w.os
  tape : w'.tape = w.tape
  output : w'.output = w.output
  size : w.heap.size ≤ w'.heap.size
  block : ∀ k, k < w.heap.size → k ≠ g → some k ≠ r → w'.heap[k]? = w.heap[k]?
theorem Ofr.refl (g : Nat) (r : Option Nat) (w : World) : Ofr g r w w := ⟨rfl, rfl, rfl, Nat.le_refl _, fun _ _ _ _ => rfl⟩
theorem Ofr.of {g : Nat} {r : Option Nat} {w w' : World} (b : Below w.heap.size w w') : Ofr g r w w' := ⟨b.os, b.tape, b.output, b.size, fun k hk _ _ => b.block k hk⟩
theorem Ofr.grow {g : Nat} {r : Option Nat} {w w' : World} (h : Ofr g none w w') : Ofr g r w w' := ⟨h.os, h.tape, h.output, h.size, fun k hk h1 _ => h.block k hk h1 (by simp)⟩
/-- where a row's block is: where it was, or new -/
def Nw (w : World) (r r' : Option Nat) : Prop := r' = r ∨ ∃ b, r' = some b ∧ w.heap.size ≤ b
theorem Nw.refl (w : World) (r : Option Nat) : Nw w r r := .inl rfl
theorem Nw.trans {w w' : World} {a b c : Option Nat} (h : Nw w a b) (h' : Nw w' b c) (hs : w.heap.size ≤ w'.heap.size) : Nw w a c := by
  rcases h' with h' | ⟨x, h', hx⟩
  · rw [h']; exact h
  · exact .inr ⟨x, h', Nat.le_trans hs hx⟩
theorem Nw.ne {w : World} {r r' : Option Nat} (h : Nw w r r') {k : Nat} (hk : k < w.heap.size) (hr : some k ≠ r) : some k ≠ r' := by
  rcases h with h | ⟨b, h, hb⟩
  · rw [h]; exact hr
  · rw [h]; intro e; injection e with e; omega
theorem Ofr.trans {g : Nat} {r r' : Option Nat} {a b c : World} (x : Ofr g r a b) (y : Ofr g r' b c) (n : Nw a r r') : Ofr g r a c :=
  ⟨y.os.trans x.os, y.tape.trans x.tape, y.output.trans x.output, Nat.le_trans x.size y.size, fun k hk h1 h2 =>
    (y.block k (Nat.lt_of_lt_of_le hk x.size) h1 (n.ne hk h2)).trans (x.block k hk h1 h2)⟩
theorem Ofr.below {g B : Nat} {r : Option Nat} {w0 w w' : World} (x : Ofr g r w w') (b : Below B w0 w) (hB : B ≤ w.heap.size) (hg : B ≤ g) (hr : ∀ k, r = some k → B ≤ k) : Below B w0 w' :=
  ⟨x.os.trans b.os, x.tape.trans b.tape, x.output.trans b.output, Nat.le_trans b.size x.size, fun k hk => (x.block k (by omega) (by omega) (fun e => by have := hr k e.symm; omega)).trans (b.block k hk)⟩
theorem HasB.ofr {w w' : World} {g k : Nat} {r : Option Nat} {t : TypeId} {cs : List Value} (x : HasB w k t cs) (c : Ofr g r w w') (h1 : k ≠ g) (h2 : some k ≠ r) : HasB w' k t cs := x.same (c.block _ x.lt h1 h2)
theorem Ofr.set {g : Nat} {r : Option Nat} {w w' : World} (x : Ofr g r w w') (i : Nat) (v : Value) : Ofr g r w (w'.setCell ⟨g, i, none⟩ v) :=
  ⟨x.os, x.tape, x.output, by show _ ≤ (w'.setCell _ _).heap.size; simp [World.setCell]; exact x.size, fun k hk h1 h2 => by
    rw [← x.block k hk h1 h2]
    simp only [World.setCell, Array.getElem?_modify]
    rw [if_neg (Ne.symm h1)]⟩
theorem own_ofr {w w' : World} {g base size n : Nat} {r : Option Nat} {e : TypeId} {v : Value} {xs : List Value} (h : w.ownsRow base e size v n xs) (c : Ofr g r w w') (hg : g < base) (hr : v.ownBlock = none ∨ v.ownBlock ≠ r) : w'.ownsRow base e size v n xs := by
  refine ⟨h.1, ?_⟩
  rcases h.2 with hn | ⟨b, cap, cur, rfl, hb, hgg, rest⟩
  · exact .inl hn
  · refine .inr ⟨b, cap, cur, rfl, hb, ?_, rest⟩
    rw [c.block b (Array.getElem?_eq_some_iff.1 hgg).1 (by omega) (by simpa [Value.ownBlock] using hr)]
    exact hgg
/-- rows of two kinds lie in two blocks -/
theorem own_ne {w : World} {base base' size size' n n' : Nat} {e e' : TypeId} {v v' : Value} {xs xs' : List Value} (h : w.ownsRow base e size v n xs) (h' : w.ownsRow base' e' size' v' n' xs') (hne : e ≠ e') : v.ownBlock = none ∨ v.ownBlock ≠ v'.ownBlock := by
  rcases h.2 with ⟨rfl, _⟩ | ⟨b, cap, cur, rfl, _, hg, _⟩
  · exact .inl rfl
  · right
    intro e1
    rcases h'.2 with ⟨rfl, _⟩ | ⟨b', cap', cur', rfl, _, hg', _⟩
    · simp [Value.ownBlock] at e1
    · simp [Value.ownBlock] at e1
      subst e1
      rw [hg] at hg'
      injection hg' with hg'
      injection hg' with _ ht
      exact hne ht
theorem own_neB {w : World} {base size n g : Nat} {e t : TypeId} {v : Value} {xs cs : List Value} (h : w.ownsRow base e size v n xs) (hb : HasB w g t cs) (hne : e ≠ t) : some g ≠ v.ownBlock := by
  rcases h.2 with ⟨rfl, _⟩ | ⟨b, cap, cur, rfl, _, hg, _⟩
  · simp [Value.ownBlock]
  · intro e1
    simp [Value.ownBlock] at e1
    subst e1
    unfold HasB at hb
    rw [hg] at hb
    injection hb with hb
    injection hb with _ ht
    exact hne ht

/-- a node's cells -/
def ndC (x : NdR) (L : Value) : List Value := [.int .i64 x.k, .int .i64 x.a, .int .i64 x.b, .int .i64 x.c, .string (strB x.t), .int .u32 x.v, L]
def ndP (p : NdR × Value) : List Value := ndC p.1 p.2
/-- a declaration's -/
def dcC (x : Dc) : List Value := [.string (strB x.1), .int .i64 x.2]
theorem nd_info : (Tryz.prog.info? 35).map (fun i => (i.zero, i.size, i.bytes)) = some (some (.agg #[.int .i64 0, .int .i64 0, .int .i64 0, .int .i64 0, .string ⟨#[]⟩, .int .u32 0, .slice none 0 0]), 7, 80) := by kernel_rfl
theorem dc_info : (Tryz.prog.info? 54).map (fun i => (i.zero, i.size, i.bytes)) = some (some (.agg #[.string ⟨#[]⟩, .int .i64 0]), 2, 24) := by kernel_rfl
theorem in_info : (Tryz.prog.info? 3).map (fun i => (i.zero, i.size, i.bytes)) = some (some (.int .i64 0), 1, 8) := by kernel_rfl
/-- a node's list of places -/
def LsAt (w : World) (B : Nat) (p : NdR × Value) : Prop := w.ownsRow B 3 1 p.2 p.1.l.length (p.1.l.map (Value.int .i64))

/-- the reader: its words (as they are in the memory), all of them, the number of the next one, declarations, nodes -/
structure Sr where
  V : Value
  W : List Pc
  k : Nat
  D : List Dc
  dv : Value
  N : List (NdR × Value)
  nv : Value
  body : Int
  deep : Nat
  great : Bool
def Sr.cs (S : Sr) : List Value := [S.V, .int .i64 S.k, S.dv, S.nv, .int .i64 S.body, .int .i64 S.deep, .bool S.great]
def Sr.ws (S : Sr) : List Pc := S.W.drop S.k
def Sr.up (S : Sr) : Sr := { S with k := S.k + 1 }
/-- the signs of all operations: text, number, between what -/
def sgT : List (Bs × Int × Int) := [([60], 13, 0), ([61, 61], 14, 0), ([43], 3, 1), ([45], 4, 1), ([42], 5, 2), ([47], 6, 2), ([37], 7, 2)]
def sgC : List Value := sgT.flatMap fun x => [.string (strB x.1), .int .u32 x.2.1, .int .i64 x.2.2]
def SgV (w : World) : Prop := ∀ i v, sgC[i]? = some v → w.cell? ⟨1, i, none⟩ = some v
theorem SgV.below {w w' : World} {g : Nat} (h : SgV w) (b : Below g w w') (hg : 1 < g) : SgV w' := fun i v hi => by rw [b.cell (p := ⟨_, i, none⟩) hg]; exact h i v hi
structure RdAt (B g : Nat) (w : World) (S : Sr) : Prop where
  hg : g < B
  hB : B ≤ w.heap.size
  cells : HasB w g 43 S.cs
  words : ∃ A cap w0, S.V = .slice A S.W.length cap ∧ PcRow w0 A cap S.W ∧ w0.heap.size ≤ g ∧ Below w0.heap.size w0 w
  few : S.W.length ≤ 4000
  le : S.k ≤ S.W.length
  decls : w.ownsRow B 54 2 S.dv S.D.length (S.D.flatMap dcC)
  dfew : S.D.length ≤ S.k
  nodes : w.ownsRow B 35 7 S.nv S.N.length (S.N.flatMap ndP)
  lists : ∀ p ∈ S.N, LsAt w B p
  deepS : S.deep ≤ 100000
  nfew : S.N.length ≤ 5000
  sg : SgV w
  sgl : 1 < g
/-- what is left where it is: all but the nodes (and the reader's own) -/
structure Stp (g : Nat) (S S' : Sr) (w w' : World) : Prop where
  V : S'.V = S.V
  W : S'.W = S.W
  D : S'.D = S.D
  dv : S'.dv = S.dv
  body : S'.body = S.body
  nw : Nw w S.nv.ownBlock S'.nv.ownBlock
  fr : Ofr g S.nv.ownBlock w w'
theorem Stp.trans {g : Nat} {S S' S'' : Sr} {a b c : World} (x : Stp g S S' a b) (y : Stp g S' S'' b c) : Stp g S S'' a c :=
  ⟨y.V.trans x.V, y.W.trans x.W, y.D.trans x.D, y.dv.trans x.dv, y.body.trans x.body, x.nw.trans y.nw x.fr.size, x.fr.trans y.fr x.nw⟩
theorem Stp.refl (g : Nat) (S : Sr) (w : World) : Stp g S S w w := ⟨rfl, rfl, rfl, rfl, rfl, .refl _ _, .refl _ _ _⟩

theorem RdAt.ofr {B g : Nat} {w w' : World} {S : Sr} (h : RdAt B g w S) (c : Below w.heap.size w w') : RdAt B g w' S := by
  have o : Ofr g none w w' := .of c
  refine ⟨h.hg, Nat.le_trans h.hB c.size, h.cells.below c, ?_, h.few, h.le, own_belowP h.decls c, h.dfew, own_belowP h.nodes c, fun p hp => own_belowP (h.lists p hp) c, h.deepS, h.nfew, h.sg.below c (by have := h.sgl; have := h.hg; have := h.hB; omega), h.sgl⟩
  obtain ⟨A, cap, w0, h1, h2, h3, h4⟩ := h.words
  exact ⟨A, cap, w0, h1, h2, h3, h4.trans (c.mono (by have := h.hB; have := h.hg; omega))⟩
/-- a cell of the reader is set -/
theorem RdAt.set {B g : Nat} {w : World} {S S' : Sr} (h : RdAt B g w S) (i : Nat) (v : Value) (e : S'.cs = S.cs.set i v) (hV : S'.V = S.V) (hW : S'.W = S.W) (hD : S'.D = S.D) (hdv : S'.dv = S.dv) (hN : S'.N = S.N) (hnv : S'.nv = S.nv) (hk : S.k ≤ S'.k) (hk2 : S'.k ≤ S'.W.length) (hd : S'.deep ≤ 100000) :
    RdAt B g (w.setCell ⟨g, i, none⟩ v) S' ∧ Ofr g none w (w.setCell ⟨g, i, none⟩ v) := by
  have o : Ofr g none w (w.setCell ⟨g, i, none⟩ v) := (Ofr.refl g none w).set i v
  refine ⟨⟨h.hg, Nat.le_trans h.hB o.size, by rw [e]; exact has_set h.cells i v, ?_, by rw [hW]; exact h.few, hk2, by rw [hD, hdv]; exact own_ofr h.decls o h.hg (by cases S.dv.ownBlock <;> simp), by rw [hD]; have := h.dfew; omega, by rw [hN, hnv]; exact own_ofr h.nodes o h.hg (by cases S.nv.ownBlock <;> simp), fun p hp => ?_, hd, by rw [hN]; exact h.nfew, h.sg.below ((Below.refl g w).setCell (p := ⟨g, i, none⟩) (Nat.le_refl _) v) h.sgl, h.sgl⟩, o⟩
  · obtain ⟨A, cap, w0, h1, h2, h3, h4⟩ := h.words
    exact ⟨A, cap, w0, by rw [hV, hW]; exact h1, by rw [hW]; exact h2, h3, h4.setCell (p := ⟨g, i, none⟩) h3 v⟩
  · rw [hN] at hp
    exact own_ofr (h.lists p hp) o h.hg (by cases p.2.ownBlock <;> simp)
/-- a block that is none of the reader's is changed -/
theorem RdAt.oth {B g j : Nat} {w w' : World} {S : Sr} (h : RdAt B g w S) (c : Ofr j none w w') (hj : g < j) (hn : some j ≠ S.nv.ownBlock) (hd : some j ≠ S.dv.ownBlock) (hl : ∀ p ∈ S.N, some j ≠ p.2.ownBlock) : RdAt B g w' S := by
  have key : ∀ {e : TypeId} {size n : Nat} {v : Value} {xs : List Value}, w.ownsRow B e size v n xs → some j ≠ v.ownBlock → w'.ownsRow B e size v n xs := fun {e size n v xs} ho hne => by
    refine ⟨ho.1, ?_⟩
    rcases ho.2 with hx | ⟨b, cap, cur, rfl, hb, hgg, rest⟩
    · exact .inl hx
    · refine .inr ⟨b, cap, cur, rfl, hb, ?_, rest⟩
      rw [c.block b (Array.getElem?_eq_some_iff.1 hgg).1 (by intro e; subst e; exact hne rfl) (by simp)]
      exact hgg
  refine ⟨h.hg, Nat.le_trans h.hB c.size, h.cells.ofr c (by omega) (by simp), ?_, h.few, h.le, key h.decls hd, h.dfew, key h.nodes hn, fun p hp => key (h.lists p hp) (hl p hp), h.deepS, h.nfew, h.sg.below (c.below (B := g) (Below.refl g w) (by have := h.cells.lt; omega) (by omega) (by intro k e; cases e)) h.sgl, h.sgl⟩
  obtain ⟨A, cap, w0, h1, h2, h3, h4⟩ := h.words
  exact ⟨A, cap, w0, h1, h2, h3, c.below h4 (by have := h.hB; have := h.hg; omega) (by omega) (by intro k e; cases e)⟩
theorem RdAt.othB {B g j : Nat} {w w' : World} {S : Sr} {t : TypeId} {cs : List Value} (h : RdAt B g w S) (c : Ofr j none w w') (hj : g < j) (hb : HasB w j t cs) (h1 : 35 ≠ t) (h2 : 54 ≠ t) (h3 : 3 ≠ t) : RdAt B g w' S :=
  h.oth c hj (own_neB h.nodes hb h1) (own_neB h.decls hb h2) (fun p hp => own_neB (h.lists p hp) hb h3)
theorem RdAt.othN {B g j : Nat} {w w' : World} {S : Sr} {cs : List Value} (h : RdAt B g w S) (c : Ofr j none w w') (hj : g < j) (hb : HasB w j 35 cs) (hn : some j ≠ S.nv.ownBlock) : RdAt B g w' S :=
  h.oth c hj hn (own_neB h.decls hb (by decide)) (fun p hp => own_neB (h.lists p hp) hb (by decide))
theorem Stp.oth {g j : Nat} {S S' : Sr} {w w1 w2 : World} (x : Stp g S S' w w1) (c : Ofr j none w1 w2) (hj : w.heap.size ≤ j) : Stp g S S' w w2 :=
  ⟨x.V, x.W, x.D, x.dv, x.body, x.nw, ⟨c.os.trans x.fr.os, c.tape.trans x.fr.tape, c.output.trans x.fr.output, Nat.le_trans x.fr.size c.size, fun k hk h1 h2 =>
    (c.block k (Nat.lt_of_lt_of_le hk x.fr.size) (by omega) (by simp)).trans (x.fr.block k hk h1 h2)⟩⟩
theorem Ofr.ne_oth {g j : Nat} {r : Option Nat} {w w1 w2 : World} (x : Ofr g r w w1) (c : Ofr j none w1 w2) (hj : w.heap.size ≤ j) : Ofr g r w w2 :=
  ⟨c.os.trans x.os, c.tape.trans x.tape, c.output.trans x.output, Nat.le_trans x.size c.size, fun k hk h1 h2 => (c.block k (Nat.lt_of_lt_of_le hk x.size) (by omega) (by simp)).trans (x.block k hk h1 h2)⟩
theorem drop_next {W : List Pc} {k : Nat} (h : k < W.length) : W.drop k = W.getD k pc0 :: W.drop (k + 1) := by
  rw [List.drop_eq_getElem_cons h]; simp [List.getD, h]
/-- the next word, as it lies in the memory -/
theorem RdAt.word {B g : Nat} {w : World} {S : Sr} (h : RdAt B g w S) (hk : S.k < S.W.length) : ∃ A cap x, S.V = .slice A S.W.length cap ∧ A = some x ∧ PcAt w (x.add (S.k * 3)) (S.W.getD S.k pc0) ∧ WordOk (S.W.getD S.k pc0) := by
  obtain ⟨A, cap, w0, h1, ⟨p1, p2, p3, p4⟩, h3, h4⟩ := h.words
  obtain ⟨x, rfl, hx, hc⟩ := p4 (by intro e; rw [e] at hk; simp at hk)
  refine ⟨_, cap, x, h1, rfl, ?_, p3 _ (by simp [List.getD, hk])⟩
  exact (hc S.k hk).below (by rw [block_add]; exact hx) h4
theorem RdAt.wok {B g : Nat} {w : World} {S : Sr} (h : RdAt B g w S) : ∀ p ∈ S.W, WordOk p := by
  obtain ⟨A, cap, w0, h1, ⟨p1, p2, p3, p4⟩, h3, h4⟩ := h.words
  exact p3
theorem RdAt.c0 {B g : Nat} {w : World} {S : Sr} (h : RdAt B g w S) : w.cell? ⟨g, 0, none⟩ = some S.V := h.cells.cell 0
theorem RdAt.c1 {B g : Nat} {w : World} {S : Sr} (h : RdAt B g w S) : w.cell? ⟨g, 1, none⟩ = some (.int .i64 S.k) := h.cells.cell 1
theorem RdAt.c2 {B g : Nat} {w : World} {S : Sr} (h : RdAt B g w S) : w.cell? ⟨g, 2, none⟩ = some S.dv := h.cells.cell 2
theorem RdAt.c3 {B g : Nat} {w : World} {S : Sr} (h : RdAt B g w S) : w.cell? ⟨g, 3, none⟩ = some S.nv := h.cells.cell 3
theorem RdAt.c4 {B g : Nat} {w : World} {S : Sr} (h : RdAt B g w S) : w.cell? ⟨g, 4, none⟩ = some (.int .i64 S.body) := h.cells.cell 4
theorem RdAt.c5 {B g : Nat} {w : World} {S : Sr} (h : RdAt B g w S) : w.cell? ⟨g, 5, none⟩ = some (.int .i64 S.deep) := h.cells.cell 5
theorem RdAt.c6 {B g : Nat} {w : World} {S : Sr} (h : RdAt B g w S) : w.cell? ⟨g, 6, none⟩ = some (.bool S.great) := h.cells.cell 6
theorem pc_new (w : World) : ∃ W1, w.alloc (.cells #[.int .u8 0, .string ⟨#[]⟩, .int .u32 0] 63) = W1 ∧ HasB W1 w.heap.size 63 [.int .u8 0, .string ⟨#[]⟩, .int .u32 0] ∧ Below w.heap.size w W1 :=
  ⟨_, rfl, HasB.new w _ _, bel_al (Below.refl _ _) _⟩
theorem ws_nil {S : Sr} (h : S.k = S.W.length) : S.ws = [] := by unfold Sr.ws; rw [h]; simp
theorem ws_cons {S : Sr} (h : S.k < S.W.length) : S.ws = S.W.getD S.k pc0 :: S.up.ws := drop_next h
set_option maxHeartbeats 2000000 in
theorem nx_any {B g : Nat} {w : World} {S : Sr} (h : RdAt B g w S) : Calls Tryz.prog 53 #[.pointer (some ⟨g, 0, none⟩)] w fun e w' => e = .returned (aggP (S.ws.headD pc0)) ∧ Below w.heap.size w w' := by
  obtain ⟨W1, e1, N1, B1⟩ := pc_new w
  have R1 := h.ofr B1
  have c0 := R1.c0
  have c1 := R1.c1
  have n0 := N1.cell 0
  have n1 := N1.cell 1
  have n2 := N1.cell 2
  have f0 := N1.frozen 0
  have f1 := N1.frozen 1
  have f2 := N1.frozen 2
  simp only [List.getElem?_cons_zero, List.getElem?_cons_succ] at n0 n1 n2
  rcases Nat.lt_or_ge S.k S.W.length with hk | hk
  · have hv := Lib.hid (ws_cons hk)
    have hd : decide ((S.k : Int) = (S.W.length : Int)) = false := by simp; omega
    have hne : ¬ ((S.k : Int) = (S.W.length : Int)) := by omega
    have hkz : (S.k : Int) < (S.W.length : Int) := by omega
    obtain ⟨A, cap, x, hV, hA, PA0, OK⟩ := h.word hk
    have a0 := h.c0
    have a1 := h.c1
    have hg0 : g < w.heap.size := h.cells.lt
    subst hA
    rw [hV] at c0 a0
    have hx0 : x.block < w.heap.size := by have := block_of_cell PA0.c0; rw [block_add] at this; exact this
    have PA := PA0.below (w' := W1) (by rw [block_add]; exact hx0) B1
    have p0 := PA.c0
    have p1 := PA.c1
    have p2 := PA.c2
    generalize hp : S.W.getD S.k pc0 = pc at *
    generalize S.W.length = nn at *
    generalize S.k = k at *
    have BP := B1
    have KS : Hid (∀ w', Below w.heap.size w w' → (w'.cell? ⟨g, 0, none⟩ = some (.slice (some x) nn cap) ∧ w'.cell? ⟨g, 1, none⟩ = some (.int .i64 k) ∧ w'.cell? (x.add (k * 3)) = some (.int .u8 pc.1) ∧ w'.cell? ⟨(x.add (k * 3)).block, (x.add (k * 3)).off + 1, none⟩ = some (.string (strB pc.2.1)) ∧ w'.cell? ⟨(x.add (k * 3)).block, (x.add (k * 3)).off + 2, none⟩ = some (.int .u32 pc.2.2)) ∧ Below w.heap.size w w') := Lib.hid (fun w' b => by
      have q0 := b.cell (p := ⟨g, 0, none⟩) hg0
      have q1 := b.cell (p := ⟨g, 1, none⟩) hg0
      have PB := PA0.below (w' := w') (by rw [block_add]; exact hx0) b
      exact ⟨⟨q0.trans a0, q1.trans a1, PB.c0, PB.c1, PB.c2⟩, b⟩)
    clear OK PA R1 h hV hp N1 PA0 a0 a1 BP hg0 hx0
    go_enter Tryz.func53, Tryz.ntmps53
    go_wp2_with fail
    go_quiet (fail)
    go_wp2_with fail
    go_region_held3 (fun w' => (w'.cell? ⟨g, 0, none⟩ = some (.slice (some x) nn cap) ∧ w'.cell? ⟨g, 1, none⟩ = some (.int .i64 k) ∧ w'.cell? (x.add (k * 3)) = some (.int .u8 pc.1) ∧ w'.cell? ⟨(x.add (k * 3)).block, (x.add (k * 3)).off + 1, none⟩ = some (.string (strB pc.2.1)) ∧ w'.cell? ⟨(x.add (k * 3)).block, (x.add (k * 3)).off + 2, none⟩ = some (.int .u32 pc.2.2)) ∧ Below w.heap.size w w')
      (first | exact KS.out _ (below_drewP (below_drewN B1 _)) | exact KS.out _ (set3_bel (Nat.le_refl _) (below_drewP (below_drewN B1 _)) _ _ _)) (fail)
    rename_i hh
    have HB := hh.2
    clear hh
    go_wp2_with fail
    exact bodyPost_ret (v := aggP pc) (by simp [results, Tryz.results53, go_sem, aggP, n0, n1, n2]) rfl ⟨by rw [hv.out]; rfl, HB⟩
  · have hk : S.k = S.W.length := by have := h.le; omega
    have hv := Lib.hid (ws_nil hk)
    obtain ⟨A, cap, w0, hV, hrest⟩ := R1.words
    rw [hV] at c0
    rw [hk] at c1
    generalize S.W.length = nn at *
    clear hrest R1 h hV hk N1
    go_enter Tryz.func53, Tryz.ntmps53
    go_wp2_with fail
    go_quiet (fail)
    go_wp2_with fail
    exact bodyPost_ret (v := aggP pc0) (by simp [results, Tryz.results53, go_sem, aggP, pc0, strB, n0, n1, n2]) rfl ⟨by rw [hv.out]; rfl, set3_bel (Nat.le_refl _) (below_drewN B1 _) _ _ _⟩

/-- a text that a key or a sign can have -/
def KsT (t : Bs) : Prop := t ≠ [] ∧ isD (t.headD 0) = false
theorem ks_of {t : Bs} (h : t ≠ [] ∧ isD (t.headD 0) = false := by decide) : KsT t := h
theorem fld0 (k v : Int) (s : ByteArray) (w : World) : (Instr.field 63 (.agg #[.int .u8 k, .string s, .int .u32 v]) 0).run Tryz.prog w = .ok (.int .u8 k) w := by kernel_rfl
theorem fld1 (k v : Int) (s : ByteArray) (w : World) : (Instr.field 63 (.agg #[.int .u8 k, .string s, .int .u32 v]) 1).run Tryz.prog w = .ok (.string s) w := by kernel_rfl
theorem fld2 (k v : Int) (s : ByteArray) (w : World) : (Instr.field 63 (.agg #[.int .u8 k, .string s, .int .u32 v]) 2).run Tryz.prog w = .ok (.int .u32 v) w := by kernel_rfl
theorem few_of {B g : Nat} {w : World} {S : Sr} (h : RdAt B g w S) : S.k ≤ 4000 := Nat.le_trans h.le h.few
theorem hd_take {S : Sr} {t : Bs} (hw : ∀ p ∈ S.W, WordOk p) (hk : S.k ≤ S.W.length) (ht : KsT t) : decide ((S.ws.headD pc0).2.1 = t) = hdW t S.ws := by
  rcases Nat.lt_or_ge S.k S.W.length with h | h
  · rw [ws_cons h]
    have ok := hw (S.W.getD S.k pc0) (by simp [List.getD, h])
    show decide ((S.W.getD S.k pc0).2.1 = t) = isW t (S.W.getD S.k pc0)
    generalize S.W.getD S.k pc0 = p at *
    unfold isW
    by_cases e : p.2.1 = t
    · have h48 : p.1 ≠ 48 := fun e' => by
        have := ok.kD.2 e'
        rw [e, ht.2] at this
        cases this
      simp [e, h48]
    · simp [e]
  · rw [ws_nil (by omega)]
    simp only [List.headD_nil]
    have : ¬ (pc0.2.1 = t) := fun e => ht.1 e.symm
    simp [this, hdW]
theorem hd_lt {S : Sr} {t : Bs} (hk : S.k ≤ S.W.length) (h : hdW t S.ws = true) : S.k < S.W.length := by
  rcases Nat.lt_or_ge S.k S.W.length with h' | h'
  · exact h'
  · rw [ws_nil (by omega)] at h; cases h
theorem up_ws {S : Sr} {t : Bs} (hk : S.k ≤ S.W.length) (h : hdW t S.ws = true) : S.up.ws = S.ws.tail := by rw [ws_cons (hd_lt hk h)]; rfl
theorem up_at {B g : Nat} {w : World} {S : Sr} (h : RdAt B g w S) (hk : S.k < S.W.length) (z : Value) (hz : z = .int .i64 ((S.k : Int) + 1)) : RdAt B g (w.setCell ⟨g, 1, none⟩ z) S.up ∧ Stp g S S.up w (w.setCell ⟨g, 1, none⟩ z) := by
  subst hz
  obtain ⟨h1, h2⟩ := h.set (S' := S.up) 1 (.int .i64 ((S.k : Int) + 1)) rfl rfl rfl rfl rfl rfl rfl (by simp [Sr.up]) hk h.deepS
  exact ⟨h1, ⟨rfl, rfl, rfl, rfl, rfl, .refl _ _, h2.grow⟩⟩
theorem Stp.of {g : Nat} {S : Sr} {w w' : World} (b : Below w.heap.size w w') : Stp g S S w w' := ⟨rfl, rfl, rfl, rfl, rfl, .refl _ _, .of b⟩
theorem strB_eq {a b : Bs} : (strB a = strB b) = (a = b) := by
  apply propext
  constructor
  · intro h
    have := congrArg (fun x : ByteArray => x.data.toList) h
    simpa [strB] using this
  · intro h; rw [h]
theorem strB_beq (a b : Bs) : ((strB a).toList == (strB b).toList) = decide (a = b) := by
  rw [toList_of, toList_of, strB_toList, strB_toList]
  by_cases h : a = b <;> simp [h]
set_option maxHeartbeats 2000000 in
theorem take_any {B g : Nat} {w : World} {S : Sr} (h : RdAt B g w S) (t : Bs) (ht : KsT t) : Calls Tryz.prog 35 #[.pointer (some ⟨g, 0, none⟩), .string (strB t)] w fun e w' => e = .returned (.bool (hdW t S.ws)) ∧ RdAt B g w' (if hdW t S.ws then S.up else S) ∧ Stp g S (if hdW t S.ws then S.up else S) w w' := by
  have CN := Lib.hid (nx_any h)
  have hd := hd_take h.wok h.le ht
  have hlt := Lib.hid (hd_lt (t := t) h.le)
  have HH := Lib.hid h
  have hf := few_of h
  have hg := h.hg
  generalize S.ws.headD pc0 = pc at *
  clear h
  cases hb : hdW t S.ws <;> rw [hb] at hd <;> simp only [Bool.false_eq_true, if_false, if_true] <;> simp only [decide_eq_true_eq, decide_eq_false_iff_not] at hd
  · have hne : ((strB pc.2.1).toList == (strB t).toList) = false := by rw [strB_beq]; simpa using hd
    go_enter Tryz.func35, Tryz.ntmps35
    go_wp2_with fail
    refine (CN.out).mono ?_; rintro e w1 ⟨rfl, b1⟩
    have R1 := Lib.hid (HH.out.ofr b1)
    have S1 := Lib.hid (Stp.of (g := g) (S := S) b1)
    clear b1 HH hlt CN hd
    unfold aggP
    have hfd := fld1
    go_wp2
    go_ret
    exact ⟨rfl, R1.out, S1.out⟩
  · have hne : strB pc.2.1 = strB t := by rw [strB_eq]; exact hd
    have hne2 : ((strB t).toList == (strB t).toList) = true := by simp
    have hlt := hlt.out hb
    go_enter Tryz.func35, Tryz.ntmps35
    go_wp2_with fail
    refine (CN.out).mono ?_; rintro e w1 ⟨rfl, b1⟩
    have R1 := Lib.hid (HH.out.ofr b1)
    have S1 := Lib.hid (Stp.of (g := g) (S := S) b1)
    have c1 := R1.out.c1
    have f1 := R1.out.cells.frozen 1
    clear b1 HH CN hd
    have UP := Lib.hid (up_at R1.out hlt)
    unfold aggP
    rw [hne]
    have hfd := fld1
    go_wp2
    go_ret
    obtain ⟨R2, S2⟩ := UP.out _ (by first | rfl | (rw [IntWalk.i64_in _ (by omega)]) | simp [wrap64]; omega)
    exact ⟨rfl, R2, S1.out.trans S2⟩
/-- the word of that number can't stand there -/
def pan (k : Nat) : Ending := .panicked [{ v := .iface 66 (.int .i64 k), recovered := false }]
theorem Stp.fr0 {g : Nat} {S S' : Sr} {w w' : World} (h : Stp g S S' w w') : Ofr g S.nv.ownBlock w w' := h.fr
set_option maxHeartbeats 2000000 in
theorem must_any {B g : Nat} {w : World} {S : Sr} (h : RdAt B g w S) (t : Bs) (ht : KsT t) : Calls Tryz.prog 55 #[.pointer (some ⟨g, 0, none⟩), .string (strB t)] w fun e w' =>
    if hdW t S.ws = true then e = .returned (.tuple #[]) ∧ RdAt B g w' S.up ∧ Stp g S S.up w w' else e = pan S.k ∧ Ofr g S.nv.ownBlock w w' := by
  have CT := Lib.hid (take_any h t ht)
  clear h
  cases hb : hdW t S.ws <;> rw [hb] at CT <;> simp only [Bool.false_eq_true, if_false, if_true] at CT ⊢
  · go_enter Tryz.func55, Tryz.ntmps55
    go_wp2_with fail
    refine (CT.out).mono ?_; rintro e w1 ⟨rfl, R1, S1⟩
    have c1 := R1.c1
    have HR := Lib.hid R1
    have HS := Lib.hid S1
    clear R1 S1 CT
    go_wp2
    exact ⟨rfl, rfl, HS.out.fr0⟩
  · go_enter Tryz.func55, Tryz.ntmps55
    go_wp2_with fail
    refine (CT.out).mono ?_; rintro e w1 ⟨rfl, R1, S1⟩
    have HR := Lib.hid R1
    have HS := Lib.hid S1
    clear R1 S1 CT
    go_wp2
    go_end0
    exact ⟨rfl, HR.out, HS.out⟩
/-- the next word is of that kind -/
def hdK (k : Int) (ws : List Pc) : Bool := match ws with | [] => false | p :: _ => decide (p.1 = k)
theorem hdk_is {k : Int} (hk : k ≠ 0) (ws : List Pc) : decide ((ws.headD pc0).1 = k) = hdK k ws := by
  cases ws with
  | nil => simp [hdK, pc0]; exact fun e => hk e.symm
  | cons p r => rfl
theorem hdk_lt {S : Sr} {k : Int} (hk : S.k ≤ S.W.length) (h : hdK k S.ws = true) : S.k < S.W.length := by
  rcases Nat.lt_or_ge S.k S.W.length with h' | h'
  · exact h'
  · rw [ws_nil (by omega)] at h; cases h
theorem upk_ws {S : Sr} {k : Int} (hk : S.k ≤ S.W.length) (h : hdK k S.ws = true) : S.up.ws = S.ws.tail := by rw [ws_cons (hdk_lt hk h)]; rfl
theorem pc_new2 (w : World) (x : Pc) : ∃ W1, w.alloc (.cells #[.int .u8 x.1, .string (strB x.2.1), .int .u32 x.2.2] 63) = W1 ∧ HasB W1 w.heap.size 63 [.int .u8 x.1, .string (strB x.2.1), .int .u32 x.2.2] ∧ Below w.heap.size w W1 :=
  ⟨_, rfl, HasB.new w _ _, bel_al (Below.refl _ _) _⟩
set_option maxHeartbeats 4000000 in
theorem kind_any {B g : Nat} {w : World} {S : Sr} (h : RdAt B g w S) (k : Int) (hk : k ≠ 0) : Calls Tryz.prog 54 #[.pointer (some ⟨g, 0, none⟩), .int .u8 k] w fun e w' =>
    if hdK k S.ws = true then e = .returned (aggP (S.ws.headD pc0)) ∧ RdAt B g w' S.up ∧ Stp g S S.up w w' else e = pan S.k ∧ Ofr g S.nv.ownBlock w w' := by
  obtain ⟨W1, e1, N1, B1⟩ := pc_new w
  have R1 := h.ofr B1
  have CN := Lib.hid (nx_any R1)
  have S1 := Lib.hid (Stp.of (g := g) (S := S) B1)
  have hd := hdk_is hk S.ws
  have hlt := Lib.hid (hdk_lt (k := k) h.le)
  have hf := few_of h
  have hB0 := Lib.hid h.hB
  have N1 := Lib.hid N1
  have B1 := Lib.hid B1
  have R1 := Lib.hid R1
  clear h hk
  have hw0 : Hid (w.heap.size < W1.heap.size) := Lib.hid N1.out.lt
  generalize S.ws.headD pc0 = pc at *
  cases hb : hdK k S.ws <;> rw [hb] at hd <;> simp only [Bool.false_eq_true, if_false, if_true] <;> simp only [decide_eq_true_eq, decide_eq_false_iff_not] at hd
  · go_enter Tryz.func54, Tryz.ntmps54
    go_wp2_with fail
    refine (CN.out).mono ?_; rintro e w1 ⟨rfl, b1⟩
    obtain ⟨W2, e2, N2, B2⟩ := pc_new2 w1 pc
    have R2 := (R1.out.ofr b1).ofr B2
    have c1 := R2.c1
    have n0 := N2.cell 0
    simp only [List.getElem?_cons_zero] at n0
    have S2 := Lib.hid ((S1.out.trans (Stp.of b1)).trans (Stp.of (g := g) (S := S) B2))
    unfold aggP
    clear N2 R2 b1 CN R1 S1 B2
    go_wp2
    exact ⟨rfl, rfl, S2.out.fr0⟩
  · have hlt2 := hlt.out hb
    subst hd
    clear hlt
    go_enter Tryz.func54, Tryz.ntmps54
    go_wp2_with fail
    refine (CN.out).mono ?_; rintro e w1 ⟨rfl, b1⟩
    obtain ⟨W2, e2, N2, B2⟩ := pc_new2 w1 pc
    have R2 := (R1.out.ofr b1).ofr B2
    have c1 := R2.c1
    have n0 := N2.cell 0
    simp only [List.getElem?_cons_zero, List.getElem?_cons_succ] at n0
    have f1 := R2.cells.frozen 1
    have gl := R2.cells.lt
    obtain ⟨R3, S3⟩ := up_at R2 hlt2 _ rfl
    have S4 := Lib.hid (((S1.out.trans (Stp.of b1)).trans (Stp.of (g := g) (S := S) B2)).trans S3)
    have gs : g < w.heap.size := by have := R1.out.hg; have := hB0.out; omega
    have M3 := ((N1.out.below b1).below B2)
    have nn : g ≠ w1.heap.size := by have := hw0.out; have := b1.size; omega
    obtain ⟨W3, e3, R3, S4, M3, N3⟩ : ∃ W3, W2.setCell ⟨g, 1, none⟩ (.int .i64 ((S.k : Int) + 1)) = W3 ∧ Hid (RdAt B g W3 S.up) ∧ Hid (Stp g S S.up w W3) ∧ HasB W3 w.heap.size 63 [.int .u8 0, .string ⟨#[]⟩, .int .u32 0] ∧ HasB W3 w1.heap.size 63 [.int .u8 pc.1, .string (strB pc.2.1), .int .u32 pc.2.2] :=
      ⟨_, rfl, Lib.hid R3, S4, M3.same (by simp only [World.setCell, Array.getElem?_modify]; rw [if_neg (by omega)]), N2.same (by simp only [World.setCell, Array.getElem?_modify]; rw [if_neg nn])⟩
    have n0 := N3.cell 0
    have n1 := N3.cell 1
    have n2 := N3.cell 2
    have m0 := M3.cell 0
    have m1 := M3.cell 1
    have m2 := M3.cell 2
    have p0 := M3.frozen 0
    have p1 := M3.frozen 1
    have p2 := M3.frozen 2
    simp only [List.getElem?_cons_zero, List.getElem?_cons_succ] at n0 n1 n2 m0 m1 m2
    have FIN : Hid (∀ u0 u1 u2, RdAt B g (((W3.setCell ⟨w.heap.size, 0, none⟩ u0).setCell ⟨w.heap.size, 1, none⟩ u1).setCell ⟨w.heap.size, 2, none⟩ u2) S.up ∧ Stp g S S.up w (((W3.setCell ⟨w.heap.size, 0, none⟩ u0).setCell ⟨w.heap.size, 1, none⟩ u1).setCell ⟨w.heap.size, 2, none⟩ u2)) := Lib.hid (fun u0 u1 u2 => by
      have o := (((Ofr.refl w.heap.size none W3).set 0 u0).set 1 u1).set 2 u2
      exact ⟨R3.out.othB o gs M3 (by decide) (by decide) (by decide), S4.out.oth o (Nat.le_refl _)⟩)
    clear M3 N3
    unfold aggP
    go_wp2
    exact bodyPost_ret (v := aggP pc) (by simp [results, Tryz.results54, go_sem, aggP, m0, m1, m2]) rfl ⟨rfl, FIN.out _ _ _⟩
def ndA (x : NdR) (L : Value) : Value := .agg (ndC x L).toArray
def nd1 (k : Int) : NdR := ⟨k, -1, -1, -1, [], 0, []⟩
def ndZ : List Value := [.int .i64 0, .int .i64 0, .int .i64 0, .int .i64 0, .string ⟨#[]⟩, .int .u32 0, .slice none 0 0]
theorem nd_new (w : World) : ∃ W1, w.alloc (.cells #[.int .i64 0, .int .i64 0, .int .i64 0, .int .i64 0, .string ⟨#[]⟩, .int .u32 0, .slice none 0 0] 35) = W1 ∧ HasB W1 w.heap.size 35 ndZ ∧ Below w.heap.size w W1 :=
  ⟨_, rfl, HasB.new w _ _, bel_al (Below.refl _ _) _⟩
theorem set7_bel {w w' : World} {g : Nat} (hg : w.heap.size ≤ g) (b : Below w.heap.size w w') (u0 u1 u2 u3 u4 u5 u6 : Value) : Below w.heap.size w (((((((w'.setCell ⟨g, 0, none⟩ u0).setCell ⟨g, 1, none⟩ u1).setCell ⟨g, 2, none⟩ u2).setCell ⟨g, 3, none⟩ u3).setCell ⟨g, 4, none⟩ u4).setCell ⟨g, 5, none⟩ u5).setCell ⟨g, 6, none⟩ u6) :=
  ((((((b.setCell hg u0).setCell hg u1).setCell hg u2).setCell hg u3).setCell hg u4).setCell hg u5).setCell hg u6
set_option maxHeartbeats 2000000 in
theorem node_any (k : Int) (w : World) : Calls Tryz.prog 56 #[.int .i64 k] w fun e w' => e = .returned (ndA (nd1 k) (.slice none 0 0)) ∧ Below w.heap.size w w' := by
  obtain ⟨W1, e1, N1, B1⟩ := nd_new w
  have n0 := N1.cell 0
  have n1 := N1.cell 1
  have n2 := N1.cell 2
  have n3 := N1.cell 3
  have n4 := N1.cell 4
  have n5 := N1.cell 5
  have n6 := N1.cell 6
  have f0 := N1.frozen 0
  have f1 := N1.frozen 1
  have f2 := N1.frozen 2
  have f3 := N1.frozen 3
  have f4 := N1.frozen 4
  have f5 := N1.frozen 5
  have f6 := N1.frozen 6
  simp only [ndZ, List.getElem?_cons_zero, List.getElem?_cons_succ] at n0 n1 n2 n3 n4 n5 n6
  have B1 := Lib.hid B1
  clear N1
  go_enter Tryz.func56, Tryz.ntmps56
  go_wp2_with fail
  exact bodyPost_ret (v := ndA (nd1 k) (.slice none 0 0)) (by simp [results, Tryz.results56, go_sem, ndA, ndC, nd1, strB, n0, n1, n2, n3, n4, n5, n6]) rfl ⟨rfl, set7_bel (Nat.le_refl _) B1.out _ _ _ _ _ _ _⟩

def Sr.app (S : Sr) (x : NdR) (L : Value) (nv : Value) : Sr := { S with N := S.N ++ [(x, L)], nv := nv }
theorem ndC_one (x : NdR) (L : Value) (h : L.oneCell' = true) : ∀ u ∈ ndC x L, u.oneCell' = true := by
  intro u hu
  simp only [ndC, List.mem_cons, List.not_mem_nil, or_false] at hu
  rcases hu with rfl | rfl | rfl | rfl | rfl | rfl | rfl <;> first | exact h | rfl
theorem cellsN {w : World} {g : Nat} {cs : List Value} {t : TypeId} (h : HasB w g t cs) : ∀ j u, cs[j]? = some u → w.cell? ((⟨g, 0, none⟩ : Addr).add j) = some u := by
  intro j u hj
  rw [addr0P, h.cell j]; exact hj
/-- a node is appended to the reader's -/
theorem app_nd {B g : Nat} {w : World} {S : Sr} {o : Oper} {a : Act} {K : Act → World → Prop} {Q : Exit → Act → World → Prop} (s x : Operand)
    (ho : o.op = .call { callee := .builtin .append, args := #[s, x], argTypes := #[24, 24] })
    (R : RdAt B g w S) (hs : a.eval s = S.nv) (y : NdR) (L : Value) (hL : LsAt w B (y, L)) (q : Nat) (hx : a.eval x = .slice (some ⟨q, 0, none⟩) 1 1) (hq : HasB w q 35 (ndC y L)) (hn : S.N.length < 5000) 
    (h : ∀ v' w', RdAt B g (w'.setCell ⟨g, 3, none⟩ v') (S.app y L v') → Ofr g S.nv.ownBlock w (w'.setCell ⟨g, 3, none⟩ v') → Nw w S.nv.ownBlock v'.ownBlock → w.grownBy w' S.nv.ownBlock → w'.cell? ⟨g, 3, none⟩ = some S.nv → w'.frozen? ⟨g, 3, none⟩ = false → (∃ A cap, v' = .slice A (S.N.length + 1) cap) → K (a.put o.dst v') w') : o.wp Tryz.prog a w K Q := by
  obtain ⟨u0, hu0, hz0, hz1, hz2⟩ := info_parts nd_info
  have h1 : L.oneCell' = true := by
    rcases hL.2 with ⟨e, _⟩ | ⟨b, cap, cur, e, _⟩ <;> (simp only at e; rw [e]; rfl)
  obtain ⟨v', w', hrun, r1, r2, _, r4⟩ := run_append_own_at (P := Tryz.prog) w B 24 o.type 35 u0 _ 7 80 Tryz.underlying24 hu0 hz0 hz1 hz2 rfl (by decide) S.nv S.N.length _ R.nodes ⟨q, 0, none⟩ 1 1 (ndC y L) rfl
    (cellsN hq) (ndC_one y L h1) (by unfold maxLen; omega) (by omega) R.hB
  unfold Oper.wp
  simp [execOp, ho, resolve, invoke, builtin, hs, hx, hrun, Result.andThen]
  have gne : some g ≠ S.nv.ownBlock := own_neB R.nodes R.cells (by decide)
  have gh : HasB w' g 43 S.cs := R.cells.grown r2 gne
  have nw : Nw w S.nv.ownBlock v'.ownBlock := r4.imp id (fun e => ⟨_, e, Nat.le_refl _⟩)
  have fr : Ofr g S.nv.ownBlock w w' := ⟨r2.os, r2.tape, r2.output, r2.size, fun k hk _ h2 => r2.block k hk h2⟩
  have fr2 := fr.set 3 v'
  refine h v' w' ⟨R.hg, Nat.le_trans R.hB fr2.size, has_set gh 3 v', ?_, R.few, R.le, ?_, R.dfew, ?_, ?_, R.deepS, by show (S.N ++ [(y, L)]).length ≤ 5000; simp; omega, R.sg.below (fr2.below (B := g) (Below.refl g w) (by have := R.cells.lt; omega) (Nat.le_refl _) (fun k hk => by have := (R.nodes.lt k hk).1; have := R.hg; omega)) R.sgl, R.sgl⟩ fr2 nw r2 (gh.cell 3) (gh.frozen 3) ?_
  · obtain ⟨A, cap, w0, h1, h2, h3, h4⟩ := R.words
    refine ⟨A, cap, w0, h1, h2, h3, fr2.below h4 (by have := R.hB; have := R.hg; omega) h3 (fun k hk => ?_)⟩
    have := (R.nodes.lt k hk).1
    have := R.hg
    omega
  · exact own_ofr R.decls fr2 R.hg (own_ne R.decls R.nodes (by decide))
  · have hg := R.hg
    have r1' : w'.ownsRow B 35 7 v' (S.N ++ [(y, L)]).length ((S.N ++ [(y, L)]).flatMap ndP) := by
      rw [List.flatMap_append, List.length_append]
      simpa [ndP] using r1
    exact own_ofr r1' ((Ofr.refl g none w').set 3 v') R.hg (Classical.em _)
  · intro p hp
    rcases List.mem_append.1 hp with hp | hp
    · exact own_ofr (R.lists p hp) fr2 R.hg (own_ne (R.lists p hp) R.nodes (by decide))
    · rw [List.mem_singleton] at hp
      subst hp
      exact own_ofr hL fr2 R.hg (own_ne hL R.nodes (by decide))
  · rcases r1.2 with ⟨_, hz⟩ | ⟨b, cap, cur, rfl, _⟩
    · omega
    · exact ⟨_, cap, rfl⟩
theorem HasB.drewH {w : World} {g : Nat} {t : TypeId} {cs : List Value} (h : HasB w g t cs) : HasB w.drew g t cs := h
def AddP (B g : Nat) (S : Sr) (w : World) (x : NdR) (L : Value) (e : Ending) (w' : World) : Prop :=
  ∃ nv, e = .returned (.int .i64 S.N.length) ∧ RdAt B g w' (S.app x L nv) ∧ Stp g S (S.app x L nv) w w'
set_option maxHeartbeats 4000000 in
theorem add_any {B g : Nat} {w : World} {S : Sr} (h : RdAt B g w S) (x : NdR) (L : Value) (hL : LsAt w B (x, L)) (hn : S.N.length < 5000) : Calls Tryz.prog 59 #[.pointer (some ⟨g, 0, none⟩), ndA x L] w (AddP B g S w x L) := by
  obtain ⟨xk, xa, xb, xc, xt, xv, xl⟩ := x
  have b1 := bel_al (Below.refl _ w) (.cells #[.int .i64 xk, .int .i64 xa, .int .i64 xb, .int .i64 xc, .string (strB xt), .int .u32 xv, L] 35)
  have B1' := HasB.new w 35 [.int .i64 xk, .int .i64 xa, .int .i64 xb, .int .i64 xc, .string (strB xt), .int .u32 xv, L]
  obtain ⟨W1, e1, B1, R1, hs1, b1⟩ : ∃ W1, w.alloc (.cells #[.int .i64 xk, .int .i64 xa, .int .i64 xb, .int .i64 xc, .string (strB xt), .int .u32 xv, L] 35) = W1 ∧ Hid (HasB W1 w.heap.size 35 [.int .i64 xk, .int .i64 xa, .int .i64 xb, .int .i64 xc, .string (strB xt), .int .u32 xv, L]) ∧ Hid (RdAt B g W1 S) ∧ W1.heap.size = w.heap.size + 1 ∧ Hid (Below w.heap.size w W1) :=
    ⟨_, rfl, Lib.hid B1', Lib.hid (h.ofr b1), by simp, Lib.hid b1⟩
  have b2 := bel_al (below_drewP (Below.refl _ W1)) (.cells #[.int .i64 xk, .int .i64 xa, .int .i64 xb, .int .i64 xc, .string (strB xt), .int .u32 xv, L] 35)
  have Q2' := HasB.new W1.drew 35 [.int .i64 xk, .int .i64 xa, .int .i64 xb, .int .i64 xc, .string (strB xt), .int .u32 xv, L]
  have hd1 : W1.drew.heap.size = w.heap.size + 1 := hs1
  obtain ⟨W2, e2, H2, R2, Q2, b2⟩ : ∃ W2, W1.drew.alloc (.cells #[.int .i64 xk, .int .i64 xa, .int .i64 xb, .int .i64 xc, .string (strB xt), .int .u32 xv, L] 35) = W2 ∧ Hid (HasB W2 w.heap.size 35 [.int .i64 xk, .int .i64 xa, .int .i64 xb, .int .i64 xc, .string (strB xt), .int .u32 xv, L]) ∧ Hid (RdAt B g W2 S) ∧ Hid (HasB W2 W1.heap.size 35 [.int .i64 xk, .int .i64 xa, .int .i64 xb, .int .i64 xc, .string (strB xt), .int .u32 xv, L]) ∧ Hid (Below w.heap.size w W2) :=
    ⟨_, rfl, Lib.hid (B1.out.below b2), Lib.hid (R1.out.ofr b2), Lib.hid Q2', Lib.hid (bel_then b1.out b2)⟩
  have LA := Lib.hid (show LsAt W2 B (⟨xk, xa, xb, xc, xt, xv, xl⟩, L) from own_belowP hL b2.out)
  have c3 := R1.out.c3
  have d3 := R2.out.c3
  have n0 := B1.out.cell 0
  have n1 := B1.out.cell 1
  have n2 := B1.out.cell 2
  have n3 := B1.out.cell 3
  have n4 := B1.out.cell 4
  have n5 := B1.out.cell 5
  have n6 := B1.out.cell 6
  simp only [List.getElem?_cons_zero, List.getElem?_cons_succ] at n0 n1 n2 n3 n4 n5 n6
  have KS : Hid (∀ w', HasB w' w.heap.size 35 [.int .i64 xk, .int .i64 xa, .int .i64 xb, .int .i64 xc, .string (strB xt), .int .u32 xv, L] → (fun w' => w'.cell? ⟨w.heap.size, 0, none⟩ = some (.int .i64 xk) ∧ w'.cell? ⟨w.heap.size, 1, none⟩ = some (.int .i64 xa) ∧ w'.cell? ⟨w.heap.size, 2, none⟩ = some (.int .i64 xb) ∧ w'.cell? ⟨w.heap.size, 3, none⟩ = some (.int .i64 xc) ∧ w'.cell? ⟨w.heap.size, 4, none⟩ = some (.string (strB xt)) ∧ w'.cell? ⟨w.heap.size, 5, none⟩ = some (.int .u32 xv) ∧ w'.cell? ⟨w.heap.size, 6, none⟩ = some L) w') := Lib.hid (fun w' H => ⟨H.cell 0, H.cell 1, H.cell 2, H.cell 3, H.cell 4, H.cell 5, H.cell 6⟩)
  have LNE : Hid (some w.heap.size ≠ S.nv.ownBlock) := Lib.hid (fun e => by have := (h.nodes.lt _ e.symm).2; omega)
  have GNE : Hid (¬ g = w.heap.size) := Lib.hid (by have := h.hg; have := h.hB; omega)
  have FIN : Hid (∀ (nv : Value) w', RdAt B g w' (S.app ⟨xk, xa, xb, xc, xt, xv, xl⟩ L nv) → Ofr g S.nv.ownBlock W2 w' → Nw W2 S.nv.ownBlock nv.ownBlock → RdAt B g w' (S.app ⟨xk, xa, xb, xc, xt, xv, xl⟩ L nv) ∧ Stp g S (S.app ⟨xk, xa, xb, xc, xt, xv, xl⟩ L nv) w w') := Lib.hid (fun nv w' r o n =>
    ⟨r, rfl, rfl, rfl, rfl, rfl, n.imp id (fun ⟨b, e, hb⟩ => ⟨b, e, Nat.le_trans b2.out.size hb⟩), (Ofr.of b2.out).trans o (.refl _ _)⟩)
  obtain ⟨An, capn, hnv⟩ : ∃ A cap, S.nv = .slice A S.N.length cap := by
    rcases h.nodes.2 with ⟨e, e2⟩ | ⟨b, cap, cur, e, _⟩
    · exact ⟨none, 0, by rw [e, e2]⟩
    · exact ⟨_, cap, e⟩
  have oneL : L.oneCell' = true := by
    rcases hL.2 with ⟨e, _⟩ | ⟨b, cap, cur, e, _⟩ <;> (simp only at e; rw [e]; rfl)
  clear h B1' Q2' hL hd1 hs1 b1 b2
  unfold ndA ndC AddP
  simp only
  go_enter Tryz.func59, Tryz.ntmps59
  go_wp2_with fail
  refine wp_region_noPanic ?_
  refine wp_region_held_drew (S := (fun w' => w'.cell? ⟨w.heap.size, 0, none⟩ = some (.int .i64 xk) ∧ w'.cell? ⟨w.heap.size, 1, none⟩ = some (.int .i64 xa) ∧ w'.cell? ⟨w.heap.size, 2, none⟩ = some (.int .i64 xb) ∧ w'.cell? ⟨w.heap.size, 3, none⟩ = some (.int .i64 xc) ∧ w'.cell? ⟨w.heap.size, 4, none⟩ = some (.string (strB xt)) ∧ w'.cell? ⟨w.heap.size, 5, none⟩ = some (.int .u32 xv) ∧ w'.cell? ⟨w.heap.size, 6, none⟩ = some L)) (by kernel_rfl) ?_ (fun hHeld => ?_)
  · (try dsimp only)
    exact KS.out _ B1.out.drewH
  refine wpAnyH_take (i := 0) (oi := { dst := some 5, op := Op.move (Operand.tmp 0), type := 41, pos := "read.go:274", after := #[], guard := none }) (v := ?_) rfl (by kernel_rfl) (by kernel_rfl) (by kernel_rfl) (fun _ _ _ h => h) (Or.inl ⟨by rfl, ?_⟩) (by assumption) ?_
  rotate_left
  · intro w hSw; (try dsimp only at hSw); go_simp <;> (with_reducible rfl)
  (try simp only [Act.put, List.setIfInBounds_toArray, List.set_cons_zero, List.set_cons_succ])
  refine wpAnyH_take (i := 1) (oi := { dst := some 6, op := Op.move (Operand.tmp 0), type := 41, pos := "read.go:274", after := #[], guard := none }) (v := ?_) rfl (by kernel_rfl) (by kernel_rfl) (by kernel_rfl) (fun _ _ _ h => h) (Or.inl ⟨by rfl, ?_⟩) (by assumption) ?_
  rotate_left
  · intro w hSw; (try dsimp only at hSw); go_simp <;> (with_reducible rfl)
  (try simp only [Act.put, List.setIfInBounds_toArray, List.set_cons_zero, List.set_cons_succ])
  refine wpAnyH_take (i := 2) (oi := { dst := some 7, op := Op.nilCheck (Operand.tmp 6), type := 0, pos := "read.go:274", after := #[{ on := 1, ground := Ground.data }], guard := none }) (v := ?_) rfl (by kernel_rfl) (by kernel_rfl) (by kernel_rfl) (fun _ _ _ h => h) (Or.inl ⟨by rfl, ?_⟩) (by assumption) ?_
  rotate_left
  · intro w hSw; (try dsimp only at hSw); go_simp <;> (with_reducible rfl)
  (try simp only [Act.put, List.setIfInBounds_toArray, List.set_cons_zero, List.set_cons_succ])
  refine wpAnyH_take (i := 3) (oi := { dst := some 8, op := Op.fieldAddr 43 (Operand.tmp 7) 2, type := 0, pos := "read.go:274", after := #[{ on := 2, ground := Ground.data }], guard := none }) (v := ?_) rfl (by kernel_rfl) (by kernel_rfl) (by kernel_rfl) (fun _ _ _ h => h) (Or.inl ⟨by rfl, ?_⟩) (by assumption) ?_
  rotate_left
  · intro w hSw; (try dsimp only at hSw); go_simp <;> (with_reducible rfl)
  (try simp only [Act.put, List.setIfInBounds_toArray, List.set_cons_zero, List.set_cons_succ])
  refine wpAnyH_take (i := 4) (oi := { dst := some 9, op := Op.fieldAddr 26 (Operand.tmp 8) 1, type := 0, pos := "read.go:274", after := #[{ on := 3, ground := Ground.data }], guard := none }) (v := ?_) rfl (by kernel_rfl) (by kernel_rfl) (by kernel_rfl) (fun _ _ _ h => h) (Or.inl ⟨by rfl, ?_⟩) (by assumption) ?_
  rotate_left
  · intro w hSw; (try dsimp only at hSw); go_simp <;> (with_reducible rfl)
  (try simp only [Act.put, List.setIfInBounds_toArray, List.set_cons_zero, List.set_cons_succ])
  refine wpAnyH_take (i := 6) (oi := { dst := some 11, op := Op.load 35 (Operand.tmp 3), type := 35, pos := "read.go:274", after := #[], guard := none }) (v := ?_) rfl (by kernel_rfl) (by kernel_rfl) (by kernel_rfl) (fun _ _ _ h => h) (Or.inl ⟨by rfl, ?_⟩) (by assumption) ?_
  rotate_left
  · intro w hSw; (try dsimp only at hSw); go_simp <;> (with_reducible rfl)
  (try simp only [Act.put, List.setIfInBounds_toArray, List.set_cons_zero, List.set_cons_succ])
  refine wpAnyH_ready (rs := [5, 7]) (by kernel_rfl) (by simp) ?_
  refine AllReadyH.cons (o := { dst := some 10, op := Op.load 24 (Operand.tmp 9), type := 24, pos := "read.go:274", after := #[{ on := 4, ground := Ground.data }], guard := none }) rfl (fun K hK => ?_) ?_
  · go_simp
    refine hK.out _ _ ?_ (fun hHeld => ?_)
    · (try dsimp only)
      first | exact KS.out _ B1.out.drewH | exact KS.out _ H2.out
    clear hK K
    (try simp only [Act.put, List.setIfInBounds_toArray, List.set_cons_zero, List.set_cons_succ])
    refine wpAnyH_ready (rs := [7]) (by kernel_rfl) (by simp) ?_
    refine AllReadyH.cons (o := { dst := some 12, op := Op.buildSlice 24 1 #[(0, Operand.tmp 11)], type := 24, pos := "read.go:274", after := #[{ on := 6, ground := Ground.data }], guard := none }) rfl (fun K hK => ?_) ?_
    · go_simp
      refine hK.out _ _ ?_ (fun hHeld => ?_)
      · (try dsimp only)
        exact KS.out _ H2.out
      clear hK K
      (try simp only [Act.put, List.setIfInBounds_toArray, List.set_cons_zero, List.set_cons_succ])
      refine wpAnyH_ready (rs := [8]) (by kernel_rfl) (by simp) ?_
      refine AllReadyH.cons (o := { dst := some 13, op := Op.call { callee := Callee.builtin Builtin.append, args := #[Operand.tmp 10, Operand.tmp 12], argTypes := #[24, 24] }, type := 24, pos := "read.go:274", after := #[{ on := 5, ground := Ground.data }, { on := 7, ground := Ground.data }], guard := none }) rfl (fun K hK => ?_) ?_
      · refine app_nd (.tmp 10) (.tmp 12) rfl R2.out (by rw [hnv]; rfl) ⟨xk, xa, xb, xc, xt, xv, xl⟩ L LA.out W1.heap.size rfl Q2.out hn ?_
        intro v' w3 r3 o3 n3 g3 c3 f3 hv3
        obtain ⟨A9, cap9, rfl⟩ := hv3
        have HB3 : HasB w3 w.heap.size 35 [.int .i64 xk, .int .i64 xa, .int .i64 xb, .int .i64 xc, .string (strB xt), .int .u32 xv, L] := H2.out.grown g3 LNE.out
        have HB4 : HasB (w3.setCell ⟨g, 3, none⟩ (.slice A9 (S.N.length + 1) cap9)) w.heap.size 35 [.int .i64 xk, .int .i64 xa, .int .i64 xb, .int .i64 xc, .string (strB xt), .int .u32 xv, L] := HB3.same (by simp only [World.setCell, Array.getElem?_modify]; rw [if_neg GNE.out])
        refine hK.out _ _ ?_ (fun hHeld => ?_)
        · (try dsimp only)
          exact KS.out _ HB3
        clear hK K
        (try simp only [Act.put, List.setIfInBounds_toArray, List.set_cons_zero, List.set_cons_succ])
        refine wpAnyH_take (i := 9) (oi := { dst := some 14, op := Op.nilCheck (Operand.tmp 5), type := 0, pos := "read.go:274", after := #[{ on := 0, ground := Ground.data }, { on := 0, ground := Ground.phase }, { on := 1, ground := Ground.phase }, { on := 2, ground := Ground.phase }, { on := 3, ground := Ground.phase }, { on := 4, ground := Ground.phase }, { on := 5, ground := Ground.phase }, { on := 6, ground := Ground.phase }, { on := 7, ground := Ground.phase }, { on := 8, ground := Ground.phase }], guard := none }) (v := ?_) rfl (by kernel_rfl) (by kernel_rfl) (by kernel_rfl) (fun _ _ _ h => h) (Or.inl ⟨by rfl, ?_⟩) (by assumption) ?_
        rotate_left
        · intro w hSw; (try dsimp only at hSw); go_simp <;> (with_reducible rfl)
        (try simp only [Act.put, List.setIfInBounds_toArray, List.set_cons_zero, List.set_cons_succ])
        refine wpAnyH_take (i := 10) (oi := { dst := some 15, op := Op.fieldAddr 43 (Operand.tmp 14) 2, type := 0, pos := "read.go:274", after := #[{ on := 9, ground := Ground.data }, { on := 0, ground := Ground.phase }, { on := 1, ground := Ground.phase }, { on := 2, ground := Ground.phase }, { on := 3, ground := Ground.phase }, { on := 4, ground := Ground.phase }, { on := 5, ground := Ground.phase }, { on := 6, ground := Ground.phase }, { on := 7, ground := Ground.phase }, { on := 8, ground := Ground.phase }], guard := none }) (v := ?_) rfl (by kernel_rfl) (by kernel_rfl) (by kernel_rfl) (fun _ _ _ h => h) (Or.inl ⟨by rfl, ?_⟩) (by assumption) ?_
        rotate_left
        · intro w hSw; (try dsimp only at hSw); go_simp <;> (with_reducible rfl)
        (try simp only [Act.put, List.setIfInBounds_toArray, List.set_cons_zero, List.set_cons_succ])
        refine wpAnyH_take (i := 11) (oi := { dst := some 16, op := Op.fieldAddr 26 (Operand.tmp 15) 1, type := 0, pos := "read.go:274", after := #[{ on := 10, ground := Ground.data }, { on := 0, ground := Ground.phase }, { on := 1, ground := Ground.phase }, { on := 2, ground := Ground.phase }, { on := 3, ground := Ground.phase }, { on := 4, ground := Ground.phase }, { on := 5, ground := Ground.phase }, { on := 6, ground := Ground.phase }, { on := 7, ground := Ground.phase }, { on := 8, ground := Ground.phase }], guard := none }) (v := ?_) rfl (by kernel_rfl) (by kernel_rfl) (by kernel_rfl) (fun _ _ _ h => h) (Or.inl ⟨by rfl, ?_⟩) (by assumption) ?_
        rotate_left
        · intro w hSw; (try dsimp only at hSw); go_simp <;> (with_reducible rfl)
        (try simp only [Act.put, List.setIfInBounds_toArray, List.set_cons_zero, List.set_cons_succ])
        refine wpAnyH_ready (rs := [12]) (by kernel_rfl) (by simp) ?_
        refine AllReadyH.cons (o := { dst := none, op := Op.store 24 (Operand.tmp 16) (Operand.tmp 13), type := 0, pos := "read.go:274", after := #[{ on := 11, ground := Ground.data }, { on := 8, ground := Ground.data }, { on := 8, ground := Ground.chain }, { on := 0, ground := Ground.phase }, { on := 1, ground := Ground.phase }, { on := 2, ground := Ground.phase }, { on := 3, ground := Ground.phase }, { on := 4, ground := Ground.phase }, { on := 5, ground := Ground.phase }, { on := 6, ground := Ground.phase }, { on := 7, ground := Ground.phase }, { on := 8, ground := Ground.phase }], guard := none }) rfl (fun K hK => ?_) ?_
        · go_simp
          refine hK.out _ _ ?_ (fun hHeld => ?_)
          · (try dsimp only)
            exact KS.out _ HB4
          clear hK K
          (try simp only [Act.put, List.setIfInBounds_toArray, List.set_cons_zero, List.set_cons_succ])
          refine wpAnyH_done (by kernel_rfl) ?_ _
          refine NoPanic.normal ?_
          have c4 : (w3.setCell ⟨g, 3, none⟩ (.slice A9 (S.N.length + 1) cap9)).cell? ⟨g, 3, none⟩ = some (.slice A9 (S.N.length + 1) cap9) := r3.c3
          have FN := Lib.hid (FIN.out _ _ r3 o3 n3)
          generalize w3.setCell ⟨g, 3, none⟩ (.slice A9 (S.N.length + 1) cap9) = w4 at *
          clear hHeld HB3 HB4 r3 o3 n3 g3 c3 f3
          go_wp2
          go_ret
          exact ⟨_, ret_int (by first | rfl | (rw [IntWalk.i64_in _ (by omega)]; omega) | (unfold wrap64; omega) | omega), FN.out⟩
        exact AllReadyH.nil
      exact AllReadyH.nil
    exact AllReadyH.nil
  refine AllReadyH.cons (o := { dst := some 12, op := Op.buildSlice 24 1 #[(0, Operand.tmp 11)], type := 24, pos := "read.go:274", after := #[{ on := 6, ground := Ground.data }], guard := none }) rfl (fun K hK => ?_) ?_
  · go_simp
    refine hK.out _ _ ?_ (fun hHeld => ?_)
    · (try dsimp only)
      exact KS.out _ H2.out
    clear hK K
    (try simp only [Act.put, List.setIfInBounds_toArray, List.set_cons_zero, List.set_cons_succ])
    refine wpAnyH_ready (rs := [5]) (by kernel_rfl) (by simp) ?_
    refine AllReadyH.cons (o := { dst := some 10, op := Op.load 24 (Operand.tmp 9), type := 24, pos := "read.go:274", after := #[{ on := 4, ground := Ground.data }], guard := none }) rfl (fun K hK => ?_) ?_
    · go_simp
      refine hK.out _ _ ?_ (fun hHeld => ?_)
      · (try dsimp only)
        first | exact KS.out _ B1.out.drewH | exact KS.out _ H2.out
      clear hK K
      (try simp only [Act.put, List.setIfInBounds_toArray, List.set_cons_zero, List.set_cons_succ])
      refine wpAnyH_ready (rs := [8]) (by kernel_rfl) (by simp) ?_
      refine AllReadyH.cons (o := { dst := some 13, op := Op.call { callee := Callee.builtin Builtin.append, args := #[Operand.tmp 10, Operand.tmp 12], argTypes := #[24, 24] }, type := 24, pos := "read.go:274", after := #[{ on := 5, ground := Ground.data }, { on := 7, ground := Ground.data }], guard := none }) rfl (fun K hK => ?_) ?_
      · refine app_nd (.tmp 10) (.tmp 12) rfl R2.out (by rw [hnv]; rfl) ⟨xk, xa, xb, xc, xt, xv, xl⟩ L LA.out W1.heap.size rfl Q2.out hn ?_
        intro v' w3 r3 o3 n3 g3 c3 f3 hv3
        obtain ⟨A9, cap9, rfl⟩ := hv3
        have HB3 : HasB w3 w.heap.size 35 [.int .i64 xk, .int .i64 xa, .int .i64 xb, .int .i64 xc, .string (strB xt), .int .u32 xv, L] := H2.out.grown g3 LNE.out
        have HB4 : HasB (w3.setCell ⟨g, 3, none⟩ (.slice A9 (S.N.length + 1) cap9)) w.heap.size 35 [.int .i64 xk, .int .i64 xa, .int .i64 xb, .int .i64 xc, .string (strB xt), .int .u32 xv, L] := HB3.same (by simp only [World.setCell, Array.getElem?_modify]; rw [if_neg GNE.out])
        refine hK.out _ _ ?_ (fun hHeld => ?_)
        · (try dsimp only)
          exact KS.out _ HB3
        clear hK K
        (try simp only [Act.put, List.setIfInBounds_toArray, List.set_cons_zero, List.set_cons_succ])
        refine wpAnyH_take (i := 9) (oi := { dst := some 14, op := Op.nilCheck (Operand.tmp 5), type := 0, pos := "read.go:274", after := #[{ on := 0, ground := Ground.data }, { on := 0, ground := Ground.phase }, { on := 1, ground := Ground.phase }, { on := 2, ground := Ground.phase }, { on := 3, ground := Ground.phase }, { on := 4, ground := Ground.phase }, { on := 5, ground := Ground.phase }, { on := 6, ground := Ground.phase }, { on := 7, ground := Ground.phase }, { on := 8, ground := Ground.phase }], guard := none }) (v := ?_) rfl (by kernel_rfl) (by kernel_rfl) (by kernel_rfl) (fun _ _ _ h => h) (Or.inl ⟨by rfl, ?_⟩) (by assumption) ?_
        rotate_left
        · intro w hSw; (try dsimp only at hSw); go_simp <;> (with_reducible rfl)
        (try simp only [Act.put, List.setIfInBounds_toArray, List.set_cons_zero, List.set_cons_succ])
        refine wpAnyH_take (i := 10) (oi := { dst := some 15, op := Op.fieldAddr 43 (Operand.tmp 14) 2, type := 0, pos := "read.go:274", after := #[{ on := 9, ground := Ground.data }, { on := 0, ground := Ground.phase }, { on := 1, ground := Ground.phase }, { on := 2, ground := Ground.phase }, { on := 3, ground := Ground.phase }, { on := 4, ground := Ground.phase }, { on := 5, ground := Ground.phase }, { on := 6, ground := Ground.phase }, { on := 7, ground := Ground.phase }, { on := 8, ground := Ground.phase }], guard := none }) (v := ?_) rfl (by kernel_rfl) (by kernel_rfl) (by kernel_rfl) (fun _ _ _ h => h) (Or.inl ⟨by rfl, ?_⟩) (by assumption) ?_
        rotate_left
        · intro w hSw; (try dsimp only at hSw); go_simp <;> (with_reducible rfl)
        (try simp only [Act.put, List.setIfInBounds_toArray, List.set_cons_zero, List.set_cons_succ])
        refine wpAnyH_take (i := 11) (oi := { dst := some 16, op := Op.fieldAddr 26 (Operand.tmp 15) 1, type := 0, pos := "read.go:274", after := #[{ on := 10, ground := Ground.data }, { on := 0, ground := Ground.phase }, { on := 1, ground := Ground.phase }, { on := 2, ground := Ground.phase }, { on := 3, ground := Ground.phase }, { on := 4, ground := Ground.phase }, { on := 5, ground := Ground.phase }, { on := 6, ground := Ground.phase }, { on := 7, ground := Ground.phase }, { on := 8, ground := Ground.phase }], guard := none }) (v := ?_) rfl (by kernel_rfl) (by kernel_rfl) (by kernel_rfl) (fun _ _ _ h => h) (Or.inl ⟨by rfl, ?_⟩) (by assumption) ?_
        rotate_left
        · intro w hSw; (try dsimp only at hSw); go_simp <;> (with_reducible rfl)
        (try simp only [Act.put, List.setIfInBounds_toArray, List.set_cons_zero, List.set_cons_succ])
        refine wpAnyH_ready (rs := [12]) (by kernel_rfl) (by simp) ?_
        refine AllReadyH.cons (o := { dst := none, op := Op.store 24 (Operand.tmp 16) (Operand.tmp 13), type := 0, pos := "read.go:274", after := #[{ on := 11, ground := Ground.data }, { on := 8, ground := Ground.data }, { on := 8, ground := Ground.chain }, { on := 0, ground := Ground.phase }, { on := 1, ground := Ground.phase }, { on := 2, ground := Ground.phase }, { on := 3, ground := Ground.phase }, { on := 4, ground := Ground.phase }, { on := 5, ground := Ground.phase }, { on := 6, ground := Ground.phase }, { on := 7, ground := Ground.phase }, { on := 8, ground := Ground.phase }], guard := none }) rfl (fun K hK => ?_) ?_
        · go_simp
          refine hK.out _ _ ?_ (fun hHeld => ?_)
          · (try dsimp only)
            exact KS.out _ HB4
          clear hK K
          (try simp only [Act.put, List.setIfInBounds_toArray, List.set_cons_zero, List.set_cons_succ])
          refine wpAnyH_done (by kernel_rfl) ?_ _
          refine NoPanic.normal ?_
          have c4 : (w3.setCell ⟨g, 3, none⟩ (.slice A9 (S.N.length + 1) cap9)).cell? ⟨g, 3, none⟩ = some (.slice A9 (S.N.length + 1) cap9) := r3.c3
          have FN := Lib.hid (FIN.out _ _ r3 o3 n3)
          generalize w3.setCell ⟨g, 3, none⟩ (.slice A9 (S.N.length + 1) cap9) = w4 at *
          clear hHeld HB3 HB4 r3 o3 n3 g3 c3 f3
          go_wp2
          go_ret
          exact ⟨_, ret_int (by first | rfl | (rw [IntWalk.i64_in _ (by omega)]; omega) | (unfold wrap64; omega) | omega), FN.out⟩
        exact AllReadyH.nil
      exact AllReadyH.nil
    exact AllReadyH.nil
  exact AllReadyH.nil
/-- the reader as it is, with a node of its own in a block of its own -/
structure Loc (B g : Nat) (S0 : Sr) (w0 : World) (S : Sr) (w : World) (j : Nat) (cs : List Value) : Prop where
  r : RdAt B g w S
  s : Stp g S0 S w0 w
  h : HasB w j 35 cs
  n : some j ≠ S.nv.ownBlock
  l : w0.heap.size ≤ j
  b : B ≤ w0.heap.size
theorem Loc.gj {B g : Nat} {S0 S : Sr} {w0 w : World} {j : Nat} {cs : List Value} (x : Loc B g S0 w0 S w j cs) : g < j := by have := x.r.hg; have := x.b; have := x.l; omega
theorem Loc.mk' {B g : Nat} {S0 S : Sr} {w0 w w' : World} (x : RdAt B g w S) (s : Stp g S0 S w0 w) (b : B ≤ w0.heap.size) (c0 c1 c2 c3 c4 c5 c6 : Value) (hw : w.alloc (.cells #[c0, c1, c2, c3, c4, c5, c6] 35) = w') : Loc B g S0 w0 S w' w.heap.size [c0, c1, c2, c3, c4, c5, c6] := by
  subst hw
  have b1 := bel_al (Below.refl _ w) (.cells #[c0, c1, c2, c3, c4, c5, c6] 35)
  exact ⟨x.ofr b1, s.trans (.of b1), HasB.new w _ _, fun e => by have := (x.nodes.lt _ e.symm).2; omega, s.fr.size, b⟩
theorem has_set7 {w : World} {j : Nat} (h : HasB w j 35 ndZ) (c0 c1 c2 c3 c4 c5 c6 : Value) : HasB (((((((w.setCell ⟨j, 0, none⟩ c0).setCell ⟨j, 1, none⟩ c1).setCell ⟨j, 2, none⟩ c2).setCell ⟨j, 3, none⟩ c3).setCell ⟨j, 4, none⟩ c4).setCell ⟨j, 5, none⟩ c5).setCell ⟨j, 6, none⟩ c6) j 35 [c0, c1, c2, c3, c4, c5, c6] :=
  has_set (has_set (has_set (has_set (has_set (has_set (has_set h 0 c0) 1 c1) 2 c2) 3 c3) 4 c4) 5 c5) 6 c6
theorem loc_st {B g : Nat} {S0 S : Sr} {w0 w : World} (x : RdAt B g w S) (s : Stp g S0 S w0 w) (b : B ≤ w0.heap.size) (c0 c1 c2 c3 c4 c5 c6 : Value) : ∃ wa w', w.alloc (.cells #[.int .i64 0, .int .i64 0, .int .i64 0, .int .i64 0, .string ⟨#[]⟩, .int .u32 0, .slice none 0 0] 35) = wa ∧
    (((((((wa.setCell ⟨w.heap.size, 0, none⟩ c0).setCell ⟨w.heap.size, 1, none⟩ c1).setCell ⟨w.heap.size, 2, none⟩ c2).setCell ⟨w.heap.size, 3, none⟩ c3).setCell ⟨w.heap.size, 4, none⟩ c4).setCell ⟨w.heap.size, 5, none⟩ c5).setCell ⟨w.heap.size, 6, none⟩ c6) = w' ∧ Hid (HasB wa w.heap.size 35 ndZ) ∧ Hid (Loc B g S0 w0 S w' w.heap.size [c0, c1, c2, c3, c4, c5, c6]) := by
  have L := Loc.mk' x s b (.int .i64 0) (.int .i64 0) (.int .i64 0) (.int .i64 0) (.string ⟨#[]⟩) (.int .u32 0) (.slice none 0 0) rfl
  have o := (((((((Ofr.refl w.heap.size none (w.alloc (.cells #[.int .i64 0, .int .i64 0, .int .i64 0, .int .i64 0, .string ⟨#[]⟩, .int .u32 0, .slice none 0 0] 35))).set 0 c0).set 1 c1).set 2 c2).set 3 c3).set 4 c4).set 5 c5).set 6 c6
  exact ⟨_, _, rfl, rfl, Lib.hid L.h, Lib.hid ⟨L.r.othN o L.gj L.h L.n, L.s.oth o L.l, has_set7 L.h _ _ _ _ _ _ _, L.n, L.l, L.b⟩⟩
theorem Loc.set {B g : Nat} {S0 S : Sr} {w0 w : World} {j : Nat} {cs : List Value} (x : Loc B g S0 w0 S w j cs) (i : Nat) (v : Value) : ∃ w', w.setCell ⟨j, i, none⟩ v = w' ∧ Hid (Loc B g S0 w0 S w' j (cs.set i v)) := by
  have o := (Ofr.refl j none w).set i v
  exact ⟨_, rfl, Lib.hid ⟨x.r.othN o x.gj x.h x.n, x.s.oth o x.l, has_set x.h i v, x.n, x.l, x.b⟩⟩
theorem Loc.call {B g : Nat} {S0 S S' : Sr} {w0 w w' : World} {j : Nat} {cs : List Value} (x : Loc B g S0 w0 S w j cs) (r : RdAt B g w' S') (s : Stp g S S' w w') : Loc B g S0 w0 S' w' j cs :=
  ⟨r, x.s.trans s, x.h.ofr s.fr (by have := x.gj; omega) x.n, s.nw.ne x.h.lt x.n, x.l, x.b⟩
theorem Loc.bel {B g : Nat} {S0 S : Sr} {w0 w w' : World} {j : Nat} {cs : List Value} (x : Loc B g S0 w0 S w j cs) (b : Below w.heap.size w w') : Loc B g S0 w0 S w' j cs := x.call (x.r.ofr b) (.of b)
theorem ls_nil (w : World) (B : Nat) (k a b c : Int) (t : Bs) (v : Int) : LsAt w B (⟨k, a, b, c, t, v, []⟩, .slice none 0 0) := World.ownsRow_nil _ _ _ _
set_option maxHeartbeats 4000000 in
theorem both_any {B g : Nat} {w : World} {S : Sr} (h : RdAt B g w S) (o a b : Int) (hn : S.N.length < 5000) : Calls Tryz.prog 99 #[.pointer (some ⟨g, 0, none⟩), .int .u32 o, .int .i64 a, .int .i64 b] w (AddP B g S w ⟨6, a, b, -1, [], o, []⟩ (.slice none 0 0)) := by
  have CN := Lib.hid (node_any 6 w)
  have CA := Lib.hid (fun w' (r : RdAt B g w' S) => add_any r ⟨6, a, b, -1, [], o, []⟩ (.slice none 0 0) (ls_nil _ _ _ _ _ _ _ _) hn)
  have HH := Lib.hid h
  clear h
  simp only [ndA, ndC, AddP] at CA ⊢
  go_enter Tryz.func99, Tryz.ntmps99
  go_wp2_with fail
  refine (CN.out).mono ?_; rintro e w1 ⟨rfl, b1⟩
  unfold ndA ndC nd1
  simp only
  obtain ⟨wa, w2, ea, e2, HZ, L2⟩ := loc_st (HH.out.ofr b1) (Stp.of (g := g) (S := S) b1) HH.out.hB (.int .i64 6) (.int .i64 (-1)) (.int .i64 (-1)) (.int .i64 (-1)) (.string (strB [])) (.int .u32 0) (.slice none 0 0)
  have z0 := HZ.out.cell 0
  have z1 := HZ.out.cell 1
  have z2 := HZ.out.cell 2
  have z3 := HZ.out.cell 3
  have z4 := HZ.out.cell 4
  have z5 := HZ.out.cell 5
  have z6 := HZ.out.cell 6
  have y0 := HZ.out.frozen 0
  have y1 := HZ.out.frozen 1
  have y2 := HZ.out.frozen 2
  have y3 := HZ.out.frozen 3
  have y4 := HZ.out.frozen 4
  have y5 := HZ.out.frozen 5
  have y6 := HZ.out.frozen 6
  simp only [ndZ, List.getElem?_cons_zero, List.getElem?_cons_succ] at z0 z1 z2 z3 z4 z5 z6
  obtain ⟨w3, e3, L3⟩ := L2.out.set 5 (.int .u32 o)
  obtain ⟨w4, e4, L4⟩ := L3.out.set 1 (.int .i64 a)
  obtain ⟨w5, e5, L5⟩ := L4.out.set 2 (.int .i64 b)
  simp only [List.set_cons_zero, List.set_cons_succ] at L3 L4 L5
  have m5 := L2.out.h.cell 5
  have p5 := L2.out.h.frozen 5
  have m1 := L3.out.h.cell 1
  have p1 := L3.out.h.frozen 1
  have m2 := L4.out.h.cell 2
  have p2 := L4.out.h.frozen 2
  have n0 := L5.out.h.cell 0
  have n1 := L5.out.h.cell 1
  have n2 := L5.out.h.cell 2
  have n3 := L5.out.h.cell 3
  have n4 := L5.out.h.cell 4
  have n5 := L5.out.h.cell 5
  have n6 := L5.out.h.cell 6
  simp only [List.getElem?_cons_zero, List.getElem?_cons_succ] at n0 n1 n2 n3 n4 n5 n6 m5 m1 m2
  clear CN L2 L3 L4 b1
  go_wp2_with fail
  refine (CA.out _ L5.out.r).mono ?_; rintro e w6 ⟨nv, rfl, R6, S6⟩
  have FIN := Lib.hid (And.intro R6 (L5.out.s.trans S6))
  clear R6 S6 CA
  go_wp2
  go_ret
  exact ⟨nv, rfl, FIN.out⟩
def opF (b : Int) (l : List (Bs × Int × Int)) (ws : List Pc) : Option Int := (l.find? fun x => decide (x.2.2 = b) && hdW x.1 ws).map fun x => x.2.1
theorem opF_0 (ws : List Pc) : opF 0 sgT ws = opE ws := by
  unfold opF sgT opE
  cases h1 : hdW [60] ws <;> cases h2 : hdW [61, 61] ws <;> simp [List.find?, h1, h2]
theorem opF_1 (ws : List Pc) : opF 1 sgT ws = opS ws := by
  unfold opF sgT opS
  cases h1 : hdW [43] ws <;> cases h2 : hdW [45] ws <;> simp [List.find?, h1, h2]
theorem opF_2 (ws : List Pc) : opF 2 sgT ws = opP ws := by
  unfold opF sgT opP
  cases h1 : hdW [42] ws <;> cases h2 : hdW [47] ws <;> cases h3 : hdW [37] ws <;> simp [List.find?, h1, h2, h3]
theorem sg_ks : ∀ k, k < 7 → KsT (sgT.getD k ([], 0, 0)).1 := by
  intro k hk
  match k, hk with
  | 0, _ => exact ks_of | 1, _ => exact ks_of | 2, _ => exact ks_of | 3, _ => exact ks_of | 4, _ => exact ks_of | 5, _ => exact ks_of | 6, _ => exact ks_of
theorem sg_ix0 (w : World) : (Instr.index 92 (.agg sgC.toArray) (.int .i64 0)).run Tryz.prog w = .ok (.agg #[.string (strB [60]), .int .u32 13, .int .i64 0]) w := by kernel_rfl
theorem sg_ix1 (w : World) : (Instr.index 92 (.agg sgC.toArray) (.int .i64 1)).run Tryz.prog w = .ok (.agg #[.string (strB [61, 61]), .int .u32 14, .int .i64 0]) w := by kernel_rfl
theorem sg_ix2 (w : World) : (Instr.index 92 (.agg sgC.toArray) (.int .i64 2)).run Tryz.prog w = .ok (.agg #[.string (strB [43]), .int .u32 3, .int .i64 1]) w := by kernel_rfl
theorem sg_ix3 (w : World) : (Instr.index 92 (.agg sgC.toArray) (.int .i64 3)).run Tryz.prog w = .ok (.agg #[.string (strB [45]), .int .u32 4, .int .i64 1]) w := by kernel_rfl
theorem sg_ix4 (w : World) : (Instr.index 92 (.agg sgC.toArray) (.int .i64 4)).run Tryz.prog w = .ok (.agg #[.string (strB [42]), .int .u32 5, .int .i64 2]) w := by kernel_rfl
theorem sg_ix5 (w : World) : (Instr.index 92 (.agg sgC.toArray) (.int .i64 5)).run Tryz.prog w = .ok (.agg #[.string (strB [47]), .int .u32 6, .int .i64 2]) w := by kernel_rfl
theorem sg_ix6 (w : World) : (Instr.index 92 (.agg sgC.toArray) (.int .i64 6)).run Tryz.prog w = .ok (.agg #[.string (strB [37]), .int .u32 7, .int .i64 2]) w := by kernel_rfl
theorem sg_ix (k : Nat) (hk : k < 7) (w : World) : (Instr.index 92 (.agg sgC.toArray) (.int .i64 k)).run Tryz.prog w = .ok (.agg #[.string (strB (sgT.getD k ([], 0, 0)).1), .int .u32 (sgT.getD k ([], 0, 0)).2.1, .int .i64 (sgT.getD k ([], 0, 0)).2.2]) w := by
  match k, hk with
  | 0, _ => exact sg_ix0 w | 1, _ => exact sg_ix1 w | 2, _ => exact sg_ix2 w | 3, _ => exact sg_ix3 w | 4, _ => exact sg_ix4 w | 5, _ => exact sg_ix5 w | 6, _ => exact sg_ix6 w
/-- the signs, loaded whole -/
theorem ld_sg {ops : Array Oper} {rest : List Oper} {o : Oper} {a : Act} {w : World} {Q : Exit → Act → World → Prop} (hgd : o.guard = none) (ho : o.op = .load 92 (.global 1)) (hs : SgV w)
    (h : wpList Tryz.prog ops Q rest (a.put o.dst (.agg sgC.toArray)) w) : wpList Tryz.prog ops Q (o :: rest) a w := by
  refine wpList_plain hgd fun _ hK => ?_
  have hl := run_loadCells_list (P := Tryz.prog) w ⟨1, 0, none⟩ sgC (fun j v hv => by rw [Addr.add_lit, Nat.zero_add]; exact hs j v hv)
  have hx : a.eval (.global 1) = .pointer (some ⟨1, 0, none⟩) := rfl
  have hi : ∀ w, (Go.sizeOf 92).run Tryz.prog w = .ok sgC.length w := Tryz.sizeOf92
  unfold Oper.wp execOp
  simp only [ho, hx, Instr.loadAt, Instr.sureAddr, Sem.run_bind, Sem.run_pure, Result.andThen_ok, loadVar, Tryz.isAgg92, hi, if_true, hl]
  exact hK _ _ h
def OpP (B g : Nat) (S : Sr) (w : World) (r : Option Int) (e : Ending) (w' : World) : Prop :=
  match r with
  | none => e = .returned (.tuple #[.int .u32 0, .bool false]) ∧ RdAt B g w' S ∧ Stp g S S w w'
  | some o => e = .returned (.tuple #[.int .u32 o, .bool true]) ∧ RdAt B g w' S.up ∧ Stp g S S.up w w' ∧ S.up.ws = S.ws.tail ∧ S.k < S.W.length
theorem find_drop {b : Int} {ws : List Pc} {k : Nat} (hk : k < 7) : opF b (sgT.drop k) ws = if (sgT.getD k ([], 0, 0)).2.2 = b ∧ hdW (sgT.getD k ([], 0, 0)).1 ws = true then some (sgT.getD k ([], 0, 0)).2.1 else opF b (sgT.drop (k + 1)) ws := by
  have e : sgT.drop k = sgT.getD k ([], 0, 0) :: sgT.drop (k + 1) := by
    match k, hk with
    | 0, _ => rfl | 1, _ => rfl | 2, _ => rfl | 3, _ => rfl | 4, _ => rfl | 5, _ => rfl | 6, _ => rfl
  rw [e]
  generalize sgT.getD k ([], 0, 0) = x
  unfold opF
  by_cases h1 : x.2.2 = b <;> cases h2 : hdW x.1 ws <;> simp [List.find?, h1, h2]
theorem sg_new (w : World) (t : Bs) (o b : Int) : ∃ W1, w.alloc (.cells #[.string (strB t), .int .u32 o, .int .i64 b] 91) = W1 ∧ HasB W1 w.heap.size 91 [.string (strB t), .int .u32 o, .int .i64 b] ∧ Below w.heap.size w W1 :=
  ⟨_, rfl, HasB.new w _ _, bel_al (Below.refl _ _) _⟩
set_option maxHeartbeats 4000000 in
theorem oper_any {B g : Nat} {w : World} {S : Sr} (h : RdAt B g w S) (b : Int) : Calls Tryz.prog 98 #[.pointer (some ⟨g, 0, none⟩), .int .i64 b] w (OpP B g S w (opF b sgT S.ws)) := by
  have HH := Lib.hid h
  have hsg := h.sg
  have hle := Lib.hid h.le
  clear h
  go_enter Tryz.func98, Tryz.ntmps98
  go_wp2_with (refine ld_sg rfl rfl hsg ?_)
  clear hsg
  go_loopw [9] (fun v wr => ∃ k : Nat, v = .int .i64 k ∧ k ≤ 7 ∧ Hid (opF b (sgT.drop k) S.ws = opF b sgT S.ws) ∧ Hid (RdAt B g wr S) ∧ Hid (Stp g S S w wr)) (fun v _ => 7 - (intOf v).toNat)
  case atStart => exact ⟨0, rfl, by omega, Lib.hid rfl, HH, Lib.hid (Stp.refl _ _ _)⟩
  case round =>
    obtain ⟨k, rfl, hk, HF, HR, HS⟩ := hrel
    clear HH
    rcases Nat.lt_or_ge k 7 with hlt | hge
    · have hix := sg_ix k hlt
      have hks := Lib.hid (sg_ks k hlt)
      have hfd := Lib.hid (find_drop (b := b) (ws := S.ws) hlt)
      have hkz : (k : Int) < 7 := by omega
      have hm : 7 - (k + 1) < 7 - k := by omega
      generalize sgT.getD k ([], 0, 0) = x at *
      obtain ⟨t, o, b'⟩ := x
      simp only at hix hks hfd
      obtain ⟨W1, e1, N1, B1⟩ := sg_new wr t o b'
      have R1 := Lib.hid (HR.out.ofr B1)
      have S1 := Lib.hid (HS.out.trans (Stp.of (g := g) (S := S) B1))
      have n0 := N1.cell 0
      have n1 := N1.cell 1
      have n2 := N1.cell 2
      simp only [List.getElem?_cons_zero, List.getElem?_cons_succ] at n0 n1 n2
      have N1 := Lib.hid N1
      have hgs := Lib.hid (show g < wr.heap.size by have := HR.out.cells.lt; omega)
      clear B1
      by_cases hb : b' = b
      · subst hb
        have CT := Lib.hid (take_any R1.out t hks.out)
        cases htk : hdW t S.ws
        · rw [htk] at CT
          simp only [Bool.false_eq_true, if_false] at CT
          go_wp2_with fail
          refine (CT.out).mono ?_; rintro e w2 ⟨rfl, R2, S2⟩
          have R2 := Lib.hid R2
          have S2 := Lib.hid (S1.out.trans S2)
          clear CT
          go_wp2
          exact ⟨⟨k + 1, by simp, by omega, Lib.hid (by rw [← HF.out, hfd.out, if_neg (by rw [htk]; simp)]), R2, S2⟩, by simp only [intOf]; omega⟩
        · rw [htk] at CT
          simp only [if_true] at CT
          have hk3 := Lib.hid (hd_lt (t := t) hle.out htk)
          have hk4 := Lib.hid (up_ws (t := t) hle.out htk)
          go_wp2_with fail
          refine (CT.out).mono ?_; rintro e w2 ⟨rfl, R2, S2⟩
          have m1 : w2.cell? ⟨wr.heap.size, 1, none⟩ = some (.int .u32 o) := (N1.out.ofr S2.fr (by have := hgs.out; omega) (own_neB R1.out.nodes N1.out (by decide))).cell 1
          have R2 := Lib.hid R2
          have S2 := Lib.hid (S1.out.trans S2)
          clear CT n0 n1 n2 N1
          go_wp2
          have hv : opF b' sgT S.ws = some o := by rw [← HF.out, hfd.out]; simp [htk]
          rw [hv]
          go_ret2
          exact ⟨rfl, R2.out, S2.out, hk4.out, hk3.out⟩
      · go_wp2_with fail
        exact ⟨⟨k + 1, by simp, by omega, Lib.hid (by rw [← HF.out, hfd.out, if_neg (fun h => hb h.1)]), R1, S1⟩, by simp only [intOf]; omega⟩
    · obtain rfl : k = 7 := by omega
      go_wp2
      have hv : opF b sgT S.ws = none := by rw [← HF.out]; rfl
      rw [hv]
      go_ret2
      exact ⟨rfl, HR.out, HS.out⟩
end Go.Proofs.YtkacplcilkogpaaGreatDoor.Mm
