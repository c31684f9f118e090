/- What Write of the document's own memory (corralref03) answers. -/
import Derived.Test.YtjcggpaiminecaaMemRefSet
import Derived.Deep.AppendLies
import Derived.Deep.RegionLaw
import Derived.Deep.DeepCutAuto
namespace Go.Proofs.Ytjcggpaiminecaa.Mm
open Go.ChangeShapes Go.WideShapes Go.ChangeAt Go.RowKit
set_option linter.unusedVariables false

theorem u8_info : (Try.prog.info? 5).map (fun i => (i.zero, i.size, i.bytes)) = some (some (.int .u8 0), 1, 1) := by kernel_rfl

def RWriteP (w : World) (yb N cU : Nat) (NB : List Int) (e : Ending) (w' : World) : Prop :=
  ∃ g cap, e = .returned (.agg #[.slice (some ⟨g, 0, none⟩) N cap, .slice (some ⟨yb, 0, none⟩) N cU]) ∧ RowAt w' (some ⟨g, 0, none⟩) cap NB ∧ w.heap.size ≤ g ∧ g < w'.heap.size ∧ Below w.heap.size w w'

theorem news_at {w : World} {xb cB : Nat} {B : List Int} (r : RowAt w (some ⟨xb, 0, none⟩) cB B) (hne : B ≠ []) : ∀ j u, (B.map (Value.int .u8))[j]? = some u → w.cell? ((⟨xb, 0, none⟩ : Addr).add j) = some u := by
  intro j u hj
  have hjl : j < B.length := by
    rcases Nat.lt_or_ge j B.length with h | h
    · exact h
    · rw [List.getElem?_eq_none (by simpa using h)] at hj; cases hj
  obtain ⟨x, hx, _, hc⟩ := r.at_ j hjl
  injection hx with hx; subst hx
  rw [hc]
  simp [List.getElem?_eq_getElem hjl] at hj
  subst hj
  simp [List.getD, List.getElem?_eq_getElem hjl]

theorem step_app {W : World} {ops : Array Oper} {o : Oper} {a : Act} {K : Act → World → Prop} {Q : Exit → Act → World → Prop} {E : Prop} (hgd : o.guard = none) (s x : Operand)
    (ho : o.op = .call { callee := .builtin .append, args := #[s, x], argTypes := #[30, 30] }) (s0 G N cB xb : Nat) (B : List Int)
    (hs : a.eval s = .slice (some ⟨G, 0, none⟩) 0 0) (hx : a.eval x = .slice (some ⟨xb, 0, none⟩) N cB) (hG : HasB W G 5 []) (hsG : s0 ≤ G) (r : RowAt W (some ⟨xb, 0, none⟩) cB B) (hB : B.length = N) (hN0 : 0 < N) (hN : N ≤ 65536)
    (h : ∀ g cap w' cur, HasB w' g 5 cur → cur.length = cap → N ≤ cap → cap ≤ maxLen → cur.take N = B.map (Value.int .u8) → (g = G ∨ g = W.heap.size) → Chg G G W w' → K (a.put o.dst (.slice (some ⟨g, 0, none⟩) N cap)) w') :
    if Region.wanted o (yielded ops a.tmps) = true then Oper.wp Try.prog o a W K Q else E := by
  obtain ⟨u0, hu0, hz0, hz1, hz2⟩ := info_parts u8_info
  have hGl := hG.lt
  have hne : B ≠ [] := by intro e; subst e; simp at hB; omega
  refine step_append_lies W hgd s x 30 ho s0 5 u0 _ 1 1 Try.underlying30 hu0 hz0 hz1 hz2 rfl (by decide) _ 0 [] hs ?_ ⟨xb, 0, none⟩ N cB (B.map (Value.int .u8)) hx (by simp [hB]) (news_at r hne) (ints_oneCell .u8 B) hN0 (by unfold maxLen; omega) (by omega) (by omega) W.heap.size rfl ?_
  · exact ⟨rfl, .inr ⟨G, 0, #[], rfl, hsG, hG, Nat.le_refl _, Nat.zero_le _, rfl, rfl⟩⟩
  · intro g cap w' hown hgr hor hlt
    rw [Nat.zero_add, List.nil_append] at hown
    rw [Nat.zero_add]
    obtain ⟨hl, h2⟩ := hown
    rcases h2 with ⟨hq, _⟩ | ⟨g', cap', cur, hv, hb, hh, hc1, hc2, hc3, hc4⟩
    · cases hq
    · injection hv with hv1 hv2 hv3
      injection hv1 with hv1
      injection hv1 with hv1
      subst hv1 hv3
      refine h g cap w' cur.toList (by unfold HasB; simpa using hh) (by simpa using hc3) hc1 hc2 (by simpa using hc4) ?_ ⟨hgr.os, hgr.tape, hgr.output, hgr.size, fun k hk h1 _ => hgr.block k hk (fun e => by simp [Value.ownBlock] at e; exact h1 e)⟩
      rcases hor with e | e
      · simp [Value.ownBlock] at e; exact .inl e.symm
      · exact .inr e

theorem chg_cells {g : Nat} {w w' : World} (c : Chg g g w w') : (∀ b o, b < w.heap.size → ¬ b = g → w'.cell? ⟨b, o, none⟩ = w.cell? ⟨b, o, none⟩) ∧ (∀ b o, b < w.heap.size → ¬ b = g → w'.frozen? ⟨b, o, none⟩ = w.frozen? ⟨b, o, none⟩) :=
  ⟨fun b o h1 h2 => World.cell?_of_block (c.block b h1 h2 h2), fun b o h1 h2 => World.frozen?_of_block (c.block b h1 h2 h2)⟩
theorem HasB.al {w : World} {g : Nat} {t : TypeId} {cs : List Value} (h : HasB w g t cs) (o : Obj) : HasB (w.alloc o) g t cs := h.below (bel_al (Below.refl _ _) _)
theorem HasB.newAt (w : World) (g : Nat) (t : TypeId) (cs : Array Value) (hg : g = w.heap.size) : HasB (w.alloc (.cells cs t)) g t cs.toList := by
  subst hg
  have := HasB.new w t cs.toList
  rwa [Array.toArray_toList] at this
theorem RowAt.al {w : World} {A : Option Addr} {cap : Nat} {l : List Int} (r : RowAt w A cap l) (o : Obj) : RowAt (w.alloc o) A cap l := r.below (bel_al (Below.refl _ _) _)
theorem RowAt.dr {w : World} {A : Option Addr} {cap : Nat} {l : List Int} (r : RowAt w A cap l) : RowAt w.drew A cap l := r

/-- what stands behind 'Mem{append([]byte{}, m.B...), m.There}' -/
def WCut (w2 : World) (yb N cU : Nat) (B : List Int) (s7 : Value) (wx : World) : Prop :=
  ∃ O g cap cur, s7 = .pointer (some ⟨O, 0, none⟩) ∧ HasB wx O 33 [.slice (some ⟨g, 0, none⟩) N cap, .slice (some ⟨yb, 0, none⟩) N cU] ∧ HasB wx g 5 cur ∧ cur.length = cap ∧ N ≤ cap ∧ cap ≤ maxLen ∧ cur.take N = B.map (Value.int .u8) ∧ w2.heap.size ≤ g ∧ w2.heap.size ≤ O ∧ Below w2.heap.size w2 wx

/-- the world, where k bytes are written -/
def RWRel (W : World) (g a n : Nat) (cur : List Value) (l : List Int) (i : Value) (w' : World) : Prop :=
  ∃ k : Nat, k ≤ n ∧ i = .int .i64 k ∧ HasB w' g 5 (splice cur a ((l.take k).map (Value.int .u8))) ∧ Chg g g W w'
theorem splice_set {α : Type} (L c : List α) (a : Nat) (x : α) (h : a + (c.length + 1) ≤ L.length) : (splice L a c).set (a + c.length) x = splice L a (c ++ [x]) := by
  apply ext_getD x
  · rw [List.length_set, splice_len _ _ _ (by omega), splice_len _ _ _ (by simp; omega)]
  · intro i hi
    have e : ((splice L a c).set (a + c.length) x).getD i x = if a + c.length = i then x else (splice L a c).getD i x := by
      simp only [List.getD, List.getElem?_set]
      rw [splice_len _ _ _ (by omega)]
      by_cases hq : a + c.length = i
      · rw [if_pos hq, if_pos hq, if_pos (by omega)]; rfl
      · rw [if_neg hq, if_neg hq]
    rw [e, splice_getD _ _ _ _ (by omega), splice_getD _ _ _ _ (by simp; omega)]
    simp only [List.length_append, List.length_cons, List.length_nil]
    by_cases hq : a + c.length = i
    · rw [if_pos hq, if_pos (by omega)]
      subst hq
      simp [List.getD]
    · rw [if_neg hq]
      by_cases h1 : a ≤ i ∧ i < a + c.length
      · rw [if_pos h1, if_pos (by omega)]
        simp [List.getD, List.getElem?_append, show i - a < c.length by omega]
      · rw [if_neg h1, if_neg (by omega)]
theorem rw_step {W wr : World} {g a n k : Nat} {cur : List Value} {l : List Int} {x : Int} (hk : k < n) (hl : l.length = n) (hf : a + n ≤ cur.length) (hB : HasB wr g 5 (splice cur a ((l.take k).map (Value.int .u8)))) (c : Chg g g W wr) (hx : l.getD k 0 = x) :
    RWRel W g a n cur l (.int .i64 ((k : Int) + 1)) (wr.setCell ⟨g, a + k, none⟩ (.int .u8 x)).drew := by
  refine ⟨k + 1, hk, by simp, drew_has ?_, chg_drew (chg_set c g (.inl rfl) _ _)⟩
  have hlk : ((l.take k).map (Value.int .u8)).length = k := by rw [List.length_map, List.length_take]; omega
  have := has_set hB (a + k) (.int .u8 x)
  have e := splice_set cur ((l.take k).map (Value.int .u8)) a (.int .u8 x) (by omega)
  rw [hlk] at e
  rw [e] at this
  have q : l.take (k + 1) = l.take k ++ [x] := by
    rw [List.take_succ_eq_append_getElem (by omega)]
    congr 2
    rw [← hx]
    simp [List.getD, List.getElem?_eq_getElem (by omega : k < l.length)]
  rw [q, List.map_append]
  exact this
theorem rw_row {w : World} {g a n N cp : Nat} {cur : List Value} {B l : List Int} (hf : a + l.length ≤ N) (hB : B.length = N) (hl : l.length = n) (hc : cur.length = cp) (h2 : N ≤ cp) (h3 : cp ≤ maxLen) (h4 : cur.take N = B.map (Value.int .u8)) (bB : Bytes B) (bl : Bytes l)
    (h : HasB w g 5 (splice cur a ((l.take n).map (Value.int .u8)))) : RowAt w (some ⟨g, 0, none⟩) cp (splice B a l) := by
  have hL : (splice B a l).length = N := by rw [splice_len _ _ _ (by omega), hB]
  refine ⟨by omega, h3, splice_byte bB bl _, fun _ => ⟨_, rfl, h.lt, fun i hi => ?_⟩⟩
  rw [hL] at hi
  rw [addr_add, Nat.zero_add, h.cell, List.take_of_length_le (by omega)]
  have hS : (splice cur a (l.map (Value.int .u8))).length = cp := by rw [splice_len _ _ _ (by rw [List.length_map]; omega), hc]
  have e := splice_getD cur a (l.map (Value.int .u8)) (.int .u8 0) (by rw [List.length_map]; omega) i
  rw [List.getElem?_eq_getElem (by omega)]
  simp only [List.getD, List.getElem?_eq_getElem (by omega : i < (splice cur a (l.map (Value.int .u8))).length), Option.getD_some] at e
  rw [e]
  have e' := splice_getD B a l 0 (by omega) i
  rw [e', List.length_map]
  by_cases q : a ≤ i ∧ i < a + l.length
  · rw [if_pos q, if_pos q]
    simp [List.getD, List.getElem?_eq_getElem (by omega : i - a < l.length)]
  · rw [if_neg q, if_neg q]
    have hc2 : cur[i]? = (B.map (Value.int .u8))[i]? := by rw [← h4, List.getElem?_take, if_pos hi]
    rw [hc2]
    simp [List.getD, List.getElem?_eq_getElem (by omega : i < B.length)]
theorem wcut_a {w2 W w4 : World} {yb N cU G g c : Nat} {B : List Int} {cur : List Value} (hW : Below w2.heap.size w2 W) (hG : w2.heap.size ≤ G) (h1 : HasB w4 g 5 cur) (h2 : cur.length = c) (h3 : N ≤ c) (h4 : c ≤ maxLen) (h5 : cur.take N = B.map (Value.int .u8)) (h6 : g = G ∨ g = W.heap.size) (h7 : Chg G G W w4) :
    WCut w2 yb N cU B (.pointer (some ⟨w4.heap.size, 0, none⟩)) (w4.alloc (.cells #[.slice (some ⟨g, 0, none⟩) N c, .slice (some ⟨yb, 0, none⟩) N cU] 33)) := by
  have hs := hW.size
  have hs4 := h7.size
  refine ⟨_, g, c, cur, rfl, HasB.newAt _ _ _ #[.slice (some ⟨g, 0, none⟩) N c, .slice (some ⟨yb, 0, none⟩) N cU] rfl, h1.al _, h2, h3, h4, h5, by omega, by omega, ?_⟩
  exact bel_al (h7.below hW hs hG hG) _
theorem wcut_b {w2 W w4 : World} {yb N cU G g c O : Nat} {B : List Int} {cur : List Value} {cs0 : Array Value} (hW : Below w2.heap.size w2 W) (hG : w2.heap.size ≤ G) (h1 : HasB w4 g 5 cur) (h2 : cur.length = c) (h3 : N ≤ c) (h4 : c ≤ maxLen) (h5 : cur.take N = B.map (Value.int .u8)) (h6 : g = G ∨ g = W.heap.size) (h7 : Chg G G W w4)
    (hO : HasB W O 33 cs0.toList) (hl : cs0.size = 2) (hOG : O ≠ G) (hO2 : w2.heap.size ≤ O) :
    WCut w2 yb N cU B (.pointer (some ⟨O, 0, none⟩)) ((w4.setCell ⟨O, 0, none⟩ (.slice (some ⟨g, 0, none⟩) N c)).setCell ⟨O, 1, none⟩ (.slice (some ⟨yb, 0, none⟩) N cU)) := by
  have hs := hW.size
  have hs4 := h7.size
  have o4 := hO.chg h7 hOG hOG
  have hne : g ≠ O := by have := hO.lt; omega
  have hset : (cs0.toList.set 0 (Value.slice (some ⟨g, 0, none⟩) N c)).set 1 (.slice (some ⟨yb, 0, none⟩) N cU) = [.slice (some ⟨g, 0, none⟩) N c, .slice (some ⟨yb, 0, none⟩) N cU] := by
    obtain ⟨l⟩ := cs0
    match l, hl with
    | [a, b], _ => rfl
  refine ⟨O, g, c, cur, rfl, by rw [← hset]; exact has_set (has_set o4 0 _) 1 _, has_far (has_far h1 hne _ _) hne _ _, h2, h3, h4, h5, by omega, hO2, ?_⟩
  exact ((h7.below hW hs hG hG).setCell hO2 _).setCell hO2 _

set_option maxHeartbeats 4000000 in
theorem rWrite_any (xb yb N a n cB cU cap : Nat) (A : Option Addr) (B l : List Int) (hB : B.length = N) (hl : l.length = n) (hN : N ≤ 65536) (hN0 : 0 < N) (han : a + n ≤ N) (w : World) (rB : RowAt w (some ⟨xb, 0, none⟩) cB B) (hyb : yb < w.heap.size) (rl : RowAt w A cap l) :
    Calls Try.prog 14 #[.agg #[.slice (some ⟨xb, 0, none⟩) N cB, .slice (some ⟨yb, 0, none⟩) N cU], .int .i64 a, .slice A n cap] w (RWriteP w yb N cU (splice B a l)) := by
  have HB := Lib.hid hB
  have HL := Lib.hid hl
  have RB := Lib.hid rB
  have RL := Lib.hid rl
  have hne : B ≠ [] := by intro e; subst e; simp at hB; omega
  have hxb : xb < w.heap.size := by obtain ⟨x, hx, hlt, _⟩ := rB.at_ 0 (by omega); injection hx with hx; subst hx; exact hlt
  clear rB rl hB hl
  go_enter Try.func14, Try.ntmps14
  go_upto_region 1 with fail
  obtain ⟨w2, hw2⟩ : ∃ w2, (w.alloc (.cells #[.slice (some ⟨xb, 0, none⟩) N cB, .slice (some ⟨yb, 0, none⟩) N cU] 33)).alloc (.cells #[.slice none 0 0, .slice none 0 0] 33) = w2 := ⟨_, rfl⟩
  have hb2 : Below w.heap.size w w2 := by rw [← hw2]; exact bel_al (bel_al (Below.refl _ _) _) _
  have P3 : HasB w2 w.heap.size 33 [.slice (some ⟨xb, 0, none⟩) N cB, .slice (some ⟨yb, 0, none⟩) N cU] := by rw [← hw2]; exact (HasB.new w _ _).al _
  have R6 : HasB w2 (w.heap.size + 1) 33 [.slice none 0 0, .slice none 0 0] := by rw [← hw2]; exact HasB.newAt _ _ _ #[.slice none 0 0, .slice none 0 0] (by simp)
  have hs2 : w2.heap.size = w.heap.size + 2 := by rw [← hw2]; simp
  rw [hw2]
  clear hw2
  have RB2 := Lib.hid (RB.out.below hb2)
  have RL2 := Lib.hid (RL.out.below hb2)
  have HP := Lib.hid P3
  have HR := Lib.hid R6
  have HW := Lib.hid hb2
  have c0 := P3.cell 0
  have c1 := P3.cell 1
  simp only [List.getElem?_cons_succ, List.getElem?_cons_zero] at c0 c1
  have hsl : w.heap.size < w2.heap.size := by omega
  have hsl1 : w.heap.size + 1 < w2.heap.size := by omega
  clear P3 R6 hb2 RB RL hs2
  generalize hs : w.heap.size = s at *
  have HS := Lib.hid hs
  clear hs
  have z1 : ¬ w2.heap.size = s := by omega
  have z2 : ¬ w2.heap.size + 1 = s := by omega
  have z3 : ¬ s = w2.heap.size := by omega
  have z4 : ¬ s = w2.heap.size + 1 := by omega
  go_cut [7] (fun s7 wx => WCut w2 yb N cU B s7 wx)
  case first =>
    go_region_held3 (fun w' => w'.cell? ⟨s, 0, none⟩ = some (.slice (some ⟨xb, 0, none⟩) N cB) ∧ w'.cell? ⟨s, 1, none⟩ = some (.slice (some ⟨yb, 0, none⟩) N cU))
      (first
        | exact ⟨k0, k1⟩
        | exact ⟨Lib.cell?_alloc_some _ k0, Lib.cell?_alloc_some _ k1⟩
        | (go_split_ands
           exact ⟨Lib.cell?_alloc_some _ (by assumption), Lib.cell?_alloc_some _ (by assumption)⟩)
        | go_keep)
      ((refine step_app (by rfl) _ _ (by rfl) w2.heap.size _ N cB xb B (by rfl) (by rfl) (by first | exact drew_has (HasB.newAt _ _ _ #[] (by simp)) | exact drew_has ((HasB.newAt _ _ _ #[] (by simp)).al _) | exact HasB.newAt _ _ _ #[] (by simp) | exact (HasB.newAt _ _ _ #[] (by simp)).al _) (by omega) (by first | exact (RB2.out.al _).dr | exact ((RB2.out.al _).al _).dr | exact RB2.out.al _ | exact (RB2.out.al _).al _) HB.out hN0 hN ?_; intro g c w4 cur h1 h2 h3 h4 h5 h6 h7; obtain ⟨hc, hf⟩ := chg_cells h7; have k0 : w4.cell? ⟨s, 0, none⟩ = some (.slice (some ⟨xb, 0, none⟩) N cB) := (by first | exact (hc s 0 (by first | omega | (simp; omega)) (by first | omega | (simp; omega))).trans (Lib.cell?_alloc_some _ c0) | exact (hc s 0 (by first | omega | (simp; omega)) (by first | omega | (simp; omega))).trans (Lib.cell?_alloc_some _ (Lib.cell?_alloc_some _ c0))); have k1 : w4.cell? ⟨s, 1, none⟩ = some (.slice (some ⟨yb, 0, none⟩) N cU) := (by first | exact (hc s 1 (by first | omega | (simp; omega)) (by first | omega | (simp; omega))).trans (Lib.cell?_alloc_some _ c1) | exact (hc s 1 (by first | omega | (simp; omega)) (by first | omega | (simp; omega))).trans (Lib.cell?_alloc_some _ (Lib.cell?_alloc_some _ c1))); have H1 := Lib.hid h1; have H2 := Lib.hid h2; have H5 := Lib.hid h5; have H6 := Lib.hid h6; have H7 := Lib.hid h7; clear h1 h2 h5 h6 h7))
    all_goals go_wp2_with fail
    all_goals go_meet
    · exact wcut_a (by first | exact (bel_al (Below.refl _ _) _).drew | exact bel_al (Below.refl _ _) _) (by omega) H1.out H2.out h3 h4 H5.out H6.out H7.out
    · exact wcut_b (by first | exact (bel_al (bel_al (Below.refl _ _) _) _).drew | exact bel_al (bel_al (Below.refl _ _) _) _) (by omega) H1.out H2.out h3 h4 H5.out H6.out H7.out (cs0 := #[.slice none 0 0, .slice none 0 0]) (by first | exact drew_has (HasB.newAt _ _ _ _ (by simp)) | exact HasB.newAt _ _ _ _ (by simp)) rfl (by omega) (by omega)
    · exact wcut_b (by first | exact (bel_al (bel_al (Below.refl _ _) _) _).drew | exact bel_al (bel_al (Below.refl _ _) _) _) (by omega) H1.out H2.out h3 h4 H5.out H6.out H7.out (cs0 := #[.slice none 0 0, .slice none 0 0]) (by first | exact drew_has ((HasB.newAt _ _ _ _ rfl).al _) | exact (HasB.newAt _ _ _ _ rfl).al _) rfl (by omega) (by omega)
  case rest =>
    obtain ⟨O, g, cp, cur, rfl, hO, hg, e1, e2, e3, e4, hsg, hsO, hbx⟩ := hcut
    have hgl := hg.lt
    have hOl := hO.lt
    have hgO : g ≠ O := hg.ne hO (by decide)
    have HO := Lib.hid hO
    have G := Lib.hid hg
    have E1 := Lib.hid e1
    have E4 := Lib.hid e4
    have HR := Lib.hid (HR.out.below hbx)
    have RLx := Lib.hid (RL2.out.below hbx)
    have HBX : Hid (Below s w wc) := HW.out.trans (hbx.mono (by omega))
    have hsx := hbx.size
    clear hO hg e1 e4 hbx c0 c1 HP
    go_wp2_with fail
    go_loopw [8] (fun i w' => RWRel wc g a n cur l i w') (fun i _ => n - (intOf i).toNat)
    case atStart => exact ⟨0, Nat.zero_le _, rfl, by rw [List.take_zero, List.map_nil, splice_nil]; exact G.out, Chg.refl _ _ _⟩
    case round =>
      obtain ⟨k, hk, rfl, gB, ch⟩ := hrel
      have o0 := HO.out.chg ch hgO.symm hgO.symm
      have c90 := o0.cell 0
      have c91 := o0.cell 1
      simp only [List.getElem?_cons_succ, List.getElem?_cons_zero] at c90 c91
      by_cases hlt : k < n
      · have lB : (splice cur a ((l.take k).map (Value.int .u8))).length = cp := by rw [splice_len _ _ _ (by rw [List.length_map, List.length_take, HL.out, E1.out]; omega), E1.out]
        obtain ⟨tv, tg⟩ : ∃ v, wr.cell? ⟨g, a + k, none⟩ = some v := ⟨_, by rw [gB.cell (a + k), List.getElem?_eq_getElem (by omega)]⟩
        have fg := gB.frozen (a + k)
        obtain ⟨x, rfl, hxl, hx⟩ := RL2.out.at_ k (by rw [HL.out]; exact hlt)
        have cx : wr.cell? (x.add k) = some (.int .u8 (l.getD k 0)) := by
          obtain ⟨x', hx', _, hc⟩ := RLx.out.at_ k (by rw [HL.out]; exact hlt)
          injection hx' with hx'; subst hx'
          rw [← hc]
          exact World.cell?_of_block (ch.block _ (by rw [block_add]; omega) (by rw [block_add]; omega) (by rw [block_add]; omega))
        have GB := Lib.hid gB
        have CH := Lib.hid ch
        clear gB ch o0 lB hx
        have hbd := row_byte RLx.out.2.2.1 k
        obtain ⟨xv, hxv⟩ : ∃ v, l.getD k 0 = v := ⟨_, rfl⟩
        rw [hxv] at cx hbd
        have HX := Lib.hid hxv
        clear hxv
        obtain ⟨p0, p1⟩ := hbd
        have d1 : IntKind.i64.wrap ((a : Int) + (k : Int)) = (a : Int) + (k : Int) := IntWalk.i64_in _ (by omega)
        have d2 : ((a : Int) + (k : Int)).toNat = a + k := by omega
        have d3 : 0 ≤ (a : Int) + (k : Int) := by omega
        have d4 : (a : Int) + (k : Int) < (N : Int) := by omega
        have d5 : (k : Int) < (n : Int) := by omega
        go_wp2_with fail
        go_region
        go_wp2_with fail
        go_roundw
        case rel => exact rw_step hlt HL.out (by rw [E1.out]; omega) GB.out CH.out HX.out
        case measure => simp [intOf]; omega
      · have hkN : k = n := by omega
        subst hkN
        have r0 := HR.out.chg ch (by omega) (by omega)
        have c80 := r0.cell 0
        have c81 := r0.cell 1
        have f80 := r0.frozen 0
        have f81 := r0.frozen 1
        simp only [List.getElem?_cons_succ, List.getElem?_cons_zero] at c80 c81
        have GB := Lib.hid gB
        have CH := Lib.hid ch
        clear gB ch o0 r0
        go_wp2_with fail
        refine bodyPost_ret (v := .agg #[.slice (some ⟨g, 0, none⟩) N cp, .slice (some ⟨yb, 0, none⟩) N cU]) (by simp [results, Try.results14, go_sem, c80, c81]) rfl ?_
        have hgs : g ≠ s + 1 := by omega
        have hsz := CH.out.size
        refine ⟨g, cp, rfl, rw_row (by rw [HL.out]; exact han) HB.out HL.out E1.out e2 e3 E4.out RB2.out.2.2.1 RL2.out.2.2.1 (has_far (has_far GB.out hgs _ _) hgs _ _), by rw [HS.out]; omega, by simp; omega, ?_⟩
        rw [HS.out]
        exact ((CH.out.below HBX.out (by omega) (by omega) (by omega)).setCell (by show s ≤ s + 1; omega) _).setCell (by show s ≤ s + 1; omega) _
end Go.Proofs.Ytjcggpaiminecaa.Mm
