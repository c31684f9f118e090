/- The reader's statements, one behind the other; blocks. -/
import Derived.Test.YtkacplcilkogpaaGreatDoorQPrE
namespace Go.Proofs.YtkacplcilkogpaaGreatDoor.Mm
open Go.ChangeShapes Go.WideShapes Go.ChangeAt Go.RowKit
set_option linter.unusedVariables false
set_option linter.unusedSimpArgs false
set_option maxRecDepth 10000

/-- statements are read, one behind the other -/
structure BkI (S : Sr) (w : World) (b : Nd) (d : Nat) (S1 : Sr) : Prop where
  deep : S1.deep = S.deep
  great : S1.great = (S.great || decide (100 < S.deep + d))
  N : S1.N.map Prod.fst = S.N.map Prod.fst ++ fl S.N.length b
  cnt : S1.N.length + 1 = S.N.length + Mm.cnt b
  gb : S1.N.length + S.k ≤ S.N.length + S1.k
  ll : (lst S.N.length b).length ≤ S1.k
  W : S1.W = S.W
  k : S.k ≤ S1.k
  ls : LsN w S S1
theorem BkI.start {S : Sr} {w : World} (h0 : S.deep ≤ 100 ∨ S.great = true) : BkI S w .nil 0 S := by
  refine ⟨rfl, ?_, by simp [fl], rfl, by omega, by simp [lst], rfl, by omega, .refl _ _⟩
  rcases h0 with h0 | h0
  · simp [show ¬ 100 < S.deep by omega]
  · rw [h0]; rfl
theorem BkI.snoc {B g : Nat} {S S1 S2 : Sr} {w w1 w2 : World} {b a : Nd} {d d2 : Nat} (h : BkI S w b d S1) (r : RdSt B g fl S1 w1 a d2 S2 w2) (hs : w.heap.size ≤ w1.heap.size) : BkI S w (.snoc b a) (max d d2) S2 := by
  have hc := h.cnt
  have hp := cnt_pos b
  have hpa := cnt_pos a
  have e : S.N.length + (Mm.cnt b - 1) = S1.N.length := by omega
  refine ⟨r.deep.trans h.deep, ?_, ?_, ?_, ?_, ?_, r.s.W.trans h.W, by have := h.k; have := r.mono; omega, h.ls.trans r.ls hs⟩
  · rw [r.great, h.great, h.deep]
    by_cases a : 100 < S.deep + d <;> by_cases b : 100 < S.deep + d2 <;> simp [a, b] <;> omega
  · rw [r.N, h.N]; simp only [fl]; rw [e, List.append_assoc]
  · rw [r.cnt]; simp only [Mm.cnt]; omega
  · have := h.gb; have := r.gb; omega
  · simp only [lst, List.length_append, List.length_cons, List.length_nil]
    have := h.ll; have := r.gb; have := r.cnt; omega
theorem BkI.pre {S S1 : Sr} {w : World} {b : Nd} {d n m : Nat} (h : BkI S w b d S1) (p : Pre n m S) : Pre n m S1 :=
  ⟨by have := p.n; rw [ws_len] at this ⊢; rw [h.W]; have := h.k; omega, by have := p.N; have := h.gb; omega, by rw [h.deep]; have := p.d; have := h.k; omega⟩
/-- the block's own node behind them -/
structure RdBl (B g : Nat) (S : Sr) (w : World) (b : Nd) (d : Nat) (S' : Sr) (w' : World) : Prop where
  r : RdAt B g w' S'
  s : Stp g S S' w w'
  deep : S'.deep = S.deep
  great : S'.great = (S.great || decide (100 < S.deep + d))
  N : S'.N.map Prod.fst = S.N.map Prod.fst ++ flB S.N.length b
  cnt : S'.N.length = S.N.length + Mm.cnt b
  gb : S'.N.length + S.k ≤ S.N.length + S'.k + 1
  ls : LsN w S S'
theorem BkI.fin {B g : Nat} {S S1 : Sr} {w w2 : World} {b : Nd} {d : Nat} {lv nv : Value} (h : BkI S w b d S1) (R : RdAt B g w2 (S1.app ⟨13, -1, -1, -1, [], 0, lst S.N.length b⟩ lv nv)) (T : Stp g S (S1.app ⟨13, -1, -1, -1, [], 0, lst S.N.length b⟩ lv nv) w w2) (hL : NewB w lv) : RdBl B g S w b d (S1.app ⟨13, -1, -1, -1, [], 0, lst S.N.length b⟩ lv nv) w2 := by
  refine ⟨R, T, h.deep, h.great, ?_, ?_, ?_, h.ls.app hL⟩
  · show (S1.N ++ [_]).map Prod.fst = _
    rw [List.map_append, h.N]; simp [flB]
  · show (S1.N ++ [_]).length = _
    rw [List.length_append]; have := h.cnt; simp; omega
  · show (S1.N ++ [_]).length + _ ≤ _ + S1.k + 1
    have := h.gb
    simp; omega
theorem BkI.up {S S1 : Sr} {w : World} {b : Nd} {d : Nat} (h : BkI S w b d S1) : BkI S w b d S1.up :=
  ⟨h.deep, h.great, h.N, h.cnt, by have := h.gb; show S1.N.length + S.k ≤ S.N.length + (S1.k + 1); omega, by have := h.ll; show _ ≤ S1.k + 1; omega, h.W, by have := h.k; show S.k ≤ S1.k + 1; omega, h.ls⟩
theorem BkI.rt {S S1 : Sr} {w : World} {b : Nd} {d : Nat} (h : BkI S w b d S1) : (S1.N.length : Int) = Mm.rt S.N.length b := by rw [rt_z]; have := h.cnt; omega
theorem RdBl.st {B g : Nat} {S S1 : Sr} {w w2 : World} {b : Nd} {d : Nat} {lv nv : Value} {x : NdR} (h : RdBl B g S w b d (S1.up.app x lv nv) w2) (hg : S1.N.length + S.k ≤ S.N.length + S1.k) : RdSt B g flB S w b d (S1.up.app x lv nv) w2 :=
  ⟨h.r, h.s, h.deep, h.great, h.N, h.cnt, by show (S1.N ++ [_]).length + S.k ≤ _ + (S1.k + 1); simp; omega, h.ls⟩
def RdT (B g : Nat) (S : Sr) (w : World) (r : Rr) (e : Ending) (w' : World) : Prop :=
  match r with
  | .ok (b, s, d) => ∃ S', e = .returned (.int .i64 (rt S.N.length b)) ∧ RdBl B g S w b d S' w' ∧ S'.ws = s
  | .error k => e = pan (S.W.length - k) ∧ Ofr g S.nv.ownBlock w w'
theorem grL_T {b a : Nd} {d d2 : Nat} {stop : Bool} {ws s : List Pc} (hne : (stop && hdW [125] ws) = false) (hT : grE .T ws = .ok (a, s, d2)) : grE (.L b d stop) ws = grE (.L (.snoc b a) (max d d2) stop) s := by
  rw [grE_L]
  have h0 : ws ≠ [] := fun e => by rw [e, grE_nil_T] at hT; cases hT
  rw [if_neg h0, hne, hT]
  rfl
theorem grL_E {b : Nd} {d k : Nat} {stop : Bool} {ws : List Pc} (h0 : ws ≠ []) (hne : (stop && hdW [125] ws) = false) (hT : grE .T ws = .error k) : grE (.L b d stop) ws = .error k := by
  rw [grE_L, if_neg h0, hne, hT]
  rfl
theorem grL_1 {b : Nd} {d : Nat} {ws : List Pc} (h : hdW [125] ws = true) : grE (.L b d true) ws = .ok (b, ws, d) := by
  rw [grE_L]
  by_cases h0 : ws = []
  · rw [if_pos h0]
  · rw [if_neg h0, h]; rfl
/-- a block's statements that come to the end of the words -/
theorem grB_E {b : Nd} {d k : Nat} {ws : List Pc} (hne : hdW [125] ws = false) (hT : grE .T ws = .error k) : (bnd (grE (.L b d true) ws) fun b s d => must [125] s fun s3 => .ok (b, s3, d)) = (.error k : Rr) := by
  by_cases h0 : ws = []
  · subst h0
    rw [grE_nil_T] at hT
    injection hT with hT
    subst hT
    rfl
  · rw [grL_E h0 (by rw [hne]; rfl) hT]; rfl
set_option maxHeartbeats 2000000 in
theorem over_B {B g pb : Nat} {S : Sr} {w : World} (h : RdAt B g w S) (i : PbI g pb w) : Calls Tryz.prog 100 #[.pointer (some ⟨pb, 0, none⟩)] w fun e w' => e = .returned (.bool (hdW [125] S.ws)) ∧ RdAt B g w' (if hdW [125] S.ws then S.up else S) ∧ Stp g S (if hdW [125] S.ws then S.up else S) w w' := by
  have CT := Lib.hid (take_any h [125] ks_of)
  have c0 := i.1.cell 0
  simp only [List.getElem?_cons_zero] at c0
  clear h i
  cases hb : hdW [125] S.ws <;> rw [hb] at CT
  all_goals
    go_enter Tryz.func100, Tryz.ntmps100
    go_wp2_with fail
    refine (CT.out).mono ?_; rintro e w1 ⟨rfl, R, T⟩
    have FIN := Lib.hid (And.intro R T)
    clear R T CT
    go_wp2
    go_ret
    exact ⟨rfl, FIN.out⟩
set_option maxHeartbeats 2000000 in
theorem over_P {B g pb : Nat} {S : Sr} {w : World} (h : RdAt B g w S) (i : PbI g pb w) : Calls Tryz.prog 40 #[.pointer (some ⟨pb, 0, none⟩)] w fun e w' => e = .returned (.bool (decide (S.ws = []))) ∧ RdAt B g w' S ∧ Stp g S S w w' := by
  have hv : decide (S.ws = []) = decide (S.k = S.W.length) := by
    rw [decide_eq_decide]
    constructor
    · intro e; have := ws_len (S := S); rw [e] at this; have := h.le; simp only [List.length_nil] at *; omega
    · exact ws_nil
  rw [hv]
  clear hv
  have HH := Lib.hid h
  have c0 := i.1.cell 0
  have c1 := h.c1
  have q0 := h.c0
  simp only [List.getElem?_cons_zero] at c0
  obtain ⟨A, cap, w0, hV, _⟩ := h.words
  rw [hV] at q0
  clear h i
  have hd : decide ((S.k : Int) = (S.W.length : Int)) = decide (S.k = S.W.length) := by rw [decide_eq_decide]; omega
  have hd2 : ((S.k : Int) == (S.W.length : Int)) = decide (S.k = S.W.length) := by rw [← hd]; by_cases e : (S.k : Int) = (S.W.length : Int) <;> simp [e]
  go_enter Tryz.func40, Tryz.ntmps40
  go_wp2_with fail
  go_quiet (fail)
  go_wp2_with fail
  go_ret
  exact ⟨ret_bool (by first | exact hd | exact hd2 | simp), HH.out.ofr (below_drewN (Below.refl _ _) _), .of (below_drewN (Below.refl _ _) _)⟩
theorem ls_fin {B : Nat} {w w' : World} {S S1 S2 : Sr} {b a : Nd} {z : Int} {lv : Value} (hc : S1.N.length + 1 = S.N.length + Mm.cnt b) (hz : rt S1.N.length a = z) (h : LsI B w w' S2 (lst S.N.length b ++ [z]) lv) : LsI B w w' S2 (lst S.N.length (.snoc b a)) lv := by
  have e : S.N.length + (Mm.cnt b - 1) = S1.N.length := by have := cnt_pos b; omega
  have e2 : lst S.N.length (.snoc b a) = lst S.N.length b ++ [z] := by simp only [lst]; rw [e, hz]
  rw [e2]; exact h
theorem LsI.seti {B j : Nat} {w0 w w' : World} {S : Sr} {l : List Int} {lv v : Value} {cs : List Value} (x : LsI B w0 w S l lv) (e : w.setCell ⟨j, 6, none⟩ v = w') (hb : HasB w j 35 cs) : LsI B w0 w' S l lv := by
  refine ⟨?_, x.new, x.dis⟩
  subst e
  have o := (Ofr.refl j none w).set 6 v
  refine ⟨x.own.1, ?_⟩
  rcases x.own.2 with hn | ⟨b, cap, cur, rfl, hbb, hgg, rest⟩
  · exact .inl hn
  · refine .inr ⟨b, cap, cur, rfl, hbb, ?_, rest⟩
    rw [o.block b (Array.getElem?_eq_some_iff.1 hgg).1 (fun e => by subst e; exact own_neB x.own hb (by decide) rfl) (by simp)]
    exact hgg
theorem PbI.bel {g pb : Nat} {w w' : World} (h : PbI g pb w) (b : Below w.heap.size w w') : PbI g pb w' := ⟨h.1.below b, h.2⟩
theorem PbI.call {B g pb : Nat} {w w' : World} {S S' : Sr} (h : PbI g pb w) (r : RdAt B g w S) (s : Stp g S S' w w') : PbI g pb w' := ⟨h.1.ofr s.fr h.2 (own_neB r.nodes h.1 (by decide)), h.2⟩
theorem PbI.grown {B g pb : Nat} {w0 w w' : World} {S : Sr} {l : List Int} {lv : Value} (h : PbI g pb w) (x : LsI B w0 w S l lv) (hg : w.grownBy w' lv.ownBlock) : PbI g pb w' := ⟨h.1.grown hg (own_neB x.own h.1 (by decide)), h.2⟩
theorem PbI.seti {g pb j : Nat} {w w' : World} {v : Value} {cs : List Value} (h : PbI g pb w) (e : w.setCell ⟨j, 6, none⟩ v = w') (hb : HasB w j 35 cs) : PbI g pb w' := by
  subst e
  exact ⟨h.1.ofr ((Ofr.refl j none w).set 6 v) (h.1.ne hb (by decide)) (by simp), h.2⟩
theorem pbi_loc {g pb : Nat} {w wa w' : World} {c0 c1 c2 c3 c4 c5 c6 : Value} (h : PbI g pb w) (ea : w.alloc (.cells #[.int .i64 0, .int .i64 0, .int .i64 0, .int .i64 0, .string ⟨#[]⟩, .int .u32 0, .slice none 0 0] 35) = wa)
    (el : (((((((wa.setCell ⟨w.heap.size, 0, none⟩ c0).setCell ⟨w.heap.size, 1, none⟩ c1).setCell ⟨w.heap.size, 2, none⟩ c2).setCell ⟨w.heap.size, 3, none⟩ c3).setCell ⟨w.heap.size, 4, none⟩ c4).setCell ⟨w.heap.size, 5, none⟩ c5).setCell ⟨w.heap.size, 6, none⟩ c6) = w') : PbI g pb w' := by
  subst ea
  subst el
  have o := (((((((Ofr.refl w.heap.size none (w.alloc (.cells #[.int .i64 0, .int .i64 0, .int .i64 0, .int .i64 0, .string ⟨#[]⟩, .int .u32 0, .slice none 0 0] 35))).set 0 c0).set 1 c1).set 2 c2).set 3 c3).set 4 c4).set 5 c5).set 6 c6
  have h1 := h.bel (bel_al (Below.refl _ w) (.cells #[.int .i64 0, .int .i64 0, .int .i64 0, .int .i64 0, .string ⟨#[]⟩, .int .u32 0, .slice none 0 0] 35))
  exact ⟨h1.1.ofr o (by have := h.1.lt; omega) (by simp), h.2⟩
theorem ls_form {B n : Nat} {w : World} {lv : Value} {xs : List Value} (h : w.ownsRow B 3 1 lv n xs) : ∃ A c, lv = .slice A n c := by
  rcases h.2 with ⟨e, e2⟩ | ⟨b, cap, cur, e, _⟩
  · exact ⟨none, 0, by rw [e, e2]⟩
  · exact ⟨_, cap, e⟩
theorem pbi_all {B g pb j : Nat} {w0 wr w3 w4 w5 w6 : World} {S1 S2 : Sr} {l : List Int} {lv v : Value} {z : Int} {cs : List Value} (h : PbI g pb wr) (r : RdAt B g wr.drew S1) (s : Stp g S1 S2 wr.drew w3) (e4 : w3.alloc (.cells #[.int .i64 z] 3) = w4) (I : LsI B w0 w4 S2 l lv) (hg : w4.grownBy w5 lv.ownBlock) (e6 : w5.setCell ⟨j, 6, none⟩ v = w6) (hb : HasB w5 j 35 cs) : PbI g pb w6 := by
  have h1 : PbI g pb wr.drew := h
  have h3 := h1.call r s
  subst e4
  have h4 := h3.bel (bel_al (Below.refl _ w3) (.cells #[.int .i64 z] 3))
  exact (h4.grown I hg).seti e6 hb
set_option maxHeartbeats 16000000 in
theorem stats_B {B g n pb : Nat} (CT : Hid (CalT B g n)) {S : Sr} {w : World} (h : RdAt B g w S) (ip : PbI g pb w) (p : Pre n 2 S) (hgr : S.deep ≤ 100 ∨ S.great = true) : Calls Tryz.prog 39 #[.pointer (some ⟨g, 0, none⟩), .func (.func 100) #[] #[.pointer (some ⟨pb, 0, none⟩)]] w (RdP B g flB S w (bnd (grE (.L .nil 0 true) S.ws) fun b s d => must [125] s fun s3 => .ok (b, s3, d)) 0) := by
  have hmf : ∀ (fn : Fn) (first cap : Array Value) (w : World), (Instr.makeFunc fn first cap).run Tryz.prog w = .ok (.func fn first cap) w := fun _ _ _ _ => rfl
  have HH := Lib.hid h
  have HG := Lib.hid hgr
  have HP := Lib.hid p
  have HI := Lib.hid ip
  clear h p hgr ip
  obtain ⟨RES, hR⟩ : ∃ RES, Hid ((bnd (grE (.L .nil 0 true) S.ws) fun b s d => must [125] s fun s3 => .ok (b, s3, d)) = RES) := ⟨_, Lib.hid rfl⟩
  rw [hR.out]
  go_enter Tryz.func39, Tryz.ntmps39
  have CN := Lib.hid (node_any 13 w)
  go_wp2_with fail
  refine (CN.out).mono ?_; rintro e w1 ⟨rfl, b1⟩
  unfold ndA ndC nd1
  simp only
  obtain ⟨wa0, wl0, ea0, el0, HZ0, L0⟩ := loc_st (HH.out.ofr b1) (Stp.of (g := g) (S := S) b1) HH.out.hB (.int .i64 13) (.int .i64 (-1)) (.int .i64 (-1)) (.int .i64 (-1)) (.string (strB [])) (.int .u32 0) (.slice none 0 0)
  have z0 := HZ0.out.cell 0
  have y0 := HZ0.out.frozen 0
  have z1 := HZ0.out.cell 1
  have y1 := HZ0.out.frozen 1
  have z2 := HZ0.out.cell 2
  have y2 := HZ0.out.frozen 2
  have z3 := HZ0.out.cell 3
  have y3 := HZ0.out.frozen 3
  have z4 := HZ0.out.cell 4
  have y4 := HZ0.out.frozen 4
  have z5 := HZ0.out.cell 5
  have y5 := HZ0.out.frozen 5
  have z6 := HZ0.out.cell 6
  have y6 := HZ0.out.frozen 6
  simp only [ndZ, List.getElem?_cons_zero, List.getElem?_cons_succ] at z0 z1 z2 z3 z4 z5 z6
  have P0 := Lib.hid (pbi_loc (HI.out.bel b1) ea0 el0)
  clear CN b1
  go_wp2_with fail
  clear z0 z1 z2 z3 z4 z5 z6 y0 y1 y2 y3 y4 y5 y6
  clear ea0 el0 HZ0
  go_loopw [9] (fun _ wr => ∃ (b : Nd) (d : Nat) (S1 : Sr) (lv : Value), Hid (Loc B g S w S1 wr w1.heap.size [.int .i64 13, .int .i64 (-1), .int .i64 (-1), .int .i64 (-1), .string (strB []), .int .u32 0, lv]) ∧ Hid (LsI B w wr S1 (lst S.N.length b) lv) ∧ Hid (BkI S w b d S1) ∧ Hid (grE (.L b d true) S1.ws = grE (.L .nil 0 true) S.ws) ∧ Hid (PbI g pb wr)) (fun _ wr => 4000 - (intOf ((wr.cell? ⟨g, 1, none⟩).getD undef)).toNat)
  case atStart => exact ⟨.nil, 0, S, _, L0, Lib.hid (LsI.nil _ _ _ _), Lib.hid (BkI.start HG.out), Lib.hid rfl, P0⟩
  case round =>
    obtain ⟨b, d, S1, lv, L1, I1, HB, HE, HP1⟩ := hrel
    clear L0 P0 HI
    have HR1 := Lib.hid L1.out.r
    have hm : intOf ((wr.cell? ⟨g, 1, none⟩).getD undef) = (S1.k : Int) := by rw [HR1.out.c1]; rfl
    have CO := Lib.hid (over_B HR1.out HP1.out)
    rw [hm]
    clear hm
    cases hb2 : hdW [125] S1.ws with
    | true =>
      have hu := Lib.hid (up_ws (t := [125]) HR1.out.le hb2)
      rw [hb2] at CO
      simp only [if_true] at CO
      have hX : RES = .ok (b, S1.ws.tail, d) := by rw [← hR.out, ← HE.out, grL_1 hb2, bnd_is rfl, must_yes hb2]
      replace hX := Lib.hid hX
      go_wp2_with fail
      refine (CO.out).mono ?_; rintro e w2 ⟨rfl, R2, T2⟩
      have L2 := Lib.hid (L1.out.call R2 T2)
      have I2 := Lib.hid (I1.out.call HR1.out T2 (LsN.refl _ _ : LsN wr S1 S1.up))
      clear R2 T2 CO
      have n0 := L2.out.h.cell 0
      have n1 := L2.out.h.cell 1
      have n2 := L2.out.h.cell 2
      have n3 := L2.out.h.cell 3
      have n4 := L2.out.h.cell 4
      have n5 := L2.out.h.cell 5
      have n6 := L2.out.h.cell 6
      simp only [List.getElem?_cons_zero, List.getElem?_cons_succ] at n0 n1 n2 n3 n4 n5 n6
      have CA := Lib.hid (add_any L2.out.r ⟨13, -1, -1, -1, [], 0, lst S.N.length b⟩ lv I2.out.own (show S1.up.N.length < 5000 by have := (HB.out.pre HP.out).N; have := few_of HR1.out; show S1.N.length < 5000; omega))
      simp only [ndA, ndC, AddP] at CA
      go_wp2_with fail
      refine (CA.out).mono ?_; rintro e w6 ⟨nv, rfl, R6, T6⟩
      have FIN := Lib.hid (BkI.fin HB.out.up R6 (L2.out.s.trans T6) I2.out.new)
      have hv := Lib.hid (HB.out.up.rt)
      clear R6 T6 CA
      go_wp2
      go_ret
      rw [hX.out]
      exact ⟨_, by rw [← hv.out]; rfl, FIN.out.st HB.out.gb, hu.out⟩
    | false =>
      rw [hb2] at CO
      simp only [Bool.false_eq_true, if_false] at CO
      cases rT : grE .T S1.ws with
      | error k =>
        have hX : RES = .error k := by rw [← hR.out, ← HE.out, grB_E hb2 rT]
        replace hX := Lib.hid hX
        go_wp2_with fail
        refine (CO.out).mono ?_; rintro e wr2 ⟨rfl, R2, T2⟩
        have L2 := Lib.hid (L1.out.call R2 T2)
        have I2 := Lib.hid (I1.out.call HR1.out T2 (LsN.refl _ _ : LsN wr S1 S1))
        have HP2 := Lib.hid (HP1.out.call HR1.out T2)
        have HR2 := Lib.hid R2
        clear R2 T2 CO L1 I1 HP1 HR1
        have L1 := L2
        have I1 := I2
        have HP1 := HP2
        have HR1 := HR2
        clear L2 I2 HP2 HR2
        have hsz : wr2.drew.heap.size = wr2.heap.size := rfl
        have CW : Hid (Calls Tryz.prog 57 #[.pointer (some ⟨g, 0, none⟩), .func (.func 58) #[.pointer (some ⟨g, 0, none⟩)] #[]] wr2.drew (RdP B g fl S1 wr2.drew (grE .T S1.ws) 0) ∧ True) := Lib.hid ⟨within_T (F := fl) (HR1.out.ofr (below_drewP (Below.refl _ wr2))) ((HB.out.pre HP.out).deep HR1.out (by omega)) (grE .T S1.ws) (fun x s d e => dT1 e) (fun w1 r1 => CT.out S1.dn w1 r1 ((HB.out.pre HP.out).dn 3 (by omega)) (dn_gr S1)), trivial⟩
        rw [rT] at CW
        obtain ⟨A5, c5, e5⟩ : ∃ A c, lv = .slice A (lst S.N.length b).length c := ls_form I1.out.own
        subst e5
        have hlv : Hid (True) := Lib.hid trivial
        have g6 := L1.out.h.cell 6
        have pf6 := L1.out.h.frozen 6
        simp only [List.getElem?_cons_zero, List.getElem?_cons_succ] at g6
        go_wp2_with fail
        refine wp_region_held_drew (S := (fun _ => True)) (by kernel_rfl) ?_ (fun hHeld => ?_)
        · (try dsimp only)
          all_goals trivial
        refine wpAnyH_take (i := 0) (oi := { dst := some 10, op := Op.fieldAddr 35 (Operand.tmp 5) 6, type := 0, pos := "read.go:100", after := #[], guard := none }) (v := ?_) rfl (by kernel_rfl) (by kernel_rfl) (by kernel_rfl) (fun _ _ _ h => h) (Or.inl ⟨by rfl, ?_⟩) (by assumption) ?_
        rotate_left
        · intro w hSw; (try dsimp only at hSw); go_simp <;> (with_reducible rfl)
        (try simp only [Act.put, List.setIfInBounds_toArray, List.set_cons_zero, List.set_cons_succ])
        refine wpAnyH_take (i := 2) (oi := { dst := some 12, op := Op.move (Operand.tmp 0), type := 41, pos := "read.go:100", after := #[], guard := none }) (v := ?_) rfl (by kernel_rfl) (by kernel_rfl) (by kernel_rfl) (fun _ _ _ h => h) (Or.inl ⟨by rfl, ?_⟩) (by assumption) ?_
        rotate_left
        · intro w hSw; (try dsimp only at hSw); go_simp <;> (with_reducible rfl)
        (try simp only [Act.put, List.setIfInBounds_toArray, List.set_cons_zero, List.set_cons_succ])
        refine wpAnyH_take (i := 3) (oi := { dst := some 13, op := Op.move (Operand.tmp 0), type := 41, pos := "read.go:100", after := #[], guard := none }) (v := ?_) rfl (by kernel_rfl) (by kernel_rfl) (by kernel_rfl) (fun _ _ _ h => h) (Or.inl ⟨by rfl, ?_⟩) (by assumption) ?_
        rotate_left
        · intro w hSw; (try dsimp only at hSw); go_simp <;> (with_reducible rfl)
        (try simp only [Act.put, List.setIfInBounds_toArray, List.set_cons_zero, List.set_cons_succ])
        refine wpAnyH_take (i := 4) (oi := { dst := some 14, op := Op.makeFunc (Fn.func 58) #[Operand.tmp 13] #[], type := 80, pos := "read.go:100", after := #[{ on := 3, ground := Ground.data }], guard := none }) (v := ?_) rfl (by kernel_rfl) (by kernel_rfl) (by kernel_rfl) (fun _ _ _ h => h) (Or.inl ⟨by rfl, ?_⟩) (by assumption) ?_
        rotate_left
        · intro w hSw; (try dsimp only at hSw); go_simp <;> (with_reducible rfl)
        (try simp only [Act.put, List.setIfInBounds_toArray, List.set_cons_zero, List.set_cons_succ])
        refine wpAnyH_ready (rs := [1, 5]) (by kernel_rfl) (by simp) ?_
        refine AllReadyH.cons (o := { dst := some 11, op := Op.load 33 (Operand.tmp 10), type := 33, pos := "read.go:100", after := #[{ on := 0, ground := Ground.data }], guard := none }) rfl (fun K hK => ?_) ?_
        · go_simp
          refine hK.out _ _ ?_ (fun hHeld => ?_)
          · (try dsimp only)
            all_goals trivial
          clear hK K
          (try simp only [Act.put, List.setIfInBounds_toArray, List.set_cons_zero, List.set_cons_succ])
          refine wpAnyH_ready (rs := [5]) (by kernel_rfl) (by simp) ?_
          refine AllReadyH.cons (o := { dst := some 15, op := Op.call { callee := Callee.value (Operand.func 57), args := #[Operand.tmp 12, Operand.tmp 14], argTypes := #[41, 80] }, type := 3, pos := "read.go:100", after := #[{ on := 2, ground := Ground.data }, { on := 4, ground := Ground.data }], guard := none }) rfl (fun K hK => ?_) ?_
          · go_simp
            (with_reducible refine (CW.out.1).mono ?_); rintro e w3 he
            obtain ⟨rfl, o3⟩ := he
            have FIN : Hid (RdP B g flB S w RES 0 (pan (S1.W.length - k)) w3) := Lib.hid (by rw [hX.out]; exact rd_er (L1.out.s.trans (Stp.of (below_drewP (Below.refl _ _)))) ⟨rfl, o3⟩)
            clear o3 CW
            unfold pan at FIN ⊢
            go_wp2
            first | exact FIN.out | exact ⟨rfl, FIN.out⟩
          exact AllReadyH.nil
        refine AllReadyH.cons (o := { dst := some 15, op := Op.call { callee := Callee.value (Operand.func 57), args := #[Operand.tmp 12, Operand.tmp 14], argTypes := #[41, 80] }, type := 3, pos := "read.go:100", after := #[{ on := 2, ground := Ground.data }, { on := 4, ground := Ground.data }], guard := none }) rfl (fun K hK => ?_) ?_
        · go_simp
          (with_reducible refine (CW.out.1).mono ?_); rintro e w3 he
          obtain ⟨rfl, o3⟩ := he
          have FIN : Hid (RdP B g flB S w RES 0 (pan (S1.W.length - k)) w3) := Lib.hid (by rw [hX.out]; exact rd_er (L1.out.s.trans (Stp.of (below_drewP (Below.refl _ _)))) ⟨rfl, o3⟩)
          clear o3 CW
          unfold pan at FIN ⊢
          go_wp2
          first | exact FIN.out | exact ⟨rfl, FIN.out⟩
        exact AllReadyH.nil
      | ok y =>
        obtain ⟨a, s, d2⟩ := y
        go_wp2_with fail
        refine (CO.out).mono ?_; rintro e wr2 ⟨rfl, R2, T2⟩
        have L2 := Lib.hid (L1.out.call R2 T2)
        have I2 := Lib.hid (I1.out.call HR1.out T2 (LsN.refl _ _ : LsN wr S1 S1))
        have HP2 := Lib.hid (HP1.out.call HR1.out T2)
        have HR2 := Lib.hid R2
        clear R2 T2 CO L1 I1 HP1 HR1
        have L1 := L2
        have I1 := I2
        have HP1 := HP2
        have HR1 := HR2
        clear L2 I2 HP2 HR2
        have hsz : wr2.drew.heap.size = wr2.heap.size := rfl
        have CW : Hid (Calls Tryz.prog 57 #[.pointer (some ⟨g, 0, none⟩), .func (.func 58) #[.pointer (some ⟨g, 0, none⟩)] #[]] wr2.drew (RdP B g fl S1 wr2.drew (grE .T S1.ws) 0) ∧ True) := Lib.hid ⟨within_T (F := fl) (HR1.out.ofr (below_drewP (Below.refl _ wr2))) ((HB.out.pre HP.out).deep HR1.out (by omega)) (grE .T S1.ws) (fun x s d e => dT1 e) (fun w1 r1 => CT.out S1.dn w1 r1 ((HB.out.pre HP.out).dn 3 (by omega)) (dn_gr S1)), trivial⟩
        rw [rT] at CW
        obtain ⟨A5, c5, e5⟩ : ∃ A c, lv = .slice A (lst S.N.length b).length c := ls_form I1.out.own
        subst e5
        have hlv : Hid (True) := Lib.hid trivial
        have g6 := L1.out.h.cell 6
        have pf6 := L1.out.h.frozen 6
        simp only [List.getElem?_cons_zero, List.getElem?_cons_succ] at g6
        go_wp2_with fail
        refine wp_region_noPanic ?_
        refine wp_region_held_drew (S := (fun _ => True)) (by kernel_rfl) ?_ (fun hHeld => ?_)
        · (try dsimp only)
          all_goals trivial
        refine wpAnyH_take (i := 0) (oi := { dst := some 10, op := Op.fieldAddr 35 (Operand.tmp 5) 6, type := 0, pos := "read.go:100", after := #[], guard := none }) (v := ?_) rfl (by kernel_rfl) (by kernel_rfl) (by kernel_rfl) (fun _ _ _ h => h) (Or.inl ⟨by rfl, ?_⟩) (by assumption) ?_
        rotate_left
        · intro w hSw; (try dsimp only at hSw); go_simp <;> (with_reducible rfl)
        (try simp only [Act.put, List.setIfInBounds_toArray, List.set_cons_zero, List.set_cons_succ])
        refine wpAnyH_take (i := 2) (oi := { dst := some 12, op := Op.move (Operand.tmp 0), type := 41, pos := "read.go:100", after := #[], guard := none }) (v := ?_) rfl (by kernel_rfl) (by kernel_rfl) (by kernel_rfl) (fun _ _ _ h => h) (Or.inl ⟨by rfl, ?_⟩) (by assumption) ?_
        rotate_left
        · intro w hSw; (try dsimp only at hSw); go_simp <;> (with_reducible rfl)
        (try simp only [Act.put, List.setIfInBounds_toArray, List.set_cons_zero, List.set_cons_succ])
        refine wpAnyH_take (i := 3) (oi := { dst := some 13, op := Op.move (Operand.tmp 0), type := 41, pos := "read.go:100", after := #[], guard := none }) (v := ?_) rfl (by kernel_rfl) (by kernel_rfl) (by kernel_rfl) (fun _ _ _ h => h) (Or.inl ⟨by rfl, ?_⟩) (by assumption) ?_
        rotate_left
        · intro w hSw; (try dsimp only at hSw); go_simp <;> (with_reducible rfl)
        (try simp only [Act.put, List.setIfInBounds_toArray, List.set_cons_zero, List.set_cons_succ])
        refine wpAnyH_take (i := 4) (oi := { dst := some 14, op := Op.makeFunc (Fn.func 58) #[Operand.tmp 13] #[], type := 80, pos := "read.go:100", after := #[{ on := 3, ground := Ground.data }], guard := none }) (v := ?_) rfl (by kernel_rfl) (by kernel_rfl) (by kernel_rfl) (fun _ _ _ h => h) (Or.inl ⟨by rfl, ?_⟩) (by assumption) ?_
        rotate_left
        · intro w hSw; (try dsimp only at hSw); go_simp <;> (with_reducible rfl)
        (try simp only [Act.put, List.setIfInBounds_toArray, List.set_cons_zero, List.set_cons_succ])
        refine wpAnyH_ready (rs := [1, 5]) (by kernel_rfl) (by simp) ?_
        refine AllReadyH.cons (o := { dst := some 11, op := Op.load 33 (Operand.tmp 10), type := 33, pos := "read.go:100", after := #[{ on := 0, ground := Ground.data }], guard := none }) rfl (fun K hK => ?_) ?_
        · go_simp
          refine hK.out _ _ ?_ (fun hHeld => ?_)
          · (try dsimp only)
            all_goals trivial
          clear hK K
          (try simp only [Act.put, List.setIfInBounds_toArray, List.set_cons_zero, List.set_cons_succ])
          refine wpAnyH_ready (rs := [5]) (by kernel_rfl) (by simp) ?_
          refine AllReadyH.cons (o := { dst := some 15, op := Op.call { callee := Callee.value (Operand.func 57), args := #[Operand.tmp 12, Operand.tmp 14], argTypes := #[41, 80] }, type := 3, pos := "read.go:100", after := #[{ on := 2, ground := Ground.data }, { on := 4, ground := Ground.data }], guard := none }) rfl (fun K hK => ?_) ?_
          · go_simp
            (with_reducible refine (CW.out.1).mono ?_); rintro e w3 ⟨S2, rfl, R2, hs2⟩
            go_wp2_with fail
            have R2 := Lib.hid R2
            have L3 := Lib.hid ((L1.out.bel (below_drewP (Below.refl _ wr2))).call R2.out.r R2.out.s)
            have I3 := Lib.hid ((I1.out.bel (below_drewP (Below.refl _ wr2))).call (HR1.out.ofr (below_drewP (Below.refl _ wr2))) R2.out.s R2.out.ls)
            have l6 := L3.out.h.cell 6
            have p6 := L3.out.h.frozen 6
            simp only [List.getElem?_cons_zero, List.getElem?_cons_succ] at l6
            obtain ⟨z, hz⟩ : ∃ z, Hid (rt S1.N.length a = z) := ⟨_, Lib.hid rfl⟩
            rw [hz.out]
            obtain ⟨w4, e4, Q4, B4⟩ : ∃ w4, w3.alloc (.cells #[.int .i64 z] 3) = w4 ∧ Hid (HasB w4 w3.heap.size 3 [.int .i64 z]) ∧ Hid (Below w3.heap.size w3 w4) := ⟨_, rfl, Lib.hid (HasB.new _ _ _), Lib.hid (bel_al (Below.refl _ _) _)⟩
            have L4 := Lib.hid (L3.out.bel B4.out)
            have I4 := Lib.hid (I3.out.bel B4.out)
            have k6 := L4.out.h.cell 6
            simp only [List.getElem?_cons_zero, List.getElem?_cons_succ] at k6
            refine hK.out _ _ ?_ (fun hHeld => ?_)
            · (try dsimp only)
              all_goals trivial
            clear hK K
            (try simp only [Act.put, List.setIfInBounds_toArray, List.set_cons_zero, List.set_cons_succ])
            refine wpAnyH_ready (rs := [6]) (by kernel_rfl) (by simp) ?_
            refine AllReadyH.cons (o := { dst := some 16, op := Op.buildSlice 33 1 #[(0, Operand.tmp 15)], type := 33, pos := "read.go:100", after := #[{ on := 5, ground := Ground.data }], guard := none }) rfl (fun K hK => ?_) ?_
            · go_simp
              refine hK.out _ _ ?_ (fun hHeld => ?_)
              · (try dsimp only)
                all_goals trivial
              clear hK K
              (try simp only [Act.put, List.setIfInBounds_toArray, List.set_cons_zero, List.set_cons_succ])
              refine wpAnyH_ready (rs := [7]) (by kernel_rfl) (by simp) ?_
              refine AllReadyH.cons (o := { dst := some 17, op := Op.call { callee := Callee.builtin Builtin.append, args := #[Operand.tmp 11, Operand.tmp 16], argTypes := #[33, 33] }, type := 33, pos := "read.go:100", after := #[{ on := 1, ground := Ground.data }, { on := 6, ground := Ground.data }, { on := 5, ground := Ground.chain }], guard := none }) rfl (fun K hK => ?_) ?_
              · refine app_ls (.tmp 11) (.tmp 16) rfl L4.out I4.out rfl z w3.heap.size rfl Q4.out (by have := HB.out.ll; have := few_of HR1.out; omega) ?_
                intro A9 c9 w5 L5 I5 hs5 hg5
                have L5 := Lib.hid L5
                have I5 := Lib.hid I5
                have m6 := L5.out.h.cell 6
                have p6' := L5.out.h.frozen 6
                simp only [List.getElem?_cons_zero, List.getElem?_cons_succ] at m6
                refine hK.out _ _ ?_ (fun hHeld => ?_)
                · (try dsimp only)
                  all_goals trivial
                clear hK K
                (try simp only [Act.put, List.setIfInBounds_toArray, List.set_cons_zero, List.set_cons_succ])
                refine wpAnyH_take (i := 8) (oi := { dst := some 18, op := Op.fieldAddr 35 (Operand.tmp 5) 6, type := 0, pos := "read.go:100", after := #[{ on := 0, ground := Ground.phase }, { on := 1, ground := Ground.phase }, { on := 2, ground := Ground.phase }, { on := 3, ground := Ground.phase }, { on := 4, ground := Ground.phase }, { on := 5, ground := Ground.phase }, { on := 6, ground := Ground.phase }, { on := 7, ground := Ground.phase }], guard := none }) (v := ?_) rfl (by kernel_rfl) (by kernel_rfl) (by kernel_rfl) (fun _ _ _ h => h) (Or.inl ⟨by rfl, ?_⟩) (by assumption) ?_
                rotate_left
                · intro w hSw; (try dsimp only at hSw); go_simp <;> (with_reducible rfl)
                (try simp only [Act.put, List.setIfInBounds_toArray, List.set_cons_zero, List.set_cons_succ])
                refine wpAnyH_ready (rs := [9]) (by kernel_rfl) (by simp) ?_
                refine AllReadyH.cons (o := { dst := none, op := Op.store 33 (Operand.tmp 18) (Operand.tmp 17), type := 0, pos := "read.go:100", after := #[{ on := 8, ground := Ground.data }, { on := 7, ground := Ground.data }, { on := 7, ground := Ground.chain }, { on := 0, ground := Ground.phase }, { on := 1, ground := Ground.phase }, { on := 2, ground := Ground.phase }, { on := 3, ground := Ground.phase }, { on := 4, ground := Ground.phase }, { on := 5, ground := Ground.phase }, { on := 6, ground := Ground.phase }, { on := 7, ground := Ground.phase }], guard := none }) rfl (fun K hK => ?_) ?_
                · go_simp
                  refine hK.out _ _ ?_ (fun hHeld => ?_)
                  · (try dsimp only)
                    all_goals trivial
                  clear hK K
                  (try simp only [Act.put, List.setIfInBounds_toArray, List.set_cons_zero, List.set_cons_succ])
                  refine wpAnyH_done (by kernel_rfl) ?_ _
                  refine NoPanic.normal ?_
                  obtain ⟨w6, e6, L6⟩ := L5.out.set 6 (.slice A9 ((lst S.N.length b).length + 1) c9)
                  simp only [List.set_cons_zero, List.set_cons_succ] at L6
                  have I6 := Lib.hid (show LsI B w w6 S2 (lst S.N.length (.snoc b a)) (.slice A9 ((lst S.N.length b).length + 1) c9) from ls_fin HB.out.cnt hz.out (I5.out.seti e6 L5.out.h))
                  have B6 := Lib.hid (HB.out.snoc R2.out L1.out.s.fr.size)
                  have P6 := Lib.hid (pbi_all HP1.out (HR1.out.ofr (below_drewP (Below.refl _ wr2))) R2.out.s e4 I4.out hg5 e6 L5.out.h)
                  have hk6 : S1.k < S2.k := by have := R2.out.gb; have := R2.out.cnt; have := cnt_pos a; omega
                  have hk7 := few_of L6.out.r
                  have hE6 := Lib.hid (show grE (.L (.snoc b a) (max d d2) true) S2.ws = grE (.L .nil 0 true) S.ws by rw [hs2, ← HE.out, grL_T (by rw [hb2]; rfl) rT])
                  have hm2 : intOf ((w6.cell? ⟨g, 1, none⟩).getD undef) = (S2.k : Int) := by rw [L6.out.r.c1]; rfl
                  clear L5 I5 L4 I4 L3 I3
                  go_wp2
                  rw [e6]
                  refine ⟨⟨.snoc b a, max d d2, S2, _, L6, I6, B6, hE6, P6⟩, ?_⟩
                  rw [hm2]
                  omega
                exact AllReadyH.nil
              exact AllReadyH.nil
            exact AllReadyH.nil
          exact AllReadyH.nil
        refine AllReadyH.cons (o := { dst := some 15, op := Op.call { callee := Callee.value (Operand.func 57), args := #[Operand.tmp 12, Operand.tmp 14], argTypes := #[41, 80] }, type := 3, pos := "read.go:100", after := #[{ on := 2, ground := Ground.data }, { on := 4, ground := Ground.data }], guard := none }) rfl (fun K hK => ?_) ?_
        · go_simp
          (with_reducible refine (CW.out.1).mono ?_); rintro e w3 ⟨S2, rfl, R2, hs2⟩
          go_wp2_with fail
          have R2 := Lib.hid R2
          have L3 := Lib.hid ((L1.out.bel (below_drewP (Below.refl _ wr2))).call R2.out.r R2.out.s)
          have I3 := Lib.hid ((I1.out.bel (below_drewP (Below.refl _ wr2))).call (HR1.out.ofr (below_drewP (Below.refl _ wr2))) R2.out.s R2.out.ls)
          have l6 := L3.out.h.cell 6
          have p6 := L3.out.h.frozen 6
          simp only [List.getElem?_cons_zero, List.getElem?_cons_succ] at l6
          obtain ⟨z, hz⟩ : ∃ z, Hid (rt S1.N.length a = z) := ⟨_, Lib.hid rfl⟩
          rw [hz.out]
          obtain ⟨w4, e4, Q4, B4⟩ : ∃ w4, w3.alloc (.cells #[.int .i64 z] 3) = w4 ∧ Hid (HasB w4 w3.heap.size 3 [.int .i64 z]) ∧ Hid (Below w3.heap.size w3 w4) := ⟨_, rfl, Lib.hid (HasB.new _ _ _), Lib.hid (bel_al (Below.refl _ _) _)⟩
          have L4 := Lib.hid (L3.out.bel B4.out)
          have I4 := Lib.hid (I3.out.bel B4.out)
          have k6 := L4.out.h.cell 6
          simp only [List.getElem?_cons_zero, List.getElem?_cons_succ] at k6
          refine hK.out _ _ ?_ (fun hHeld => ?_)
          · (try dsimp only)
            all_goals trivial
          clear hK K
          (try simp only [Act.put, List.setIfInBounds_toArray, List.set_cons_zero, List.set_cons_succ])
          refine wpAnyH_ready (rs := [1, 6]) (by kernel_rfl) (by simp) ?_
          refine AllReadyH.cons (o := { dst := some 11, op := Op.load 33 (Operand.tmp 10), type := 33, pos := "read.go:100", after := #[{ on := 0, ground := Ground.data }], guard := none }) rfl (fun K hK => ?_) ?_
          · go_simp
            refine hK.out _ _ ?_ (fun hHeld => ?_)
            · (try dsimp only)
              all_goals trivial
            clear hK K
            (try simp only [Act.put, List.setIfInBounds_toArray, List.set_cons_zero, List.set_cons_succ])
            refine wpAnyH_ready (rs := [6]) (by kernel_rfl) (by simp) ?_
            refine AllReadyH.cons (o := { dst := some 16, op := Op.buildSlice 33 1 #[(0, Operand.tmp 15)], type := 33, pos := "read.go:100", after := #[{ on := 5, ground := Ground.data }], guard := none }) rfl (fun K hK => ?_) ?_
            · go_simp
              refine hK.out _ _ ?_ (fun hHeld => ?_)
              · (try dsimp only)
                all_goals trivial
              clear hK K
              (try simp only [Act.put, List.setIfInBounds_toArray, List.set_cons_zero, List.set_cons_succ])
              refine wpAnyH_ready (rs := [7]) (by kernel_rfl) (by simp) ?_
              refine AllReadyH.cons (o := { dst := some 17, op := Op.call { callee := Callee.builtin Builtin.append, args := #[Operand.tmp 11, Operand.tmp 16], argTypes := #[33, 33] }, type := 33, pos := "read.go:100", after := #[{ on := 1, ground := Ground.data }, { on := 6, ground := Ground.data }, { on := 5, ground := Ground.chain }], guard := none }) rfl (fun K hK => ?_) ?_
              · refine app_ls (.tmp 11) (.tmp 16) rfl L4.out I4.out rfl z w3.heap.size rfl Q4.out (by have := HB.out.ll; have := few_of HR1.out; omega) ?_
                intro A9 c9 w5 L5 I5 hs5 hg5
                have L5 := Lib.hid L5
                have I5 := Lib.hid I5
                have m6 := L5.out.h.cell 6
                have p6' := L5.out.h.frozen 6
                simp only [List.getElem?_cons_zero, List.getElem?_cons_succ] at m6
                refine hK.out _ _ ?_ (fun hHeld => ?_)
                · (try dsimp only)
                  all_goals trivial
                clear hK K
                (try simp only [Act.put, List.setIfInBounds_toArray, List.set_cons_zero, List.set_cons_succ])
                refine wpAnyH_take (i := 8) (oi := { dst := some 18, op := Op.fieldAddr 35 (Operand.tmp 5) 6, type := 0, pos := "read.go:100", after := #[{ on := 0, ground := Ground.phase }, { on := 1, ground := Ground.phase }, { on := 2, ground := Ground.phase }, { on := 3, ground := Ground.phase }, { on := 4, ground := Ground.phase }, { on := 5, ground := Ground.phase }, { on := 6, ground := Ground.phase }, { on := 7, ground := Ground.phase }], guard := none }) (v := ?_) rfl (by kernel_rfl) (by kernel_rfl) (by kernel_rfl) (fun _ _ _ h => h) (Or.inl ⟨by rfl, ?_⟩) (by assumption) ?_
                rotate_left
                · intro w hSw; (try dsimp only at hSw); go_simp <;> (with_reducible rfl)
                (try simp only [Act.put, List.setIfInBounds_toArray, List.set_cons_zero, List.set_cons_succ])
                refine wpAnyH_ready (rs := [9]) (by kernel_rfl) (by simp) ?_
                refine AllReadyH.cons (o := { dst := none, op := Op.store 33 (Operand.tmp 18) (Operand.tmp 17), type := 0, pos := "read.go:100", after := #[{ on := 8, ground := Ground.data }, { on := 7, ground := Ground.data }, { on := 7, ground := Ground.chain }, { on := 0, ground := Ground.phase }, { on := 1, ground := Ground.phase }, { on := 2, ground := Ground.phase }, { on := 3, ground := Ground.phase }, { on := 4, ground := Ground.phase }, { on := 5, ground := Ground.phase }, { on := 6, ground := Ground.phase }, { on := 7, ground := Ground.phase }], guard := none }) rfl (fun K hK => ?_) ?_
                · go_simp
                  refine hK.out _ _ ?_ (fun hHeld => ?_)
                  · (try dsimp only)
                    all_goals trivial
                  clear hK K
                  (try simp only [Act.put, List.setIfInBounds_toArray, List.set_cons_zero, List.set_cons_succ])
                  refine wpAnyH_done (by kernel_rfl) ?_ _
                  refine NoPanic.normal ?_
                  obtain ⟨w6, e6, L6⟩ := L5.out.set 6 (.slice A9 ((lst S.N.length b).length + 1) c9)
                  simp only [List.set_cons_zero, List.set_cons_succ] at L6
                  have I6 := Lib.hid (show LsI B w w6 S2 (lst S.N.length (.snoc b a)) (.slice A9 ((lst S.N.length b).length + 1) c9) from ls_fin HB.out.cnt hz.out (I5.out.seti e6 L5.out.h))
                  have B6 := Lib.hid (HB.out.snoc R2.out L1.out.s.fr.size)
                  have P6 := Lib.hid (pbi_all HP1.out (HR1.out.ofr (below_drewP (Below.refl _ wr2))) R2.out.s e4 I4.out hg5 e6 L5.out.h)
                  have hk6 : S1.k < S2.k := by have := R2.out.gb; have := R2.out.cnt; have := cnt_pos a; omega
                  have hk7 := few_of L6.out.r
                  have hE6 := Lib.hid (show grE (.L (.snoc b a) (max d d2) true) S2.ws = grE (.L .nil 0 true) S.ws by rw [hs2, ← HE.out, grL_T (by rw [hb2]; rfl) rT])
                  have hm2 : intOf ((w6.cell? ⟨g, 1, none⟩).getD undef) = (S2.k : Int) := by rw [L6.out.r.c1]; rfl
                  clear L5 I5 L4 I4 L3 I3
                  go_wp2
                  rw [e6]
                  refine ⟨⟨.snoc b a, max d d2, S2, _, L6, I6, B6, hE6, P6⟩, ?_⟩
                  rw [hm2]
                  omega
                exact AllReadyH.nil
              exact AllReadyH.nil
            exact AllReadyH.nil
          refine AllReadyH.cons (o := { dst := some 16, op := Op.buildSlice 33 1 #[(0, Operand.tmp 15)], type := 33, pos := "read.go:100", after := #[{ on := 5, ground := Ground.data }], guard := none }) rfl (fun K hK => ?_) ?_
          · go_simp
            refine hK.out _ _ ?_ (fun hHeld => ?_)
            · (try dsimp only)
              all_goals trivial
            clear hK K
            (try simp only [Act.put, List.setIfInBounds_toArray, List.set_cons_zero, List.set_cons_succ])
            refine wpAnyH_ready (rs := [1]) (by kernel_rfl) (by simp) ?_
            refine AllReadyH.cons (o := { dst := some 11, op := Op.load 33 (Operand.tmp 10), type := 33, pos := "read.go:100", after := #[{ on := 0, ground := Ground.data }], guard := none }) rfl (fun K hK => ?_) ?_
            · go_simp
              refine hK.out _ _ ?_ (fun hHeld => ?_)
              · (try dsimp only)
                all_goals trivial
              clear hK K
              (try simp only [Act.put, List.setIfInBounds_toArray, List.set_cons_zero, List.set_cons_succ])
              refine wpAnyH_ready (rs := [7]) (by kernel_rfl) (by simp) ?_
              refine AllReadyH.cons (o := { dst := some 17, op := Op.call { callee := Callee.builtin Builtin.append, args := #[Operand.tmp 11, Operand.tmp 16], argTypes := #[33, 33] }, type := 33, pos := "read.go:100", after := #[{ on := 1, ground := Ground.data }, { on := 6, ground := Ground.data }, { on := 5, ground := Ground.chain }], guard := none }) rfl (fun K hK => ?_) ?_
              · refine app_ls (.tmp 11) (.tmp 16) rfl L4.out I4.out rfl z w3.heap.size rfl Q4.out (by have := HB.out.ll; have := few_of HR1.out; omega) ?_
                intro A9 c9 w5 L5 I5 hs5 hg5
                have L5 := Lib.hid L5
                have I5 := Lib.hid I5
                have m6 := L5.out.h.cell 6
                have p6' := L5.out.h.frozen 6
                simp only [List.getElem?_cons_zero, List.getElem?_cons_succ] at m6
                refine hK.out _ _ ?_ (fun hHeld => ?_)
                · (try dsimp only)
                  all_goals trivial
                clear hK K
                (try simp only [Act.put, List.setIfInBounds_toArray, List.set_cons_zero, List.set_cons_succ])
                refine wpAnyH_take (i := 8) (oi := { dst := some 18, op := Op.fieldAddr 35 (Operand.tmp 5) 6, type := 0, pos := "read.go:100", after := #[{ on := 0, ground := Ground.phase }, { on := 1, ground := Ground.phase }, { on := 2, ground := Ground.phase }, { on := 3, ground := Ground.phase }, { on := 4, ground := Ground.phase }, { on := 5, ground := Ground.phase }, { on := 6, ground := Ground.phase }, { on := 7, ground := Ground.phase }], guard := none }) (v := ?_) rfl (by kernel_rfl) (by kernel_rfl) (by kernel_rfl) (fun _ _ _ h => h) (Or.inl ⟨by rfl, ?_⟩) (by assumption) ?_
                rotate_left
                · intro w hSw; (try dsimp only at hSw); go_simp <;> (with_reducible rfl)
                (try simp only [Act.put, List.setIfInBounds_toArray, List.set_cons_zero, List.set_cons_succ])
                refine wpAnyH_ready (rs := [9]) (by kernel_rfl) (by simp) ?_
                refine AllReadyH.cons (o := { dst := none, op := Op.store 33 (Operand.tmp 18) (Operand.tmp 17), type := 0, pos := "read.go:100", after := #[{ on := 8, ground := Ground.data }, { on := 7, ground := Ground.data }, { on := 7, ground := Ground.chain }, { on := 0, ground := Ground.phase }, { on := 1, ground := Ground.phase }, { on := 2, ground := Ground.phase }, { on := 3, ground := Ground.phase }, { on := 4, ground := Ground.phase }, { on := 5, ground := Ground.phase }, { on := 6, ground := Ground.phase }, { on := 7, ground := Ground.phase }], guard := none }) rfl (fun K hK => ?_) ?_
                · go_simp
                  refine hK.out _ _ ?_ (fun hHeld => ?_)
                  · (try dsimp only)
                    all_goals trivial
                  clear hK K
                  (try simp only [Act.put, List.setIfInBounds_toArray, List.set_cons_zero, List.set_cons_succ])
                  refine wpAnyH_done (by kernel_rfl) ?_ _
                  refine NoPanic.normal ?_
                  obtain ⟨w6, e6, L6⟩ := L5.out.set 6 (.slice A9 ((lst S.N.length b).length + 1) c9)
                  simp only [List.set_cons_zero, List.set_cons_succ] at L6
                  have I6 := Lib.hid (show LsI B w w6 S2 (lst S.N.length (.snoc b a)) (.slice A9 ((lst S.N.length b).length + 1) c9) from ls_fin HB.out.cnt hz.out (I5.out.seti e6 L5.out.h))
                  have B6 := Lib.hid (HB.out.snoc R2.out L1.out.s.fr.size)
                  have P6 := Lib.hid (pbi_all HP1.out (HR1.out.ofr (below_drewP (Below.refl _ wr2))) R2.out.s e4 I4.out hg5 e6 L5.out.h)
                  have hk6 : S1.k < S2.k := by have := R2.out.gb; have := R2.out.cnt; have := cnt_pos a; omega
                  have hk7 := few_of L6.out.r
                  have hE6 := Lib.hid (show grE (.L (.snoc b a) (max d d2) true) S2.ws = grE (.L .nil 0 true) S.ws by rw [hs2, ← HE.out, grL_T (by rw [hb2]; rfl) rT])
                  have hm2 : intOf ((w6.cell? ⟨g, 1, none⟩).getD undef) = (S2.k : Int) := by rw [L6.out.r.c1]; rfl
                  clear L5 I5 L4 I4 L3 I3
                  go_wp2
                  rw [e6]
                  refine ⟨⟨.snoc b a, max d d2, S2, _, L6, I6, B6, hE6, P6⟩, ?_⟩
                  rw [hm2]
                  omega
                exact AllReadyH.nil
              exact AllReadyH.nil
            exact AllReadyH.nil
          exact AllReadyH.nil
        exact AllReadyH.nil
set_option maxHeartbeats 16000000 in
theorem stats_P {B g n pb : Nat} (CT : Hid (CalT B g n)) {S : Sr} {w : World} (h : RdAt B g w S) (ip : PbI g pb w) (p : Pre n 2 S) (hgr : S.deep ≤ 100 ∨ S.great = true) : Calls Tryz.prog 39 #[.pointer (some ⟨g, 0, none⟩), .func (.func 40) #[] #[.pointer (some ⟨pb, 0, none⟩)]] w (RdT B g S w (grE (.L .nil 0 false) S.ws)) := by
  have hmf : ∀ (fn : Fn) (first cap : Array Value) (w : World), (Instr.makeFunc fn first cap).run Tryz.prog w = .ok (.func fn first cap) w := fun _ _ _ _ => rfl
  have HH := Lib.hid h
  have HG := Lib.hid hgr
  have HP := Lib.hid p
  have HI := Lib.hid ip
  clear h p hgr ip
  obtain ⟨RES, hR⟩ : ∃ RES, Hid ((grE (.L .nil 0 false) S.ws) = RES) := ⟨_, Lib.hid rfl⟩
  rw [hR.out]
  go_enter Tryz.func39, Tryz.ntmps39
  have CN := Lib.hid (node_any 13 w)
  go_wp2_with fail
  refine (CN.out).mono ?_; rintro e w1 ⟨rfl, b1⟩
  unfold ndA ndC nd1
  simp only
  obtain ⟨wa0, wl0, ea0, el0, HZ0, L0⟩ := loc_st (HH.out.ofr b1) (Stp.of (g := g) (S := S) b1) HH.out.hB (.int .i64 13) (.int .i64 (-1)) (.int .i64 (-1)) (.int .i64 (-1)) (.string (strB [])) (.int .u32 0) (.slice none 0 0)
  have z0 := HZ0.out.cell 0
  have y0 := HZ0.out.frozen 0
  have z1 := HZ0.out.cell 1
  have y1 := HZ0.out.frozen 1
  have z2 := HZ0.out.cell 2
  have y2 := HZ0.out.frozen 2
  have z3 := HZ0.out.cell 3
  have y3 := HZ0.out.frozen 3
  have z4 := HZ0.out.cell 4
  have y4 := HZ0.out.frozen 4
  have z5 := HZ0.out.cell 5
  have y5 := HZ0.out.frozen 5
  have z6 := HZ0.out.cell 6
  have y6 := HZ0.out.frozen 6
  simp only [ndZ, List.getElem?_cons_zero, List.getElem?_cons_succ] at z0 z1 z2 z3 z4 z5 z6
  have P0 := Lib.hid (pbi_loc (HI.out.bel b1) ea0 el0)
  clear CN b1
  go_wp2_with fail
  clear z0 z1 z2 z3 z4 z5 z6 y0 y1 y2 y3 y4 y5 y6
  clear ea0 el0 HZ0
  go_loopw [9] (fun _ wr => ∃ (b : Nd) (d : Nat) (S1 : Sr) (lv : Value), Hid (Loc B g S w S1 wr w1.heap.size [.int .i64 13, .int .i64 (-1), .int .i64 (-1), .int .i64 (-1), .string (strB []), .int .u32 0, lv]) ∧ Hid (LsI B w wr S1 (lst S.N.length b) lv) ∧ Hid (BkI S w b d S1) ∧ Hid (grE (.L b d false) S1.ws = grE (.L .nil 0 false) S.ws) ∧ Hid (PbI g pb wr)) (fun _ wr => 4000 - (intOf ((wr.cell? ⟨g, 1, none⟩).getD undef)).toNat)
  case atStart => exact ⟨.nil, 0, S, _, L0, Lib.hid (LsI.nil _ _ _ _), Lib.hid (BkI.start HG.out), Lib.hid rfl, P0⟩
  case round =>
    obtain ⟨b, d, S1, lv, L1, I1, HB, HE, HP1⟩ := hrel
    clear L0 P0 HI
    have HR1 := Lib.hid L1.out.r
    have hm : intOf ((wr.cell? ⟨g, 1, none⟩).getD undef) = (S1.k : Int) := by rw [HR1.out.c1]; rfl
    have CO := Lib.hid (over_P HR1.out HP1.out)
    rw [hm]
    clear hm
    cases hw0 : decide (S1.ws = []) with
    | true =>
      have hu := Lib.hid (of_decide_eq_true hw0)
      rw [hw0] at CO
      have hX : RES = .ok (b, [], d) := by rw [← hR.out, ← HE.out, grE_L, if_pos hu.out, hu.out]
      replace hX := Lib.hid hX
      go_wp2_with fail
      refine (CO.out).mono ?_; rintro e w2 ⟨rfl, R2, T2⟩
      have L2 := Lib.hid (L1.out.call R2 T2)
      have I2 := Lib.hid (I1.out.call HR1.out T2 (LsN.refl _ _ : LsN wr S1 S1))
      clear R2 T2 CO
      have n0 := L2.out.h.cell 0
      have n1 := L2.out.h.cell 1
      have n2 := L2.out.h.cell 2
      have n3 := L2.out.h.cell 3
      have n4 := L2.out.h.cell 4
      have n5 := L2.out.h.cell 5
      have n6 := L2.out.h.cell 6
      simp only [List.getElem?_cons_zero, List.getElem?_cons_succ] at n0 n1 n2 n3 n4 n5 n6
      have CA := Lib.hid (add_any L2.out.r ⟨13, -1, -1, -1, [], 0, lst S.N.length b⟩ lv I2.out.own (show S1.N.length < 5000 by have := (HB.out.pre HP.out).N; have := few_of HR1.out; show S1.N.length < 5000; omega))
      simp only [ndA, ndC, AddP] at CA
      go_wp2_with fail
      refine (CA.out).mono ?_; rintro e w6 ⟨nv, rfl, R6, T6⟩
      have FIN := Lib.hid (BkI.fin HB.out R6 (L2.out.s.trans T6) I2.out.new)
      have hv := Lib.hid (HB.out.rt)
      clear R6 T6 CA
      go_wp2
      go_ret
      rw [hX.out]
      exact ⟨_, by rw [← hv.out]; rfl, FIN.out, hu.out⟩
    | false =>
      have hu := Lib.hid (of_decide_eq_false hw0)
      rw [hw0] at CO
      cases rT : grE .T S1.ws with
      | error k =>
        have hX : RES = .error k := by rw [← hR.out, ← HE.out, grL_E hu.out (by rfl) rT]
        replace hX := Lib.hid hX
        go_wp2_with fail
        refine (CO.out).mono ?_; rintro e wr2 ⟨rfl, R2, T2⟩
        have L2 := Lib.hid (L1.out.call R2 T2)
        have I2 := Lib.hid (I1.out.call HR1.out T2 (LsN.refl _ _ : LsN wr S1 S1))
        have HP2 := Lib.hid (HP1.out.call HR1.out T2)
        have HR2 := Lib.hid R2
        clear R2 T2 CO L1 I1 HP1 HR1
        have L1 := L2
        have I1 := I2
        have HP1 := HP2
        have HR1 := HR2
        clear L2 I2 HP2 HR2
        have hsz : wr2.drew.heap.size = wr2.heap.size := rfl
        have CW : Hid (Calls Tryz.prog 57 #[.pointer (some ⟨g, 0, none⟩), .func (.func 58) #[.pointer (some ⟨g, 0, none⟩)] #[]] wr2.drew (RdP B g fl S1 wr2.drew (grE .T S1.ws) 0) ∧ True) := Lib.hid ⟨within_T (F := fl) (HR1.out.ofr (below_drewP (Below.refl _ wr2))) ((HB.out.pre HP.out).deep HR1.out (by omega)) (grE .T S1.ws) (fun x s d e => dT1 e) (fun w1 r1 => CT.out S1.dn w1 r1 ((HB.out.pre HP.out).dn 3 (by omega)) (dn_gr S1)), trivial⟩
        rw [rT] at CW
        obtain ⟨A5, c5, e5⟩ : ∃ A c, lv = .slice A (lst S.N.length b).length c := ls_form I1.out.own
        subst e5
        have hlv : Hid (True) := Lib.hid trivial
        have g6 := L1.out.h.cell 6
        have pf6 := L1.out.h.frozen 6
        simp only [List.getElem?_cons_zero, List.getElem?_cons_succ] at g6
        go_wp2_with fail
        refine wp_region_held_drew (S := (fun _ => True)) (by kernel_rfl) ?_ (fun hHeld => ?_)
        · (try dsimp only)
          all_goals trivial
        refine wpAnyH_take (i := 0) (oi := { dst := some 10, op := Op.fieldAddr 35 (Operand.tmp 5) 6, type := 0, pos := "read.go:100", after := #[], guard := none }) (v := ?_) rfl (by kernel_rfl) (by kernel_rfl) (by kernel_rfl) (fun _ _ _ h => h) (Or.inl ⟨by rfl, ?_⟩) (by assumption) ?_
        rotate_left
        · intro w hSw; (try dsimp only at hSw); go_simp <;> (with_reducible rfl)
        (try simp only [Act.put, List.setIfInBounds_toArray, List.set_cons_zero, List.set_cons_succ])
        refine wpAnyH_take (i := 2) (oi := { dst := some 12, op := Op.move (Operand.tmp 0), type := 41, pos := "read.go:100", after := #[], guard := none }) (v := ?_) rfl (by kernel_rfl) (by kernel_rfl) (by kernel_rfl) (fun _ _ _ h => h) (Or.inl ⟨by rfl, ?_⟩) (by assumption) ?_
        rotate_left
        · intro w hSw; (try dsimp only at hSw); go_simp <;> (with_reducible rfl)
        (try simp only [Act.put, List.setIfInBounds_toArray, List.set_cons_zero, List.set_cons_succ])
        refine wpAnyH_take (i := 3) (oi := { dst := some 13, op := Op.move (Operand.tmp 0), type := 41, pos := "read.go:100", after := #[], guard := none }) (v := ?_) rfl (by kernel_rfl) (by kernel_rfl) (by kernel_rfl) (fun _ _ _ h => h) (Or.inl ⟨by rfl, ?_⟩) (by assumption) ?_
        rotate_left
        · intro w hSw; (try dsimp only at hSw); go_simp <;> (with_reducible rfl)
        (try simp only [Act.put, List.setIfInBounds_toArray, List.set_cons_zero, List.set_cons_succ])
        refine wpAnyH_take (i := 4) (oi := { dst := some 14, op := Op.makeFunc (Fn.func 58) #[Operand.tmp 13] #[], type := 80, pos := "read.go:100", after := #[{ on := 3, ground := Ground.data }], guard := none }) (v := ?_) rfl (by kernel_rfl) (by kernel_rfl) (by kernel_rfl) (fun _ _ _ h => h) (Or.inl ⟨by rfl, ?_⟩) (by assumption) ?_
        rotate_left
        · intro w hSw; (try dsimp only at hSw); go_simp <;> (with_reducible rfl)
        (try simp only [Act.put, List.setIfInBounds_toArray, List.set_cons_zero, List.set_cons_succ])
        refine wpAnyH_ready (rs := [1, 5]) (by kernel_rfl) (by simp) ?_
        refine AllReadyH.cons (o := { dst := some 11, op := Op.load 33 (Operand.tmp 10), type := 33, pos := "read.go:100", after := #[{ on := 0, ground := Ground.data }], guard := none }) rfl (fun K hK => ?_) ?_
        · go_simp
          refine hK.out _ _ ?_ (fun hHeld => ?_)
          · (try dsimp only)
            all_goals trivial
          clear hK K
          (try simp only [Act.put, List.setIfInBounds_toArray, List.set_cons_zero, List.set_cons_succ])
          refine wpAnyH_ready (rs := [5]) (by kernel_rfl) (by simp) ?_
          refine AllReadyH.cons (o := { dst := some 15, op := Op.call { callee := Callee.value (Operand.func 57), args := #[Operand.tmp 12, Operand.tmp 14], argTypes := #[41, 80] }, type := 3, pos := "read.go:100", after := #[{ on := 2, ground := Ground.data }, { on := 4, ground := Ground.data }], guard := none }) rfl (fun K hK => ?_) ?_
          · go_simp
            (with_reducible refine (CW.out.1).mono ?_); rintro e w3 he
            obtain ⟨rfl, o3⟩ := he
            have FIN : Hid (RdT B g S w RES (pan (S1.W.length - k)) w3) := Lib.hid (by rw [hX.out]; exact ⟨by rw [L1.out.s.W], (L1.out.s.trans (Stp.of (below_drewP (Below.refl _ _)))).fr.trans o3 (L1.out.s.trans (Stp.of (below_drewP (Below.refl _ _)))).nw⟩)
            clear o3 CW
            unfold pan at FIN ⊢
            go_wp2
            first | exact FIN.out | exact ⟨rfl, FIN.out⟩
          exact AllReadyH.nil
        refine AllReadyH.cons (o := { dst := some 15, op := Op.call { callee := Callee.value (Operand.func 57), args := #[Operand.tmp 12, Operand.tmp 14], argTypes := #[41, 80] }, type := 3, pos := "read.go:100", after := #[{ on := 2, ground := Ground.data }, { on := 4, ground := Ground.data }], guard := none }) rfl (fun K hK => ?_) ?_
        · go_simp
          (with_reducible refine (CW.out.1).mono ?_); rintro e w3 he
          obtain ⟨rfl, o3⟩ := he
          have FIN : Hid (RdT B g S w RES (pan (S1.W.length - k)) w3) := Lib.hid (by rw [hX.out]; exact ⟨by rw [L1.out.s.W], (L1.out.s.trans (Stp.of (below_drewP (Below.refl _ _)))).fr.trans o3 (L1.out.s.trans (Stp.of (below_drewP (Below.refl _ _)))).nw⟩)
          clear o3 CW
          unfold pan at FIN ⊢
          go_wp2
          first | exact FIN.out | exact ⟨rfl, FIN.out⟩
        exact AllReadyH.nil
      | ok y =>
        obtain ⟨a, s, d2⟩ := y
        go_wp2_with fail
        refine (CO.out).mono ?_; rintro e wr2 ⟨rfl, R2, T2⟩
        have L2 := Lib.hid (L1.out.call R2 T2)
        have I2 := Lib.hid (I1.out.call HR1.out T2 (LsN.refl _ _ : LsN wr S1 S1))
        have HP2 := Lib.hid (HP1.out.call HR1.out T2)
        have HR2 := Lib.hid R2
        clear R2 T2 CO L1 I1 HP1 HR1
        have L1 := L2
        have I1 := I2
        have HP1 := HP2
        have HR1 := HR2
        clear L2 I2 HP2 HR2
        have hsz : wr2.drew.heap.size = wr2.heap.size := rfl
        have CW : Hid (Calls Tryz.prog 57 #[.pointer (some ⟨g, 0, none⟩), .func (.func 58) #[.pointer (some ⟨g, 0, none⟩)] #[]] wr2.drew (RdP B g fl S1 wr2.drew (grE .T S1.ws) 0) ∧ True) := Lib.hid ⟨within_T (F := fl) (HR1.out.ofr (below_drewP (Below.refl _ wr2))) ((HB.out.pre HP.out).deep HR1.out (by omega)) (grE .T S1.ws) (fun x s d e => dT1 e) (fun w1 r1 => CT.out S1.dn w1 r1 ((HB.out.pre HP.out).dn 3 (by omega)) (dn_gr S1)), trivial⟩
        rw [rT] at CW
        obtain ⟨A5, c5, e5⟩ : ∃ A c, lv = .slice A (lst S.N.length b).length c := ls_form I1.out.own
        subst e5
        have hlv : Hid (True) := Lib.hid trivial
        have g6 := L1.out.h.cell 6
        have pf6 := L1.out.h.frozen 6
        simp only [List.getElem?_cons_zero, List.getElem?_cons_succ] at g6
        go_wp2_with fail
        refine wp_region_noPanic ?_
        refine wp_region_held_drew (S := (fun _ => True)) (by kernel_rfl) ?_ (fun hHeld => ?_)
        · (try dsimp only)
          all_goals trivial
        refine wpAnyH_take (i := 0) (oi := { dst := some 10, op := Op.fieldAddr 35 (Operand.tmp 5) 6, type := 0, pos := "read.go:100", after := #[], guard := none }) (v := ?_) rfl (by kernel_rfl) (by kernel_rfl) (by kernel_rfl) (fun _ _ _ h => h) (Or.inl ⟨by rfl, ?_⟩) (by assumption) ?_
        rotate_left
        · intro w hSw; (try dsimp only at hSw); go_simp <;> (with_reducible rfl)
        (try simp only [Act.put, List.setIfInBounds_toArray, List.set_cons_zero, List.set_cons_succ])
        refine wpAnyH_take (i := 2) (oi := { dst := some 12, op := Op.move (Operand.tmp 0), type := 41, pos := "read.go:100", after := #[], guard := none }) (v := ?_) rfl (by kernel_rfl) (by kernel_rfl) (by kernel_rfl) (fun _ _ _ h => h) (Or.inl ⟨by rfl, ?_⟩) (by assumption) ?_
        rotate_left
        · intro w hSw; (try dsimp only at hSw); go_simp <;> (with_reducible rfl)
        (try simp only [Act.put, List.setIfInBounds_toArray, List.set_cons_zero, List.set_cons_succ])
        refine wpAnyH_take (i := 3) (oi := { dst := some 13, op := Op.move (Operand.tmp 0), type := 41, pos := "read.go:100", after := #[], guard := none }) (v := ?_) rfl (by kernel_rfl) (by kernel_rfl) (by kernel_rfl) (fun _ _ _ h => h) (Or.inl ⟨by rfl, ?_⟩) (by assumption) ?_
        rotate_left
        · intro w hSw; (try dsimp only at hSw); go_simp <;> (with_reducible rfl)
        (try simp only [Act.put, List.setIfInBounds_toArray, List.set_cons_zero, List.set_cons_succ])
        refine wpAnyH_take (i := 4) (oi := { dst := some 14, op := Op.makeFunc (Fn.func 58) #[Operand.tmp 13] #[], type := 80, pos := "read.go:100", after := #[{ on := 3, ground := Ground.data }], guard := none }) (v := ?_) rfl (by kernel_rfl) (by kernel_rfl) (by kernel_rfl) (fun _ _ _ h => h) (Or.inl ⟨by rfl, ?_⟩) (by assumption) ?_
        rotate_left
        · intro w hSw; (try dsimp only at hSw); go_simp <;> (with_reducible rfl)
        (try simp only [Act.put, List.setIfInBounds_toArray, List.set_cons_zero, List.set_cons_succ])
        refine wpAnyH_ready (rs := [1, 5]) (by kernel_rfl) (by simp) ?_
        refine AllReadyH.cons (o := { dst := some 11, op := Op.load 33 (Operand.tmp 10), type := 33, pos := "read.go:100", after := #[{ on := 0, ground := Ground.data }], guard := none }) rfl (fun K hK => ?_) ?_
        · go_simp
          refine hK.out _ _ ?_ (fun hHeld => ?_)
          · (try dsimp only)
            all_goals trivial
          clear hK K
          (try simp only [Act.put, List.setIfInBounds_toArray, List.set_cons_zero, List.set_cons_succ])
          refine wpAnyH_ready (rs := [5]) (by kernel_rfl) (by simp) ?_
          refine AllReadyH.cons (o := { dst := some 15, op := Op.call { callee := Callee.value (Operand.func 57), args := #[Operand.tmp 12, Operand.tmp 14], argTypes := #[41, 80] }, type := 3, pos := "read.go:100", after := #[{ on := 2, ground := Ground.data }, { on := 4, ground := Ground.data }], guard := none }) rfl (fun K hK => ?_) ?_
          · go_simp
            (with_reducible refine (CW.out.1).mono ?_); rintro e w3 ⟨S2, rfl, R2, hs2⟩
            go_wp2_with fail
            have R2 := Lib.hid R2
            have L3 := Lib.hid ((L1.out.bel (below_drewP (Below.refl _ wr2))).call R2.out.r R2.out.s)
            have I3 := Lib.hid ((I1.out.bel (below_drewP (Below.refl _ wr2))).call (HR1.out.ofr (below_drewP (Below.refl _ wr2))) R2.out.s R2.out.ls)
            have l6 := L3.out.h.cell 6
            have p6 := L3.out.h.frozen 6
            simp only [List.getElem?_cons_zero, List.getElem?_cons_succ] at l6
            obtain ⟨z, hz⟩ : ∃ z, Hid (rt S1.N.length a = z) := ⟨_, Lib.hid rfl⟩
            rw [hz.out]
            obtain ⟨w4, e4, Q4, B4⟩ : ∃ w4, w3.alloc (.cells #[.int .i64 z] 3) = w4 ∧ Hid (HasB w4 w3.heap.size 3 [.int .i64 z]) ∧ Hid (Below w3.heap.size w3 w4) := ⟨_, rfl, Lib.hid (HasB.new _ _ _), Lib.hid (bel_al (Below.refl _ _) _)⟩
            have L4 := Lib.hid (L3.out.bel B4.out)
            have I4 := Lib.hid (I3.out.bel B4.out)
            have k6 := L4.out.h.cell 6
            simp only [List.getElem?_cons_zero, List.getElem?_cons_succ] at k6
            refine hK.out _ _ ?_ (fun hHeld => ?_)
            · (try dsimp only)
              all_goals trivial
            clear hK K
            (try simp only [Act.put, List.setIfInBounds_toArray, List.set_cons_zero, List.set_cons_succ])
            refine wpAnyH_ready (rs := [6]) (by kernel_rfl) (by simp) ?_
            refine AllReadyH.cons (o := { dst := some 16, op := Op.buildSlice 33 1 #[(0, Operand.tmp 15)], type := 33, pos := "read.go:100", after := #[{ on := 5, ground := Ground.data }], guard := none }) rfl (fun K hK => ?_) ?_
            · go_simp
              refine hK.out _ _ ?_ (fun hHeld => ?_)
              · (try dsimp only)
                all_goals trivial
              clear hK K
              (try simp only [Act.put, List.setIfInBounds_toArray, List.set_cons_zero, List.set_cons_succ])
              refine wpAnyH_ready (rs := [7]) (by kernel_rfl) (by simp) ?_
              refine AllReadyH.cons (o := { dst := some 17, op := Op.call { callee := Callee.builtin Builtin.append, args := #[Operand.tmp 11, Operand.tmp 16], argTypes := #[33, 33] }, type := 33, pos := "read.go:100", after := #[{ on := 1, ground := Ground.data }, { on := 6, ground := Ground.data }, { on := 5, ground := Ground.chain }], guard := none }) rfl (fun K hK => ?_) ?_
              · refine app_ls (.tmp 11) (.tmp 16) rfl L4.out I4.out rfl z w3.heap.size rfl Q4.out (by have := HB.out.ll; have := few_of HR1.out; omega) ?_
                intro A9 c9 w5 L5 I5 hs5 hg5
                have L5 := Lib.hid L5
                have I5 := Lib.hid I5
                have m6 := L5.out.h.cell 6
                have p6' := L5.out.h.frozen 6
                simp only [List.getElem?_cons_zero, List.getElem?_cons_succ] at m6
                refine hK.out _ _ ?_ (fun hHeld => ?_)
                · (try dsimp only)
                  all_goals trivial
                clear hK K
                (try simp only [Act.put, List.setIfInBounds_toArray, List.set_cons_zero, List.set_cons_succ])
                refine wpAnyH_take (i := 8) (oi := { dst := some 18, op := Op.fieldAddr 35 (Operand.tmp 5) 6, type := 0, pos := "read.go:100", after := #[{ on := 0, ground := Ground.phase }, { on := 1, ground := Ground.phase }, { on := 2, ground := Ground.phase }, { on := 3, ground := Ground.phase }, { on := 4, ground := Ground.phase }, { on := 5, ground := Ground.phase }, { on := 6, ground := Ground.phase }, { on := 7, ground := Ground.phase }], guard := none }) (v := ?_) rfl (by kernel_rfl) (by kernel_rfl) (by kernel_rfl) (fun _ _ _ h => h) (Or.inl ⟨by rfl, ?_⟩) (by assumption) ?_
                rotate_left
                · intro w hSw; (try dsimp only at hSw); go_simp <;> (with_reducible rfl)
                (try simp only [Act.put, List.setIfInBounds_toArray, List.set_cons_zero, List.set_cons_succ])
                refine wpAnyH_ready (rs := [9]) (by kernel_rfl) (by simp) ?_
                refine AllReadyH.cons (o := { dst := none, op := Op.store 33 (Operand.tmp 18) (Operand.tmp 17), type := 0, pos := "read.go:100", after := #[{ on := 8, ground := Ground.data }, { on := 7, ground := Ground.data }, { on := 7, ground := Ground.chain }, { on := 0, ground := Ground.phase }, { on := 1, ground := Ground.phase }, { on := 2, ground := Ground.phase }, { on := 3, ground := Ground.phase }, { on := 4, ground := Ground.phase }, { on := 5, ground := Ground.phase }, { on := 6, ground := Ground.phase }, { on := 7, ground := Ground.phase }], guard := none }) rfl (fun K hK => ?_) ?_
                · go_simp
                  refine hK.out _ _ ?_ (fun hHeld => ?_)
                  · (try dsimp only)
                    all_goals trivial
                  clear hK K
                  (try simp only [Act.put, List.setIfInBounds_toArray, List.set_cons_zero, List.set_cons_succ])
                  refine wpAnyH_done (by kernel_rfl) ?_ _
                  refine NoPanic.normal ?_
                  obtain ⟨w6, e6, L6⟩ := L5.out.set 6 (.slice A9 ((lst S.N.length b).length + 1) c9)
                  simp only [List.set_cons_zero, List.set_cons_succ] at L6
                  have I6 := Lib.hid (show LsI B w w6 S2 (lst S.N.length (.snoc b a)) (.slice A9 ((lst S.N.length b).length + 1) c9) from ls_fin HB.out.cnt hz.out (I5.out.seti e6 L5.out.h))
                  have B6 := Lib.hid (HB.out.snoc R2.out L1.out.s.fr.size)
                  have P6 := Lib.hid (pbi_all HP1.out (HR1.out.ofr (below_drewP (Below.refl _ wr2))) R2.out.s e4 I4.out hg5 e6 L5.out.h)
                  have hk6 : S1.k < S2.k := by have := R2.out.gb; have := R2.out.cnt; have := cnt_pos a; omega
                  have hk7 := few_of L6.out.r
                  have hE6 := Lib.hid (show grE (.L (.snoc b a) (max d d2) false) S2.ws = grE (.L .nil 0 false) S.ws by rw [hs2, ← HE.out, grL_T (by rfl) rT])
                  have hm2 : intOf ((w6.cell? ⟨g, 1, none⟩).getD undef) = (S2.k : Int) := by rw [L6.out.r.c1]; rfl
                  clear L5 I5 L4 I4 L3 I3
                  go_wp2
                  rw [e6]
                  refine ⟨⟨.snoc b a, max d d2, S2, _, L6, I6, B6, hE6, P6⟩, ?_⟩
                  rw [hm2]
                  omega
                exact AllReadyH.nil
              exact AllReadyH.nil
            exact AllReadyH.nil
          exact AllReadyH.nil
        refine AllReadyH.cons (o := { dst := some 15, op := Op.call { callee := Callee.value (Operand.func 57), args := #[Operand.tmp 12, Operand.tmp 14], argTypes := #[41, 80] }, type := 3, pos := "read.go:100", after := #[{ on := 2, ground := Ground.data }, { on := 4, ground := Ground.data }], guard := none }) rfl (fun K hK => ?_) ?_
        · go_simp
          (with_reducible refine (CW.out.1).mono ?_); rintro e w3 ⟨S2, rfl, R2, hs2⟩
          go_wp2_with fail
          have R2 := Lib.hid R2
          have L3 := Lib.hid ((L1.out.bel (below_drewP (Below.refl _ wr2))).call R2.out.r R2.out.s)
          have I3 := Lib.hid ((I1.out.bel (below_drewP (Below.refl _ wr2))).call (HR1.out.ofr (below_drewP (Below.refl _ wr2))) R2.out.s R2.out.ls)
          have l6 := L3.out.h.cell 6
          have p6 := L3.out.h.frozen 6
          simp only [List.getElem?_cons_zero, List.getElem?_cons_succ] at l6
          obtain ⟨z, hz⟩ : ∃ z, Hid (rt S1.N.length a = z) := ⟨_, Lib.hid rfl⟩
          rw [hz.out]
          obtain ⟨w4, e4, Q4, B4⟩ : ∃ w4, w3.alloc (.cells #[.int .i64 z] 3) = w4 ∧ Hid (HasB w4 w3.heap.size 3 [.int .i64 z]) ∧ Hid (Below w3.heap.size w3 w4) := ⟨_, rfl, Lib.hid (HasB.new _ _ _), Lib.hid (bel_al (Below.refl _ _) _)⟩
          have L4 := Lib.hid (L3.out.bel B4.out)
          have I4 := Lib.hid (I3.out.bel B4.out)
          have k6 := L4.out.h.cell 6
          simp only [List.getElem?_cons_zero, List.getElem?_cons_succ] at k6
          refine hK.out _ _ ?_ (fun hHeld => ?_)
          · (try dsimp only)
            all_goals trivial
          clear hK K
          (try simp only [Act.put, List.setIfInBounds_toArray, List.set_cons_zero, List.set_cons_succ])
          refine wpAnyH_ready (rs := [1, 6]) (by kernel_rfl) (by simp) ?_
          refine AllReadyH.cons (o := { dst := some 11, op := Op.load 33 (Operand.tmp 10), type := 33, pos := "read.go:100", after := #[{ on := 0, ground := Ground.data }], guard := none }) rfl (fun K hK => ?_) ?_
          · go_simp
            refine hK.out _ _ ?_ (fun hHeld => ?_)
            · (try dsimp only)
              all_goals trivial
            clear hK K
            (try simp only [Act.put, List.setIfInBounds_toArray, List.set_cons_zero, List.set_cons_succ])
            refine wpAnyH_ready (rs := [6]) (by kernel_rfl) (by simp) ?_
            refine AllReadyH.cons (o := { dst := some 16, op := Op.buildSlice 33 1 #[(0, Operand.tmp 15)], type := 33, pos := "read.go:100", after := #[{ on := 5, ground := Ground.data }], guard := none }) rfl (fun K hK => ?_) ?_
            · go_simp
              refine hK.out _ _ ?_ (fun hHeld => ?_)
              · (try dsimp only)
                all_goals trivial
              clear hK K
              (try simp only [Act.put, List.setIfInBounds_toArray, List.set_cons_zero, List.set_cons_succ])
              refine wpAnyH_ready (rs := [7]) (by kernel_rfl) (by simp) ?_
              refine AllReadyH.cons (o := { dst := some 17, op := Op.call { callee := Callee.builtin Builtin.append, args := #[Operand.tmp 11, Operand.tmp 16], argTypes := #[33, 33] }, type := 33, pos := "read.go:100", after := #[{ on := 1, ground := Ground.data }, { on := 6, ground := Ground.data }, { on := 5, ground := Ground.chain }], guard := none }) rfl (fun K hK => ?_) ?_
              · refine app_ls (.tmp 11) (.tmp 16) rfl L4.out I4.out rfl z w3.heap.size rfl Q4.out (by have := HB.out.ll; have := few_of HR1.out; omega) ?_
                intro A9 c9 w5 L5 I5 hs5 hg5
                have L5 := Lib.hid L5
                have I5 := Lib.hid I5
                have m6 := L5.out.h.cell 6
                have p6' := L5.out.h.frozen 6
                simp only [List.getElem?_cons_zero, List.getElem?_cons_succ] at m6
                refine hK.out _ _ ?_ (fun hHeld => ?_)
                · (try dsimp only)
                  all_goals trivial
                clear hK K
                (try simp only [Act.put, List.setIfInBounds_toArray, List.set_cons_zero, List.set_cons_succ])
                refine wpAnyH_take (i := 8) (oi := { dst := some 18, op := Op.fieldAddr 35 (Operand.tmp 5) 6, type := 0, pos := "read.go:100", after := #[{ on := 0, ground := Ground.phase }, { on := 1, ground := Ground.phase }, { on := 2, ground := Ground.phase }, { on := 3, ground := Ground.phase }, { on := 4, ground := Ground.phase }, { on := 5, ground := Ground.phase }, { on := 6, ground := Ground.phase }, { on := 7, ground := Ground.phase }], guard := none }) (v := ?_) rfl (by kernel_rfl) (by kernel_rfl) (by kernel_rfl) (fun _ _ _ h => h) (Or.inl ⟨by rfl, ?_⟩) (by assumption) ?_
                rotate_left
                · intro w hSw; (try dsimp only at hSw); go_simp <;> (with_reducible rfl)
                (try simp only [Act.put, List.setIfInBounds_toArray, List.set_cons_zero, List.set_cons_succ])
                refine wpAnyH_ready (rs := [9]) (by kernel_rfl) (by simp) ?_
                refine AllReadyH.cons (o := { dst := none, op := Op.store 33 (Operand.tmp 18) (Operand.tmp 17), type := 0, pos := "read.go:100", after := #[{ on := 8, ground := Ground.data }, { on := 7, ground := Ground.data }, { on := 7, ground := Ground.chain }, { on := 0, ground := Ground.phase }, { on := 1, ground := Ground.phase }, { on := 2, ground := Ground.phase }, { on := 3, ground := Ground.phase }, { on := 4, ground := Ground.phase }, { on := 5, ground := Ground.phase }, { on := 6, ground := Ground.phase }, { on := 7, ground := Ground.phase }], guard := none }) rfl (fun K hK => ?_) ?_
                · go_simp
                  refine hK.out _ _ ?_ (fun hHeld => ?_)
                  · (try dsimp only)
                    all_goals trivial
                  clear hK K
                  (try simp only [Act.put, List.setIfInBounds_toArray, List.set_cons_zero, List.set_cons_succ])
                  refine wpAnyH_done (by kernel_rfl) ?_ _
                  refine NoPanic.normal ?_
                  obtain ⟨w6, e6, L6⟩ := L5.out.set 6 (.slice A9 ((lst S.N.length b).length + 1) c9)
                  simp only [List.set_cons_zero, List.set_cons_succ] at L6
                  have I6 := Lib.hid (show LsI B w w6 S2 (lst S.N.length (.snoc b a)) (.slice A9 ((lst S.N.length b).length + 1) c9) from ls_fin HB.out.cnt hz.out (I5.out.seti e6 L5.out.h))
                  have B6 := Lib.hid (HB.out.snoc R2.out L1.out.s.fr.size)
                  have P6 := Lib.hid (pbi_all HP1.out (HR1.out.ofr (below_drewP (Below.refl _ wr2))) R2.out.s e4 I4.out hg5 e6 L5.out.h)
                  have hk6 : S1.k < S2.k := by have := R2.out.gb; have := R2.out.cnt; have := cnt_pos a; omega
                  have hk7 := few_of L6.out.r
                  have hE6 := Lib.hid (show grE (.L (.snoc b a) (max d d2) false) S2.ws = grE (.L .nil 0 false) S.ws by rw [hs2, ← HE.out, grL_T (by rfl) rT])
                  have hm2 : intOf ((w6.cell? ⟨g, 1, none⟩).getD undef) = (S2.k : Int) := by rw [L6.out.r.c1]; rfl
                  clear L5 I5 L4 I4 L3 I3
                  go_wp2
                  rw [e6]
                  refine ⟨⟨.snoc b a, max d d2, S2, _, L6, I6, B6, hE6, P6⟩, ?_⟩
                  rw [hm2]
                  omega
                exact AllReadyH.nil
              exact AllReadyH.nil
            exact AllReadyH.nil
          refine AllReadyH.cons (o := { dst := some 16, op := Op.buildSlice 33 1 #[(0, Operand.tmp 15)], type := 33, pos := "read.go:100", after := #[{ on := 5, ground := Ground.data }], guard := none }) rfl (fun K hK => ?_) ?_
          · go_simp
            refine hK.out _ _ ?_ (fun hHeld => ?_)
            · (try dsimp only)
              all_goals trivial
            clear hK K
            (try simp only [Act.put, List.setIfInBounds_toArray, List.set_cons_zero, List.set_cons_succ])
            refine wpAnyH_ready (rs := [1]) (by kernel_rfl) (by simp) ?_
            refine AllReadyH.cons (o := { dst := some 11, op := Op.load 33 (Operand.tmp 10), type := 33, pos := "read.go:100", after := #[{ on := 0, ground := Ground.data }], guard := none }) rfl (fun K hK => ?_) ?_
            · go_simp
              refine hK.out _ _ ?_ (fun hHeld => ?_)
              · (try dsimp only)
                all_goals trivial
              clear hK K
              (try simp only [Act.put, List.setIfInBounds_toArray, List.set_cons_zero, List.set_cons_succ])
              refine wpAnyH_ready (rs := [7]) (by kernel_rfl) (by simp) ?_
              refine AllReadyH.cons (o := { dst := some 17, op := Op.call { callee := Callee.builtin Builtin.append, args := #[Operand.tmp 11, Operand.tmp 16], argTypes := #[33, 33] }, type := 33, pos := "read.go:100", after := #[{ on := 1, ground := Ground.data }, { on := 6, ground := Ground.data }, { on := 5, ground := Ground.chain }], guard := none }) rfl (fun K hK => ?_) ?_
              · refine app_ls (.tmp 11) (.tmp 16) rfl L4.out I4.out rfl z w3.heap.size rfl Q4.out (by have := HB.out.ll; have := few_of HR1.out; omega) ?_
                intro A9 c9 w5 L5 I5 hs5 hg5
                have L5 := Lib.hid L5
                have I5 := Lib.hid I5
                have m6 := L5.out.h.cell 6
                have p6' := L5.out.h.frozen 6
                simp only [List.getElem?_cons_zero, List.getElem?_cons_succ] at m6
                refine hK.out _ _ ?_ (fun hHeld => ?_)
                · (try dsimp only)
                  all_goals trivial
                clear hK K
                (try simp only [Act.put, List.setIfInBounds_toArray, List.set_cons_zero, List.set_cons_succ])
                refine wpAnyH_take (i := 8) (oi := { dst := some 18, op := Op.fieldAddr 35 (Operand.tmp 5) 6, type := 0, pos := "read.go:100", after := #[{ on := 0, ground := Ground.phase }, { on := 1, ground := Ground.phase }, { on := 2, ground := Ground.phase }, { on := 3, ground := Ground.phase }, { on := 4, ground := Ground.phase }, { on := 5, ground := Ground.phase }, { on := 6, ground := Ground.phase }, { on := 7, ground := Ground.phase }], guard := none }) (v := ?_) rfl (by kernel_rfl) (by kernel_rfl) (by kernel_rfl) (fun _ _ _ h => h) (Or.inl ⟨by rfl, ?_⟩) (by assumption) ?_
                rotate_left
                · intro w hSw; (try dsimp only at hSw); go_simp <;> (with_reducible rfl)
                (try simp only [Act.put, List.setIfInBounds_toArray, List.set_cons_zero, List.set_cons_succ])
                refine wpAnyH_ready (rs := [9]) (by kernel_rfl) (by simp) ?_
                refine AllReadyH.cons (o := { dst := none, op := Op.store 33 (Operand.tmp 18) (Operand.tmp 17), type := 0, pos := "read.go:100", after := #[{ on := 8, ground := Ground.data }, { on := 7, ground := Ground.data }, { on := 7, ground := Ground.chain }, { on := 0, ground := Ground.phase }, { on := 1, ground := Ground.phase }, { on := 2, ground := Ground.phase }, { on := 3, ground := Ground.phase }, { on := 4, ground := Ground.phase }, { on := 5, ground := Ground.phase }, { on := 6, ground := Ground.phase }, { on := 7, ground := Ground.phase }], guard := none }) rfl (fun K hK => ?_) ?_
                · go_simp
                  refine hK.out _ _ ?_ (fun hHeld => ?_)
                  · (try dsimp only)
                    all_goals trivial
                  clear hK K
                  (try simp only [Act.put, List.setIfInBounds_toArray, List.set_cons_zero, List.set_cons_succ])
                  refine wpAnyH_done (by kernel_rfl) ?_ _
                  refine NoPanic.normal ?_
                  obtain ⟨w6, e6, L6⟩ := L5.out.set 6 (.slice A9 ((lst S.N.length b).length + 1) c9)
                  simp only [List.set_cons_zero, List.set_cons_succ] at L6
                  have I6 := Lib.hid (show LsI B w w6 S2 (lst S.N.length (.snoc b a)) (.slice A9 ((lst S.N.length b).length + 1) c9) from ls_fin HB.out.cnt hz.out (I5.out.seti e6 L5.out.h))
                  have B6 := Lib.hid (HB.out.snoc R2.out L1.out.s.fr.size)
                  have P6 := Lib.hid (pbi_all HP1.out (HR1.out.ofr (below_drewP (Below.refl _ wr2))) R2.out.s e4 I4.out hg5 e6 L5.out.h)
                  have hk6 : S1.k < S2.k := by have := R2.out.gb; have := R2.out.cnt; have := cnt_pos a; omega
                  have hk7 := few_of L6.out.r
                  have hE6 := Lib.hid (show grE (.L (.snoc b a) (max d d2) false) S2.ws = grE (.L .nil 0 false) S.ws by rw [hs2, ← HE.out, grL_T (by rfl) rT])
                  have hm2 : intOf ((w6.cell? ⟨g, 1, none⟩).getD undef) = (S2.k : Int) := by rw [L6.out.r.c1]; rfl
                  clear L5 I5 L4 I4 L3 I3
                  go_wp2
                  rw [e6]
                  refine ⟨⟨.snoc b a, max d d2, S2, _, L6, I6, B6, hE6, P6⟩, ?_⟩
                  rw [hm2]
                  omega
                exact AllReadyH.nil
              exact AllReadyH.nil
            exact AllReadyH.nil
          exact AllReadyH.nil
        exact AllReadyH.nil
theorem Pre.up' {S : Sr} {n m b : Nat} (p : Pre n m S) (h : m ≤ b + 2) : Pre n b S.up :=
  ⟨p.up.n, p.up.N, by have := p.d; show S.deep ≤ 2 * (S.k + 1) + b; omega⟩
theorem rdB_of {B g : Nat} {S S0 : Sr} {w w0 w' : World} {r : Rr} {e : Ending} (s : Stp g S0 S0.up w0 w) (hS : S = S0.up) (h : RdP B g flB S w r 0 e w') : RdB B g S0 w0 r e w' := by
  subst hS
  unfold RdP at h
  unfold RdB
  cases r with
  | error k => exact ⟨h.1, s.fr.trans h.2 s.nw⟩
  | ok y =>
    obtain ⟨b, s', d⟩ := y
    obtain ⟨S', h1, h2, h3⟩ := h
    exact ⟨S', h1, h2.of_up s, h3, by have := h2.gb; have e1 : S0.up.N = S0.N := rfl; have e2 : S0.up.k = S0.k + 1 := rfl; rw [e1, e2] at this; omega⟩
set_option maxHeartbeats 8000000 in
theorem block_any {B g n : Nat} (CT : Hid (CalT B g n)) : CalB B g n := by
  have hmf : ∀ (fn : Fn) (first cap : Array Value) (w : World), (Instr.makeFunc fn first cap).run Tryz.prog w = .ok (.func fn first cap) w := fun _ _ _ _ => rfl
  intro S w h p hgr
  have HH := Lib.hid h
  have HG := Lib.hid hgr
  have HP := Lib.hid p
  rw [grE_B]
  obtain ⟨w1, e1, I1, B1⟩ := pb_new g w h.cells.lt
  have c0 := I1.out.1.cell 0
  simp only [List.getElem?_cons_zero] at c0
  have R1 := Lib.hid (h.ofr B1.out)
  have CM := must_any R1.out [123] ks_of
  have hp0 := Lib.hid (pan_at h)
  have hu := Lib.hid (fun hb => up_ws (t := [123]) h.le hb)
  clear h p hgr
  cases hb : hdW [123] S.ws with
  | false =>
    rw [hb] at CM
    simp only [Bool.false_eq_true, if_false] at CM
    have CM := Lib.hid CM
    rw [must_no hb]
    go_enter Tryz.func91, Tryz.ntmps91
    go_wp2_with fail
    refine (CM.out).mono ?_; rintro e w2 ⟨rfl, o3⟩
    have FIN : Hid (RdB B g S w (.error S.ws.length) (pan S.k) w2) := Lib.hid ⟨by rw [← hp0.out], (Ofr.of B1.out).trans o3 (.refl _ _)⟩
    clear o3 CM
    unfold pan at FIN ⊢
    go_wp2
    first | exact FIN.out | exact ⟨rfl, FIN.out⟩
  | true =>
    rw [hb] at CM
    simp only [if_true] at CM
    have CM := Lib.hid CM
    rw [must_yes hb]
    have hu := hu.out hb
    cases hr : (bnd (grE (.L .nil 0 true) S.ws.tail) fun b s d => must [125] s fun s3 => .ok (b, s3, d) : Rr) with
    | error k =>
      go_enter Tryz.func91, Tryz.ntmps91
      go_wp2_with fail
      refine (CM.out).mono ?_; rintro e w2 ⟨rfl, R2, T2⟩
      have I2 := I1.out.call R1.out T2
      have c2 := I2.1.cell 0
      simp only [List.getElem?_cons_zero] at c2
      have CS := stats_B CT R2 I2 (HP.out.up' (b := 2) (by omega)) HG.out
      rw [hu, hr] at CS
      have CS := Lib.hid CS
      have T2 := Lib.hid ((Stp.of (g := g) (S := S) B1.out).trans T2)
      clear R2 CM I2
      go_wp2_with fail
      refine (CS.out).mono ?_; rintro e w3 he
      have FIN := Lib.hid (rdB_of T2.out rfl he)
      obtain ⟨rfl, o3⟩ := he
      clear o3 CS
      unfold pan at FIN ⊢
      go_wp2
      first | exact FIN.out | exact ⟨rfl, FIN.out⟩
    | ok y =>
      obtain ⟨x, s, d⟩ := y
      go_enter Tryz.func91, Tryz.ntmps91
      go_wp2_with fail
      refine (CM.out).mono ?_; rintro e w2 ⟨rfl, R2, T2⟩
      have I2 := I1.out.call R1.out T2
      have c2 := I2.1.cell 0
      simp only [List.getElem?_cons_zero] at c2
      have CS := stats_B CT R2 I2 (HP.out.up' (b := 2) (by omega)) HG.out
      rw [hu, hr] at CS
      have CS := Lib.hid CS
      have T2 := Lib.hid ((Stp.of (g := g) (S := S) B1.out).trans T2)
      clear R2 CM I2
      go_wp2_with fail
      refine (CS.out).mono ?_; rintro e w3 he
      have FIN := Lib.hid (rdB_of T2.out rfl he)
      obtain ⟨S3, rfl, R3, hs3⟩ := he
      clear R3 hs3 CS
      go_wp2
      go_ret
      exact FIN.out
/-- all statements and blocks, of whatever length -/
theorem stmts_any (B g : Nat) : ∀ n, CalT B g n ∧ CalB B g n := by
  intro n
  induction n with
  | zero => exact ⟨fun S w h p => absurd p.n (Nat.not_lt_zero _), fun S w h p => absurd p.n (Nat.not_lt_zero _)⟩
  | succ n ih =>
    have ht := stat_any (Lib.hid ih.2)
    exact ⟨ht, block_any (Lib.hid ht)⟩
end Go.Proofs.YtkacplcilkogpaaGreatDoor.Mm
