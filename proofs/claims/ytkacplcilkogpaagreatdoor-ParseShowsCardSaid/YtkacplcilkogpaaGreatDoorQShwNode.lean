/- The shower shows a node. -/
import Derived.Test.YtkacplcilkogpaaGreatDoorQShB
namespace Go.Proofs.YtkacplcilkogpaaGreatDoor.Mm
open Go.ChangeShapes Go.WideShapes Go.ChangeAt Go.RowKit
set_option linter.unusedVariables false
set_option linter.unusedSimpArgs false
set_option maxRecDepth 10000

/-- a node's list, as it is read: whosever it is -/
def LsW (w : World) (p : NdR × Value) : Prop := ∃ A cap, p.2 = .slice A p.1.l.length cap ∧ ∀ j, j < p.1.l.length → ∃ x, A = some x ∧ w.cell? (x.add j) = some (.int .i64 (p.1.l.getD j 0))
theorem map_get {l : List Int} {j : Nat} (hj : j < l.length) : (l.map (Value.int .i64))[j]? = some (.int .i64 (l.getD j 0)) := by simp [List.getD, hj]
theorem lsW_of {w : World} {p : NdR × Value} (h : w.ownsRow 0 3 1 p.2 p.1.l.length (p.1.l.map (Value.int .i64))) : LsW w p := by
  rcases h.2 with ⟨e, hz⟩ | ⟨b, cap, cur, e, _⟩
  · exact ⟨none, 0, by rw [e, hz], fun j hj => by omega⟩
  · refine ⟨some ⟨b, 0, none⟩, cap, e, fun j hj => ⟨_, rfl, ?_⟩⟩
    exact h.cells (g := b) (by rw [e]; rfl) j _ (map_get hj)
theorem LsW.below {w w' : World} {p : NdR × Value} (h : LsW w p) (b : Below w.heap.size w w') : LsW w' p := by
  obtain ⟨A, cap, e, hc⟩ := h
  refine ⟨A, cap, e, fun j hj => ?_⟩
  obtain ⟨x, hx, hz⟩ := hc j hj
  exact ⟨x, hx, by rw [b.cell (World.block_lt_of_cell? _ _ hz)]; exact hz⟩
/-- the nodes lie below the shower -/
def ShW (g : Nat) (nv : Value) (N : List (NdR × Value)) (w : World) : Prop :=
  ∃ w0, w0.heap.size ≤ g ∧ EnvV w0 ∧ w0.ownsRow 0 35 7 nv N.length (N.flatMap ndP) ∧ (∀ p ∈ N, LsW w0 p) ∧ Below w0.heap.size w0 w
theorem ShW.bel {g : Nat} {nv : Value} {N : List (NdR × Value)} {w w' : World} (h : ShW g nv N w) (b : Below g w w') : ShW g nv N w' := by
  obtain ⟨w0, h1, h2, h3, h4, h5⟩ := h
  exact ⟨w0, h1, h2, h3, h4, h5.trans (b.mono h1)⟩
theorem ShW.env {g : Nat} {nv : Value} {N : List (NdR × Value)} {w : World} (h : ShW g nv N w) : EnvV w := by
  obtain ⟨w0, h1, h2, h3, h4, h5⟩ := h
  exact h2.below h5
def nv0 : NdR × Value := (nd0, .slice none 0 0)
theorem flatN_get (N : List (NdR × Value)) : ∀ i, i < N.length → ∀ j, j < 7 → (N.flatMap ndP)[i * 7 + j]? = (ndP (N.getD i nv0))[j]? := by
  induction N with
  | nil => intro i h; simp at h
  | cons x r ih =>
    intro i hi j hj
    have hl : (ndP x).length = 7 := rfl
    simp only [List.flatMap_cons]
    cases i with
    | zero => rw [Nat.zero_mul, Nat.zero_add, List.getElem?_append_left (by omega)]; rfl
    | succ i =>
      rw [List.getElem?_append_right (by omega), hl, show (i + 1) * 7 + j - 7 = i * 7 + j by omega, ih i (by simpa using hi) j hj]
      rfl
/-- a node's cells, as they are read -/
theorem ShW.node {g : Nat} {nv : Value} {N : List (NdR × Value)} {w : World} (h : ShW g nv N w) {k : Nat} (hk : k < N.length) : ∃ x cap, nv = .slice (some x) N.length cap ∧ x.spot = none ∧
    (∀ j u, (ndP (N.getD k nv0))[j]? = some u → w.cell? ⟨(x.add (k * 7)).block, (x.add (k * 7)).off + j, none⟩ = some u) := by
  obtain ⟨w0, h1, h2, h3, h4, h5⟩ := h
  have hc := own_belowP h3 h5
  rcases hc.2 with ⟨_, hz⟩ | ⟨b, cap, cur, rfl, _⟩
  · omega
  · refine ⟨⟨b, 0, none⟩, cap, rfl, rfl, fun j u hu => ?_⟩
    have hj : j < 7 := by
      have := (List.getElem?_eq_some_iff.1 hu).1
      exact this
    have := hc.cells (g := b) rfl (k * 7 + j) u (by rw [flatN_get N k hk j hj]; exact hu)
    rw [addr0P] at this ⊢
    exact this
theorem ShW.list {g : Nat} {nv : Value} {N : List (NdR × Value)} {w : World} (h : ShW g nv N w) {k : Nat} (hk : k < N.length) : ∃ A cap, (N.getD k nv0).2 = .slice A (N.getD k nv0).1.l.length cap ∧ ∀ j, j < (N.getD k nv0).1.l.length → ∃ x, A = some x ∧ w.cell? (x.add j) = some (.int .i64 ((N.getD k nv0).1.l.getD j 0)) := by
  obtain ⟨w0, h1, h2, h3, h4, h5⟩ := h
  have hm : N.getD k nv0 ∈ N := by simp [List.getD, hk]
  exact (h4 _ hm).below h5
theorem ShC.setL {B g : Nat} {w : World} {nv p bv : Value} {lf : Nat} {l : Bs} (h : ShC B g w nv (lf + 1) l p bv) : ∃ w1, w.setCell ⟨g, 1, none⟩ (.int .i64 (lf : Int)) = w1 ∧ ShC B g w1 nv lf l p bv ∧ ShF g w w1 := by
  have o := (Ofr.refl g none w).set 1 (.int .i64 (lf : Int))
  exact ⟨_, rfl, ⟨h.hg, Nat.le_trans h.hB o.size, has_set h.cells 1 _, h.ptr, own_ofr h.own o h.hg (Classical.em _)⟩, (ShF.refl g w).set 1 _⟩
theorem nl_st (w : World) (c0 c1 c2 c3 c4 c5 c6 : Value) : ∃ wa w', w.alloc (.cells #[.int .i64 0, .int .i64 0, .int .i64 0, .int .i64 0, .string ⟨#[]⟩, .int .u32 0, .slice none 0 0] 35) = wa ∧
    (((((((wa.setCell ⟨w.heap.size, 0, none⟩ c0).setCell ⟨w.heap.size, 1, none⟩ c1).setCell ⟨w.heap.size, 2, none⟩ c2).setCell ⟨w.heap.size, 3, none⟩ c3).setCell ⟨w.heap.size, 4, none⟩ c4).setCell ⟨w.heap.size, 5, none⟩ c5).setCell ⟨w.heap.size, 6, none⟩ c6) = w' ∧ Hid (HasB wa w.heap.size 35 ndZ) ∧ Hid (HasB w' w.heap.size 35 [c0, c1, c2, c3, c4, c5, c6]) ∧ Hid (Below w.heap.size w w') :=
  ⟨_, _, rfl, rfl, Lib.hid (HasB.new w _ _), Lib.hid (has_set7 (HasB.new w _ _) _ _ _ _ _ _ _), Lib.hid (set7_bel (Nat.le_refl _) (bel_al (Below.refl _ _) _) _ _ _ _ _ _ _)⟩
def fvN (wh : Bool) : Value := if wh then .func (.func 15) #[] #[] else .func (.func 25) #[] #[]
def NodC (B g M : Nat) (nv : Value) (N : List (NdR × Value)) (f : Nat) : Prop := ∀ (at_ : Int) (behind : Nat) (wh : Bool) (left : Nat) (l : Bs) (w : World), ShT B g w nv left l → ShW g nv N w → behind ≤ f → behind ≤ N.length → left ≤ 1000 → l.length + KM M * left ≤ 90000000 →
  Calls Tryz.prog 14 #[.pointer (some ⟨g, 0, none⟩), .int .i64 at_, .int .i64 behind, fvN wh] w fun e w' => e = .returned (.tuple #[]) ∧ ShT B g w' nv (nodeS (N.map Prod.fst) f at_ behind wh (left, l)).1 (nodeS (N.map Prod.fst) f at_ behind wh (left, l)).2 ∧ ShF g w w'
theorem ask_new (w : World) : ∃ w1, w.alloc (.cells #[.string ⟨#[63]⟩] 9) = w1 ∧ Hid (HasB w1 w.heap.size 9 (([[63]] : List Bs).map fun t => .string (strB t))) ∧ Hid (Below w.heap.size w w1) := ⟨_, rfl, Lib.hid (HasB.new w _ _), Lib.hid (bel_al (Below.refl _ _) _)⟩
theorem wd_new (w : World) (t : Bs) : ∃ w1, w.alloc (.cells #[.string (strB t)] 9) = w1 ∧ Hid (HasB w1 w.heap.size 9 (([t] : List Bs).map fun t => .string (strB t))) ∧ Hid (Below w.heap.size w w1) := ⟨_, rfl, Lib.hid (HasB.new w _ _), Lib.hid (bel_al (Below.refl _ _) _)⟩
theorem node_no {G : List NdR} {f : Nat} {x : Int} {b : Nat} {wh : Bool} {st : St2} (h : x < 0 ∨ (b : Int) ≤ x ∨ st.1 = 0) : nodeS G f x b wh st = (st.1, sayB st.2 [[63]]) := by
  cases f with
  | zero => rfl
  | succ f => simp only [nodeS]; rw [if_pos h]
set_option maxHeartbeats 8000000 in
theorem nod_ask {B g M : Nat} {nv : Value} {N : List (NdR × Value)} (at_ : Int) (behind : Nat) (wh : Bool) (left : Nat) (l : Bs) (w : World) (h : ShT B g w nv left l) (hc : at_ < 0 ∨ (behind : Int) ≤ at_ ∨ left = 0) (hl : l.length ≤ 90000000) :
    Calls Tryz.prog 14 #[.pointer (some ⟨g, 0, none⟩), .int .i64 at_, .int .i64 behind, fvN wh] w fun e w' => e = .returned (.tuple #[]) ∧ ShT B g w' nv left (sayB l [[63]]) ∧ ShF g w w' := by
  obtain ⟨w1, e1, Q1, B1⟩ := ask_new w
  have ltg := h.lt
  have CA := Lib.hid (say_any (h.bel B1.out) [[63]] 1 rfl Q1.out (by omega) (by rw [say_len]; simp; omega) (by simp))
  obtain ⟨p, bv, hC⟩ := h
  have c1 := hC.cells.cell 1
  simp only [List.getElem?_cons_zero, List.getElem?_cons_succ] at c1
  clear hC
  by_cases h0 : at_ < 0
  · go_enter Tryz.func14, Tryz.ntmps14
    go_wp2_with fail
    refine (CA.out).mono ?_; rintro e w2 ⟨rfl, S2, F2⟩
    have FIN := Lib.hid (And.intro S2 ((ShF.of B1.out (Nat.le_of_lt ltg)).trans F2))
    clear S2 F2 CA
    go_wp2
    first | (refine bodyPost_ret (results_none rfl _ _ _) rfl ?_; exact ⟨rfl, FIN.out⟩) | (go_end0; exact ⟨rfl, FIN.out⟩)
  · by_cases h1 : (behind : Int) ≤ at_
    · go_enter Tryz.func14, Tryz.ntmps14
      go_wp2_with fail
      refine (CA.out).mono ?_; rintro e w2 ⟨rfl, S2, F2⟩
      have FIN := Lib.hid (And.intro S2 ((ShF.of B1.out (Nat.le_of_lt ltg)).trans F2))
      clear S2 F2 CA
      go_wp2
      first | (refine bodyPost_ret (results_none rfl _ _ _) rfl ?_; exact ⟨rfl, FIN.out⟩) | (go_end0; exact ⟨rfl, FIN.out⟩)
    · have h2 : left = 0 := by omega
      subst h2
      have hz : ((0 : Nat) : Int) = 0 := rfl
      rw [hz] at c1
      go_enter Tryz.func14, Tryz.ntmps14
      go_wp2_with fail
      refine (CA.out).mono ?_; rintro e w2 ⟨rfl, S2, F2⟩
      have FIN := Lib.hid (And.intro S2 ((ShF.of B1.out (Nat.le_of_lt ltg)).trans F2))
      clear S2 F2 CA
      go_wp2
      first | (refine bodyPost_ret (results_none rfl _ _ _) rfl ?_; exact ⟨rfl, FIN.out⟩) | (go_end0; exact ⟨rfl, FIN.out⟩)
theorem strB_beqL (a b : Bs) : ((strB a).toList == b) = decide (a = b) := by
  rw [toList_of, strB_toList]
  by_cases h : a = b <;> simp [h]
/-- the parts of a node's form, so far -/
def fldP (N : List (NdR × Value)) (f k : Nat) (x : NdR) (st : St2) (P : List Bs) (j : Nat) : St2 := (P.take j).foldl (partS (fun y st => nodeS (N.map Prod.fst) f y k false st) x) st
theorem fld_bd {M : Nat} {N : List (NdR × Value)} (hM : FewN M (N.map Prod.fst)) (f k : Nat) (x : NdR) (hx : x.t.length ≤ M ∧ x.l.length ≤ M ∧ 0 ≤ x.v ∧ x.v ≤ 4294967295) (wh : Bool) (st : St2) (j : Nat) (hj : j < (Lib.fields (formS wh x)).length) :
    (fldP N f k x st (Lib.fields (formS wh x)) j).2.length + KM M * (fldP N f k x st (Lib.fields (formS wh x)) j).1 + (12 + 3 * M) ≤ st.2.length + KM M * st.1 + KM M ∧ (fldP N f k x st (Lib.fields (formS wh x)) j).1 ≤ st.1 := by
  have hfo := form_ok wh x
  have h := fold_bd (K := KM M) (c := 12 + 3 * M) (f := partS (fun y st => nodeS (N.map Prod.fst) f y k false st) x) ((Lib.fields (formS wh x)).take j) st (fun st p hp => part_bd (fun y st => node_bd hM f y k false st) x hx st p (hfo.2.2.2 p (List.mem_of_mem_take hp)))
  refine ⟨?_, h.2⟩
  have h1 := h.1
  rw [List.length_take, Nat.min_eq_left (by omega)] at h1
  have h2 : (12 + 3 * M) * (j + 1) ≤ KM M := by
    unfold KM
    rw [Nat.mul_comm 9]
    exact Nat.mul_le_mul_left _ (by omega)
  rw [Nat.mul_add] at h2
  unfold fldP
  omega
theorem fld_next {N : List (NdR × Value)} {f k : Nat} {x : NdR} {st : St2} {P : List Bs} {j : Nat} (hj : j < P.length) : fldP N f k x st P (j + 1) = partS (fun y st => nodeS (N.map Prod.fst) f y k false st) x (fldP N f k x st P j) (P.getD j []) := by
  unfold fldP
  rw [take_snoc' hj, List.foldl_append]; rfl
set_option maxHeartbeats 32000000 in
theorem nod_any {B g M : Nat} {nv : Value} {N : List (NdR × Value)} (hM : FewN M (N.map Prod.fst)) (hN : N.length ≤ 100000) : ∀ f, NodC B g M nv N f := by
  intro f
  induction f with
  | zero =>
    intro at_ behind wh left l w h hW hf hb h1 hl
    have hc : at_ < 0 ∨ (behind : Int) ≤ at_ ∨ left = 0 := by omega
    rw [node_no (G := N.map Prod.fst) (f := 0) (b := behind) (wh := wh) (st := (left, l)) hc]
    exact nod_ask (M := M) (N := N) at_ behind wh left l w h hc (by omega)
  | succ f ih =>
    intro at_ behind wh left l w h hW hf hb h1 hl
    by_cases hc : at_ < 0 ∨ (behind : Int) ≤ at_ ∨ left = 0
    · rw [node_no (G := N.map Prod.fst) (f := f + 1) (b := behind) (wh := wh) (st := (left, l)) hc]
      exact nod_ask (M := M) (N := N) at_ behind wh left l w h hc (by omega)
    obtain ⟨k, rfl⟩ : ∃ k : Nat, at_ = k := ⟨at_.toNat, by omega⟩
    have hkb : k < behind := by omega
    have hkN : k < N.length := by omega
    obtain ⟨lf, rfl⟩ : ∃ lf, left = lf + 1 := ⟨left - 1, by omega⟩
    have IH := Lib.hid ih
    clear ih
    have hmap : (N.map Prod.fst).getD k nd0 = (N.getD k nv0).1 := by simp [List.getD, hkN]
    have hv : Hid (nodeS (N.map Prod.fst) (f + 1) (k : Int) behind wh (lf + 1, l) = fldP N f k (N.getD k nv0).1 (lf, l) (Lib.fields (formS wh (N.getD k nv0).1)) (Lib.fields (formS wh (N.getD k nv0).1)).length) := Lib.hid (by
      simp only [nodeS]
      rw [if_neg hc, Int.toNat_natCast, hmap]
      unfold fldP
      rw [List.take_length]; rfl)
    rw [hv.out]
    have hfew := few_get hM k
    rw [hmap] at hfew
    have LF := Lib.hid (fun w' (h : ShW g nv N w') => h.list hkN)
    have NF := Lib.hid (fun w' (h : ShW g nv N w') => h.node hkN)
    have hfo := Lib.hid (form_ok wh (N.getD k nv0).1)
    have HBD := Lib.hid (fun j hj => fld_bd hM f k (N.getD k nv0).1 hfew wh (lf, l) j hj)
    have HNX := Lib.hid (fun j hj => (fld_next hj : fldP N f k (N.getD k nv0).1 (lf, l) (Lib.fields (formS wh (N.getD k nv0).1)) (j + 1) = _))
    have hvx := hfew.2.2
    have hll := hfew.2.1
    have htl := hfew.1
    have CFW := Lib.hid (fun W => whole_any (N.getD k nv0).1 (N.getD k nv0).2 W)
    have CFF := Lib.hid (fun W => form_any (N.getD k nv0).1 (N.getD k nv0).2 W)
    have CFS : formS false (N.getD k nv0).1 = formB (N.getD k nv0).1.k (N.getD k nv0).1.c := by unfold formS; simp
    rw [← CFS] at CFF
    clear hv hfew hmap CFS
    generalize N.getD k nv0 = y at *
    obtain ⟨⟨xk, xa, xb, xc, xt, xv, xl⟩, L⟩ := y
    simp only at LF NF hvx hll htl hfo HBD HNX CFW CFF ⊢
    have ltg := h.lt
    obtain ⟨p, bv, hC⟩ := h
    have s1 := hC.cells.cell 1
    have t1 := hC.cells.frozen 1
    simp only [List.getElem?_cons_zero, List.getElem?_cons_succ] at s1
    obtain ⟨w1, e1, S1, F1⟩ := hC.setL
    have W1 := hW.bel F1.below
    have s0 := S1.cells.cell 0
    simp only [List.getElem?_cons_zero, List.getElem?_cons_succ] at s0
    obtain ⟨xa9, cap9, hnv, hsp, CC⟩ := NF.out w1 W1
    obtain ⟨LA, lcap, hL, _⟩ := LF.out w1 W1
    subst hL
    rw [hnv] at s0
    have d0 := CC 0 _ rfl
    have d1 := CC 1 _ rfl
    have d2 := CC 2 _ rfl
    have d3 := CC 3 _ rfl
    have d4 := CC 4 _ rfl
    have d5 := CC 5 _ rfl
    have d6 := CC 6 _ rfl
    have d0' : w1.cell? (xa9.add (k * 7)) = some (.int .i64 xk) := by
      have e : xa9.add (k * 7) = ⟨(xa9.add (k * 7)).block, (xa9.add (k * 7)).off + 0, none⟩ := by
        unfold Addr.add; split <;> (cases xa9; simp_all)
      rw [e]; exact d0
    simp only [Nat.add_zero] at d0
    have hkz : (k : Int) < (N.length : Int) := by omega
    have hkz2 : ¬ (behind : Int) ≤ (k : Int) := by omega
    have hlz : ¬ ((lf + 1 : Nat) : Int) = 0 := by omega
    have hls : ((lf + 1 : Nat) : Int) - 1 = (lf : Int) := by omega
    obtain ⟨wa, w2, ea, e2, HZ, H2, B2⟩ := nl_st w1 (.int .i64 xk) (.int .i64 xa) (.int .i64 xb) (.int .i64 xc) (.string (strB xt)) (.int .u32 xv) (.slice LA xl.length lcap)
    have z0 := HZ.out.cell 0
    have z1 := HZ.out.cell 1
    have z2 := HZ.out.cell 2
    have z3 := HZ.out.cell 3
    have z4 := HZ.out.cell 4
    have z5 := HZ.out.cell 5
    have z6 := HZ.out.cell 6
    have y0 := HZ.out.frozen 0
    have y1 := HZ.out.frozen 1
    have y2 := HZ.out.frozen 2
    have y3 := HZ.out.frozen 3
    have y4 := HZ.out.frozen 4
    have y5 := HZ.out.frozen 5
    have y6 := HZ.out.frozen 6
    simp only [ndZ, List.getElem?_cons_zero, List.getElem?_cons_succ] at z0 z1 z2 z3 z4 z5 z6
    have n0 := H2.out.cell 0
    have n1 := H2.out.cell 1
    have n2 := H2.out.cell 2
    have n3 := H2.out.cell 3
    have n4 := H2.out.cell 4
    have n5 := H2.out.cell 5
    have n6 := H2.out.cell 6
    simp only [List.getElem?_cons_zero, List.getElem?_cons_succ] at n0 n1 n2 n3 n4 n5 n6
    have S2 := Lib.hid (show ShT B g w2 nv lf l from ⟨p, bv, S1.ofr B2.out⟩)
    have F2 := Lib.hid (F1.trans (ShF.of B2.out (Nat.le_of_lt S1.cells.lt)))
    have HW2 := Lib.hid (hW.bel F2.out.below)
    have jg := Lib.hid (show w1.heap.size ≠ g by have := S1.cells.lt; omega)
    have CFI := Lib.hid (fun s hs ha W => fields_any s hs ha W)
    have hk0 : decide ((k : Int) < 0) = false := by simp
    have hk00 : ¬ (k : Int) < 0 := by omega
    have HW0 := Lib.hid hW
    clear hC S1 F1 W1 CC d0 hW
    simp only [ndA, ndC] at CFW CFF
    cases wh with
    | false =>
      unfold fvN
      simp only [Bool.false_eq_true, if_false, if_true]
      go_enter Tryz.func14, Tryz.ntmps14
      go_wp2_with fail
      refine (CFF.out _).mono ?_; rintro e w3 ⟨rfl, b3⟩
      have CFD := Lib.hid (fields_any (strB (formS false (⟨xk, xa, xb, xc, xt, xv, xl⟩ : NdR))) (by have := hfo.out.1; rw [strB_size]; omega) (fun b hb => hfo.out.2.1 b hb) w3 ((HW2.out.bel (b3.mono (Nat.le_of_lt S2.out.lt))).env))
      rw [strB_toList] at CFD
      have H3 := Lib.hid (H2.out.below b3)
      have S3 := Lib.hid (S2.out.bel b3)
      have F3 := Lib.hid (F2.out.trans (ShF.of b3 (Nat.le_of_lt S2.out.lt)))
      have hP := Lib.hid (hfo.out.2.2)
      clear b3 CFW CFF S2 F2 H2 HW2 n0 n1 n2 n3 n4 n5 n6 z0 z1 z2 z3 z4 z5 z6 y0 y1 y2 y3 y4 y5 y6 d0' d1 d2 d3 d4 d5 d6 s0 s1 t1 HZ ea e2 e1 hfo
      generalize hPP : Lib.fields (formS false (⟨xk, xa, xb, xc, xt, xv, xl⟩ : NdR)) = P at *
      replace hPP := Lib.hid hPP
      go_wp2_with fail
      refine (CFD.out).mono ?_; rintro e w4 ⟨rfl, Q4, B4⟩
      have H4 := Lib.hid (H3.out.below B4)
      have S4 := Lib.hid (S3.out.bel B4)
      have F4 := Lib.hid (F3.out.trans (ShF.of B4 (Nat.le_of_lt S3.out.lt)))
      have Q4 := Lib.hid Q4
      have qg := Lib.hid (show w3.heap.size ≠ g by have := S3.out.lt; omega)
      clear CFD B4 S3 F3 H3
      obtain ⟨q, hq⟩ : ∃ q, w3.heap.size = q := ⟨_, rfl⟩
      obtain ⟨jn, hjn⟩ : ∃ jn, w1.heap.size = jn := ⟨_, rfl⟩
      rw [hq] at Q4 qg ⊢
      rw [hjn] at H4 jg ⊢
      go_wp2_with fail
      go_loopw [49] (fun v wr => ∃ j : Nat, v = .int .i64 j ∧ j ≤ P.length ∧ Hid (ShT B g wr nv (fldP N f k (⟨xk, xa, xb, xc, xt, xv, xl⟩ : NdR) (lf, l) P j).1 (fldP N f k (⟨xk, xa, xb, xc, xt, xv, xl⟩ : NdR) (lf, l) P j).2) ∧ Hid (ShF g w wr) ∧ Hid (HasB wr jn 35 [.int .i64 xk, .int .i64 xa, .int .i64 xb, .int .i64 xc, .string (strB xt), .int .u32 xv, .slice LA xl.length lcap]) ∧ Hid (HasB wr q 9 (P.map fun t => .string (strB t)))) (fun v _ => P.length - (intOf v).toNat)
      case atStart => exact ⟨0, rfl, Nat.zero_le _, Lib.hid (by simpa [fldP] using S4.out), F4, H4, Q4⟩
      case round =>
        obtain ⟨j, rfl, hj, HS, HF, HH, HQ⟩ := hrel
        clear S4 F4 H4 Q4
        rcases Nat.lt_or_ge j P.length with hlt | hge
        · have hjz : (j : Int) < (P.length : Int) := by omega
          have c0 : wr.cell? ⟨q, j, none⟩ = some (.string (strB (P.getD j []))) := by rw [HQ.out.cell j]; simp [List.getD, hlt]
          have hnx := Lib.hid (HNX.out j hlt)
          have hbd := Lib.hid (HBD.out j hlt)
          have hp5 := Lib.hid (hP.out.2 (P.getD j []) (by simp [List.getD, hlt]))
          have hW := Lib.hid (HW0.out.bel HF.out.below)
          have n0 := HH.out.cell 0
          have n1 := HH.out.cell 1
          have n2 := HH.out.cell 2
          have n3 := HH.out.cell 3
          have n4 := HH.out.cell 4
          have n5 := HH.out.cell 5
          have n6 := HH.out.cell 6
          simp only [List.getElem?_cons_zero, List.getElem?_cons_succ] at n0 n1 n2 n3 n4 n5 n6
          have ltr := HS.out.lt
          have hj9 : P.length ≤ 9 := hP.out.1
          have hm : P.length - (j + 1) < P.length - j := by omega
          generalize P.getD j [] = pt at *
          obtain ⟨st, hst⟩ : ∃ st, fldP N f k (⟨xk, xa, xb, xc, xt, xv, xl⟩ : NdR) (lf, l) P j = st := ⟨_, rfl⟩
          rw [hst] at HS hbd hnx
          have hb0 : st.2.length + KM M * st.1 + (12 + 3 * M) ≤ 90000000 := by have := hbd.out.1; (try simp only at this); rw [Nat.mul_add] at hl; omega
          have hb1 : st.1 ≤ 1000 := by have := hbd.out.2; (try simp only at this); omega
          have hM8 : M ≤ 30000000 := by omega
          have DONE : Hid (∀ wz, ShT B g wz nv (partS (fun y st => nodeS (N.map Prod.fst) f y k false st) (⟨xk, xa, xb, xc, xt, xv, xl⟩ : NdR) st pt).1 (partS (fun y st => nodeS (N.map Prod.fst) f y k false st) (⟨xk, xa, xb, xc, xt, xv, xl⟩ : NdR) st pt).2 → ShF g wr wz → (∃ j' : Nat, Value.int .i64 ((j : Int) + 1) = .int .i64 j' ∧ j' ≤ P.length ∧ Hid (ShT B g wz nv (fldP N f k (⟨xk, xa, xb, xc, xt, xv, xl⟩ : NdR) (lf, l) P j').1 (fldP N f k (⟨xk, xa, xb, xc, xt, xv, xl⟩ : NdR) (lf, l) P j').2) ∧ Hid (ShF g w wz) ∧ Hid (HasB wz jn 35 [.int .i64 xk, .int .i64 xa, .int .i64 xb, .int .i64 xc, .string (strB xt), .int .u32 xv, .slice LA xl.length lcap]) ∧ Hid (HasB wz q 9 (P.map fun t => .string (strB t)))) ∧ P.length - (intOf (Value.int .i64 ((j : Int) + 1))).toNat < P.length - (intOf (Value.int .i64 (j : Int))).toNat) := Lib.hid (fun wz h1 h2 => ⟨⟨j + 1, by simp, by omega, Lib.hid (by rw [hnx.out]; exact h1), Lib.hid (HF.out.trans h2), Lib.hid (h2.has _ _ _ (by decide) jg.out HH.out), Lib.hid (h2.has _ _ _ (by decide) qg.out HQ.out)⟩, by simp only [intOf]; omega⟩)
          have e65 : ((strB pt).toList == [65]) = decide (pt = [65]) := strB_beqL pt [65]
          have e66 : ((strB pt).toList == [66]) = decide (pt = [66]) := strB_beqL pt [66]
          have e67 : ((strB pt).toList == [67]) = decide (pt = [67]) := strB_beqL pt [67]
          have e78 : ((strB pt).toList == [78]) = decide (pt = [78]) := strB_beqL pt [78]
          have e86 : ((strB pt).toList == [86]) = decide (pt = [86]) := strB_beqL pt [86]
          have e79 : ((strB pt).toList == [79]) = decide (pt = [79]) := strB_beqL pt [79]
          have e76 : ((strB pt).toList == [76]) = decide (pt = [76]) := strB_beqL pt [76]
          have HS2 := Lib.hid (show ShT B g wr nv st.1 st.2 from HS.out)
          clear HNX HBD HQ HS hst hnx hbd
          by_cases a65 : pt = [65]
          · have x65 : ((strB pt).toList == [65]) = true := by rw [e65]; simp [a65]
            replace a65 := Lib.hid a65
            clear e65 e66 e67 e78 e86 e79 e76
            have CR := Lib.hid (IH.out xa k false st.1 st.2 wr HS2.out hW.out (by omega) (by omega) hb1 (by omega))
            unfold fvN at CR
            simp only [Bool.false_eq_true, if_false] at CR
            (try clear hvx)
            (try clear hll)
            (try clear htl)
            (try clear hl)
            (try clear hb0)
            (try clear hb1)
            (try clear hkz)
            (try clear hkz2)
            (try clear hlz)
            (try clear hls)
            (try clear hk0)
            (try clear hk00)
            (try clear h1)
            (try clear hf)
            (try clear hb)
            (try clear hkb)
            (try clear hkN)
            (try clear hN)
            (try clear hM)
            (try clear hc)
            (try clear hnv)
            (try clear hsp)
            (try clear cap9)
            (try clear hm)
            (try clear hlt)
            (try clear hj)
            go_wp2_with fail
            refine (CR.out).mono ?_; rintro e w5 ⟨rfl, S5, F5⟩
            have FIN := Lib.hid (DONE.out w5 (by rw [show partS (fun y st => nodeS (N.map Prod.fst) f y k false st) (⟨xk, xa, xb, xc, xt, xv, xl⟩ : NdR) st pt = nodeS (N.map Prod.fst) f xa k false st from by unfold partS; rw [if_pos a65.out]]; exact S5) F5)
            clear S5 F5 CR
            go_wp2
            exact FIN.out
          have x65 : ((strB pt).toList == [65]) = false := by rw [e65]; simp [a65]
          clear e65
          replace a65 := Lib.hid a65
          by_cases a66 : pt = [66]
          · have x66 : ((strB pt).toList == [66]) = true := by rw [e66]; simp [a66]
            replace a66 := Lib.hid a66
            clear e66 e67 e78 e86 e79 e76
            have CR := Lib.hid (IH.out xb k false st.1 st.2 wr HS2.out hW.out (by omega) (by omega) hb1 (by omega))
            unfold fvN at CR
            simp only [Bool.false_eq_true, if_false] at CR
            (try clear hvx)
            (try clear hll)
            (try clear htl)
            (try clear hl)
            (try clear hb0)
            (try clear hb1)
            (try clear hkz)
            (try clear hkz2)
            (try clear hlz)
            (try clear hls)
            (try clear hk0)
            (try clear hk00)
            (try clear h1)
            (try clear hf)
            (try clear hb)
            (try clear hkb)
            (try clear hkN)
            (try clear hN)
            (try clear hM)
            (try clear hc)
            (try clear hnv)
            (try clear hsp)
            (try clear cap9)
            (try clear hm)
            (try clear hlt)
            (try clear hj)
            go_wp2_with fail
            refine (CR.out).mono ?_; rintro e w5 ⟨rfl, S5, F5⟩
            have FIN := Lib.hid (DONE.out w5 (by rw [show partS (fun y st => nodeS (N.map Prod.fst) f y k false st) (⟨xk, xa, xb, xc, xt, xv, xl⟩ : NdR) st pt = nodeS (N.map Prod.fst) f xb k false st from by unfold partS; rw [if_neg a65.out, if_pos a66.out]]; exact S5) F5)
            clear S5 F5 CR
            go_wp2
            exact FIN.out
          have x66 : ((strB pt).toList == [66]) = false := by rw [e66]; simp [a66]
          clear e66
          replace a66 := Lib.hid a66
          by_cases a67 : pt = [67]
          · have x67 : ((strB pt).toList == [67]) = true := by rw [e67]; simp [a67]
            replace a67 := Lib.hid a67
            clear e67 e78 e86 e79 e76
            have CR := Lib.hid (IH.out xc k false st.1 st.2 wr HS2.out hW.out (by omega) (by omega) hb1 (by omega))
            unfold fvN at CR
            simp only [Bool.false_eq_true, if_false] at CR
            (try clear hvx)
            (try clear hll)
            (try clear htl)
            (try clear hl)
            (try clear hb0)
            (try clear hb1)
            (try clear hkz)
            (try clear hkz2)
            (try clear hlz)
            (try clear hls)
            (try clear hk0)
            (try clear hk00)
            (try clear h1)
            (try clear hf)
            (try clear hb)
            (try clear hkb)
            (try clear hkN)
            (try clear hN)
            (try clear hM)
            (try clear hc)
            (try clear hnv)
            (try clear hsp)
            (try clear cap9)
            (try clear hm)
            (try clear hlt)
            (try clear hj)
            go_wp2_with fail
            refine (CR.out).mono ?_; rintro e w5 ⟨rfl, S5, F5⟩
            have FIN := Lib.hid (DONE.out w5 (by rw [show partS (fun y st => nodeS (N.map Prod.fst) f y k false st) (⟨xk, xa, xb, xc, xt, xv, xl⟩ : NdR) st pt = nodeS (N.map Prod.fst) f xc k false st from by unfold partS; rw [if_neg a65.out, if_neg a66.out, if_pos a67.out]]; exact S5) F5)
            clear S5 F5 CR
            go_wp2
            exact FIN.out
          have x67 : ((strB pt).toList == [67]) = false := by rw [e67]; simp [a67]
          clear e67
          replace a67 := Lib.hid a67
          by_cases a78 : pt = [78]
          · have x78 : ((strB pt).toList == [78]) = true := by rw [e78]; simp [a78]
            replace a78 := Lib.hid a78
            clear e78 e86 e79 e76
            obtain ⟨w6, e6, Q6, B6⟩ := wd_new wr xt
            have CS := Lib.hid (say_any (HS2.out.bel B6.out) [xt] 1 rfl Q6.out (by have := HS2.out.lt; omega) (by rw [say_len]; simp; omega) (by simp))
            (try clear hvx)
            (try clear hll)
            (try clear htl)
            (try clear hl)
            (try clear hb0)
            (try clear hb1)
            (try clear hkz)
            (try clear hkz2)
            (try clear hlz)
            (try clear hls)
            (try clear hk0)
            (try clear hk00)
            (try clear h1)
            (try clear hf)
            (try clear hb)
            (try clear hkb)
            (try clear hkN)
            (try clear hN)
            (try clear hM)
            (try clear hc)
            (try clear hnv)
            (try clear hsp)
            (try clear cap9)
            (try clear hm)
            (try clear hlt)
            (try clear hj)
            go_wp2_with fail
            refine (CS.out).mono ?_; rintro e w7 ⟨rfl, S7, F7⟩
            have FIN := Lib.hid (DONE.out w7 (by rw [show partS (fun y st => nodeS (N.map Prod.fst) f y k false st) (⟨xk, xa, xb, xc, xt, xv, xl⟩ : NdR) st pt = (st.1, sayB st.2 [xt]) from by unfold partS; rw [if_neg a65.out, if_neg a66.out, if_neg a67.out, if_pos a78.out]]; exact S7) ((ShF.of B6.out (Nat.le_of_lt ltr)).trans F7))
            clear S7 F7 CS
            go_wp2
            exact FIN.out
          have x78 : ((strB pt).toList == [78]) = false := by rw [e78]; simp [a78]
          clear e78
          replace a78 := Lib.hid a78
          by_cases a86 : pt = [86]
          · have x86 : ((strB pt).toList == [86]) = true := by rw [e86]; simp [a86]
            replace a86 := Lib.hid a86
            clear e86 e79 e76
            have CU := Lib.hid (fmt_any xv.toNat (by omega) wr hW.out.env)
            have hxv : ((xv.toNat : Nat) : Int) = xv := by omega
            rw [hxv] at CU
            have hcv : IntKind.u64.wrap xv = xv := by rw [IntKind.wrap_u64]; omega
            go_wp2_with fail
            refine (CU.out).mono ?_; rintro e w5 ⟨rfl, b5⟩
            have HS5 := Lib.hid (HS2.out.bel b5)
            have B5 := Lib.hid b5
            have hdl := dig_le xv.toNat (by omega)
            clear b5 CU
            obtain ⟨w6, e6, Q6, B6⟩ := wd_new w5 (digB xv.toNat)
            have CS := Lib.hid (say_any (HS5.out.bel B6.out) [(digB xv.toNat)] 1 rfl Q6.out (by have := HS5.out.lt; omega) (by rw [say_len]; simp; omega) (by simp))
            (try clear hvx)
            (try clear hll)
            (try clear htl)
            (try clear hl)
            (try clear hb0)
            (try clear hb1)
            (try clear hkz)
            (try clear hkz2)
            (try clear hlz)
            (try clear hls)
            (try clear hk0)
            (try clear hk00)
            (try clear h1)
            (try clear hf)
            (try clear hb)
            (try clear hkb)
            (try clear hkN)
            (try clear hN)
            (try clear hM)
            (try clear hc)
            (try clear hnv)
            (try clear hsp)
            (try clear cap9)
            (try clear hm)
            (try clear hlt)
            (try clear hj)
            go_wp2_with fail
            refine (CS.out).mono ?_; rintro e w7 ⟨rfl, S7, F7⟩
            have FIN := Lib.hid (DONE.out w7 (by rw [show partS (fun y st => nodeS (N.map Prod.fst) f y k false st) (⟨xk, xa, xb, xc, xt, xv, xl⟩ : NdR) st pt = (st.1, sayB st.2 [(digB xv.toNat)]) from by unfold partS; rw [if_neg a65.out, if_neg a66.out, if_neg a67.out, if_neg a78.out, if_pos a86.out]]; exact S7) (((ShF.of B5.out (Nat.le_of_lt ltr)).trans (ShF.of B6.out (Nat.le_of_lt HS5.out.lt))).trans F7))
            clear S7 F7 CS
            go_wp2
            exact FIN.out
          have x86 : ((strB pt).toList == [86]) = false := by rw [e86]; simp [a86]
          clear e86
          replace a86 := Lib.hid a86
          by_cases a79 : pt = [79]
          · have x79 : ((strB pt).toList == [79]) = true := by rw [e79]; simp [a79]
            replace a79 := Lib.hid a79
            clear e79 e76
            have CU := Lib.hid (sgn_any xv wr hW.out.env.sg)
            go_wp2_with fail
            refine (CU.out).mono ?_; rintro e w5 ⟨rfl, b5⟩
            have HS5 := Lib.hid (HS2.out.bel b5)
            have B5 := Lib.hid b5
            have hdl := sgn_len xv
            clear b5 CU
            obtain ⟨w6, e6, Q6, B6⟩ := wd_new w5 (sgnB xv)
            have CS := Lib.hid (say_any (HS5.out.bel B6.out) [(sgnB xv)] 1 rfl Q6.out (by have := HS5.out.lt; omega) (by rw [say_len]; simp; omega) (by simp))
            (try clear hvx)
            (try clear hll)
            (try clear htl)
            (try clear hl)
            (try clear hb0)
            (try clear hb1)
            (try clear hkz)
            (try clear hkz2)
            (try clear hlz)
            (try clear hls)
            (try clear hk0)
            (try clear hk00)
            (try clear h1)
            (try clear hf)
            (try clear hb)
            (try clear hkb)
            (try clear hkN)
            (try clear hN)
            (try clear hM)
            (try clear hc)
            (try clear hnv)
            (try clear hsp)
            (try clear cap9)
            (try clear hm)
            (try clear hlt)
            (try clear hj)
            go_wp2_with fail
            refine (CS.out).mono ?_; rintro e w7 ⟨rfl, S7, F7⟩
            have FIN := Lib.hid (DONE.out w7 (by rw [show partS (fun y st => nodeS (N.map Prod.fst) f y k false st) (⟨xk, xa, xb, xc, xt, xv, xl⟩ : NdR) st pt = (st.1, sayB st.2 [(sgnB xv)]) from by unfold partS; rw [if_neg a65.out, if_neg a66.out, if_neg a67.out, if_neg a78.out, if_neg a86.out, if_pos a79.out]]; exact S7) (((ShF.of B5.out (Nat.le_of_lt ltr)).trans (ShF.of B6.out (Nat.le_of_lt HS5.out.lt))).trans F7))
            clear S7 F7 CS
            go_wp2
            exact FIN.out
          have x79 : ((strB pt).toList == [79]) = false := by rw [e79]; simp [a79]
          clear e79
          replace a79 := Lib.hid a79
          by_cases a76 : pt = [76]
          · have x76 : ((strB pt).toList == [76]) = true := by rw [e76]; simp [a76]
            replace a76 := Lib.hid a76
            clear e76

            go_wp2_with fail
            go_loopw [108] (fun v wz => ∃ i : Nat, v = .int .i64 i ∧ i ≤ xl.length ∧ Hid (ShT B g wz nv ((xl.take i).foldl (fun st y => nodeS (N.map Prod.fst) f y k false st) st).1 ((xl.take i).foldl (fun st y => nodeS (N.map Prod.fst) f y k false st) st).2) ∧ Hid (ShF g wr wz)) (fun v _ => xl.length - (intOf v).toNat)
            case atStart => exact ⟨0, rfl, Nat.zero_le _, Lib.hid HS2.out, Lib.hid (ShF.refl _ _)⟩
            case round =>
              obtain ⟨i, rfl, hi, GS, GF⟩ := hrel
              have hWz := Lib.hid (hW.out.bel GF.out.below)
              rcases Nat.lt_or_ge i xl.length with hil | hig
              · have hiz : (i : Int) < (xl.length : Int) := by omega
                obtain ⟨A2, cap2, hL2, LC2⟩ := LF.out _ hWz.out
                injection hL2 with hA2 _ hcp2
                subst hcp2
                subst hA2
                obtain ⟨xx, hxx, lc⟩ := LC2 i hil
                subst hxx
                have hfb := fold_bd (K := KM M) (c := 2) (f := fun st y => nodeS (N.map Prod.fst) f y k false st) (xl.take i) st (fun st y _ => node_bd hM f y k false st)
                rw [List.length_take, Nat.min_eq_left (by omega)] at hfb
                have htk : xl.take (i + 1) = xl.take i ++ [xl.getD i 0] := by rw [List.take_add_one]; simp [List.getD, hil]
                have hfo2 : Hid ((xl.take (i + 1)).foldl (fun st y => nodeS (N.map Prod.fst) f y k false st) st = nodeS (N.map Prod.fst) f (xl.getD i 0) k false ((xl.take i).foldl (fun st y => nodeS (N.map Prod.fst) f y k false st) st)) := Lib.hid (by rw [htk, List.foldl_append]; rfl)
                have hb3 := hfb.1
                have hb4 := hfb.2
                clear htk hfb LC2
                generalize (xl.take i).foldl (fun st y => nodeS (N.map Prod.fst) f y k false st) st = s2 at *
                generalize xl.getD i 0 = yy at *
                have CR := Lib.hid (IH.out yy k false s2.1 s2.2 _ GS.out hWz.out (by omega) (by omega) (by omega) (by omega))
                unfold fvN at CR
                simp only [Bool.false_eq_true, if_false] at CR
                go_wp2_with fail
                refine (CR.out).mono ?_; rintro e w5 ⟨rfl, S5, F5⟩
                have FIN := Lib.hid (And.intro (show ShT B g w5 nv ((xl.take (i + 1)).foldl (fun st y => nodeS (N.map Prod.fst) f y k false st) st).1 ((xl.take (i + 1)).foldl (fun st y => nodeS (N.map Prod.fst) f y k false st) st).2 by rw [hfo2.out]; exact S5) (GF.out.trans F5))
                clear S5 F5 CR
                go_wp2
                exact ⟨⟨i + 1, by simp, by omega, Lib.hid FIN.out.1, Lib.hid FIN.out.2⟩, by first | (simp only [intOf]; omega) | (simp [intOf]; omega)⟩
              · obtain rfl : i = xl.length := by omega
                have FIN := Lib.hid (DONE.out _ (by rw [show partS (fun y st => nodeS (N.map Prod.fst) f y k false st) (⟨xk, xa, xb, xc, xt, xv, xl⟩ : NdR) st pt = xl.foldl (fun st y => nodeS (N.map Prod.fst) f y k false st) st from by unfold partS; rw [if_neg a65.out, if_neg a66.out, if_neg a67.out, if_neg a78.out, if_neg a86.out, if_neg a79.out, if_pos a76.out]]; have := GS.out; rwa [List.take_length] at this) GF.out)
                go_wp2
                exact FIN.out
          have x76 : ((strB pt).toList == [76]) = false := by rw [e76]; simp [a76]
          clear e76
          replace a76 := Lib.hid a76
          have hpart : Hid (partS (fun y st => nodeS (N.map Prod.fst) f y k false st) (⟨xk, xa, xb, xc, xt, xv, xl⟩ : NdR) st pt = (st.1, sayB st.2 [pt])) := Lib.hid (by unfold partS; rw [if_neg a65.out, if_neg a66.out, if_neg a67.out, if_neg a78.out, if_neg a86.out, if_neg a79.out, if_neg a76.out])
          obtain ⟨w6, e6, Q6, B6⟩ := wd_new wr pt
          have hp6 := hp5.out
          have CS := Lib.hid (say_any (HS2.out.bel B6.out) [pt] 1 rfl Q6.out (by omega) (by rw [say_len]; simp; omega) (by simp))
          go_wp2_with fail
          refine (CS.out).mono ?_; rintro e w7 ⟨rfl, S7, F7⟩
          have FIN := Lib.hid (DONE.out w7 (by rw [hpart.out]; exact S7) ((ShF.of B6.out (Nat.le_of_lt ltr)).trans F7))
          clear S7 F7 CS
          go_wp2
          exact FIN.out
        · obtain rfl : j = P.length := by omega
          go_wp2
          first | (refine bodyPost_ret (results_none rfl _ _ _) rfl ?_; rw [hPP.out]; exact ⟨rfl, HS.out, HF.out⟩) | (go_end0; rw [hPP.out]; exact ⟨rfl, HS.out, HF.out⟩)
    | true =>
      unfold fvN
      simp only [Bool.false_eq_true, if_false, if_true]
      go_enter Tryz.func14, Tryz.ntmps14
      go_wp2_with fail
      refine (CFW.out _).mono ?_; rintro e w3 ⟨rfl, b3⟩
      have CFD := Lib.hid (fields_any (strB (formS true (⟨xk, xa, xb, xc, xt, xv, xl⟩ : NdR))) (by have := hfo.out.1; rw [strB_size]; omega) (fun b hb => hfo.out.2.1 b hb) w3 ((HW2.out.bel (b3.mono (Nat.le_of_lt S2.out.lt))).env))
      rw [strB_toList] at CFD
      have H3 := Lib.hid (H2.out.below b3)
      have S3 := Lib.hid (S2.out.bel b3)
      have F3 := Lib.hid (F2.out.trans (ShF.of b3 (Nat.le_of_lt S2.out.lt)))
      have hP := Lib.hid (hfo.out.2.2)
      clear b3 CFW CFF S2 F2 H2 HW2 n0 n1 n2 n3 n4 n5 n6 z0 z1 z2 z3 z4 z5 z6 y0 y1 y2 y3 y4 y5 y6 d0' d1 d2 d3 d4 d5 d6 s0 s1 t1 HZ ea e2 e1 hfo
      generalize hPP : Lib.fields (formS true (⟨xk, xa, xb, xc, xt, xv, xl⟩ : NdR)) = P at *
      replace hPP := Lib.hid hPP
      go_wp2_with fail
      refine (CFD.out).mono ?_; rintro e w4 ⟨rfl, Q4, B4⟩
      have H4 := Lib.hid (H3.out.below B4)
      have S4 := Lib.hid (S3.out.bel B4)
      have F4 := Lib.hid (F3.out.trans (ShF.of B4 (Nat.le_of_lt S3.out.lt)))
      have Q4 := Lib.hid Q4
      have qg := Lib.hid (show w3.heap.size ≠ g by have := S3.out.lt; omega)
      clear CFD B4 S3 F3 H3
      obtain ⟨q, hq⟩ : ∃ q, w3.heap.size = q := ⟨_, rfl⟩
      obtain ⟨jn, hjn⟩ : ∃ jn, w1.heap.size = jn := ⟨_, rfl⟩
      rw [hq] at Q4 qg ⊢
      rw [hjn] at H4 jg ⊢
      go_wp2_with fail
      go_loopw [49] (fun v wr => ∃ j : Nat, v = .int .i64 j ∧ j ≤ P.length ∧ Hid (ShT B g wr nv (fldP N f k (⟨xk, xa, xb, xc, xt, xv, xl⟩ : NdR) (lf, l) P j).1 (fldP N f k (⟨xk, xa, xb, xc, xt, xv, xl⟩ : NdR) (lf, l) P j).2) ∧ Hid (ShF g w wr) ∧ Hid (HasB wr jn 35 [.int .i64 xk, .int .i64 xa, .int .i64 xb, .int .i64 xc, .string (strB xt), .int .u32 xv, .slice LA xl.length lcap]) ∧ Hid (HasB wr q 9 (P.map fun t => .string (strB t)))) (fun v _ => P.length - (intOf v).toNat)
      case atStart => exact ⟨0, rfl, Nat.zero_le _, Lib.hid (by simpa [fldP] using S4.out), F4, H4, Q4⟩
      case round =>
        obtain ⟨j, rfl, hj, HS, HF, HH, HQ⟩ := hrel
        clear S4 F4 H4 Q4
        rcases Nat.lt_or_ge j P.length with hlt | hge
        · have hjz : (j : Int) < (P.length : Int) := by omega
          have c0 : wr.cell? ⟨q, j, none⟩ = some (.string (strB (P.getD j []))) := by rw [HQ.out.cell j]; simp [List.getD, hlt]
          have hnx := Lib.hid (HNX.out j hlt)
          have hbd := Lib.hid (HBD.out j hlt)
          have hp5 := Lib.hid (hP.out.2 (P.getD j []) (by simp [List.getD, hlt]))
          have hW := Lib.hid (HW0.out.bel HF.out.below)
          have n0 := HH.out.cell 0
          have n1 := HH.out.cell 1
          have n2 := HH.out.cell 2
          have n3 := HH.out.cell 3
          have n4 := HH.out.cell 4
          have n5 := HH.out.cell 5
          have n6 := HH.out.cell 6
          simp only [List.getElem?_cons_zero, List.getElem?_cons_succ] at n0 n1 n2 n3 n4 n5 n6
          have ltr := HS.out.lt
          have hj9 : P.length ≤ 9 := hP.out.1
          have hm : P.length - (j + 1) < P.length - j := by omega
          generalize P.getD j [] = pt at *
          obtain ⟨st, hst⟩ : ∃ st, fldP N f k (⟨xk, xa, xb, xc, xt, xv, xl⟩ : NdR) (lf, l) P j = st := ⟨_, rfl⟩
          rw [hst] at HS hbd hnx
          have hb0 : st.2.length + KM M * st.1 + (12 + 3 * M) ≤ 90000000 := by have := hbd.out.1; (try simp only at this); rw [Nat.mul_add] at hl; omega
          have hb1 : st.1 ≤ 1000 := by have := hbd.out.2; (try simp only at this); omega
          have hM8 : M ≤ 30000000 := by omega
          have DONE : Hid (∀ wz, ShT B g wz nv (partS (fun y st => nodeS (N.map Prod.fst) f y k false st) (⟨xk, xa, xb, xc, xt, xv, xl⟩ : NdR) st pt).1 (partS (fun y st => nodeS (N.map Prod.fst) f y k false st) (⟨xk, xa, xb, xc, xt, xv, xl⟩ : NdR) st pt).2 → ShF g wr wz → (∃ j' : Nat, Value.int .i64 ((j : Int) + 1) = .int .i64 j' ∧ j' ≤ P.length ∧ Hid (ShT B g wz nv (fldP N f k (⟨xk, xa, xb, xc, xt, xv, xl⟩ : NdR) (lf, l) P j').1 (fldP N f k (⟨xk, xa, xb, xc, xt, xv, xl⟩ : NdR) (lf, l) P j').2) ∧ Hid (ShF g w wz) ∧ Hid (HasB wz jn 35 [.int .i64 xk, .int .i64 xa, .int .i64 xb, .int .i64 xc, .string (strB xt), .int .u32 xv, .slice LA xl.length lcap]) ∧ Hid (HasB wz q 9 (P.map fun t => .string (strB t)))) ∧ P.length - (intOf (Value.int .i64 ((j : Int) + 1))).toNat < P.length - (intOf (Value.int .i64 (j : Int))).toNat) := Lib.hid (fun wz h1 h2 => ⟨⟨j + 1, by simp, by omega, Lib.hid (by rw [hnx.out]; exact h1), Lib.hid (HF.out.trans h2), Lib.hid (h2.has _ _ _ (by decide) jg.out HH.out), Lib.hid (h2.has _ _ _ (by decide) qg.out HQ.out)⟩, by simp only [intOf]; omega⟩)
          have e65 : ((strB pt).toList == [65]) = decide (pt = [65]) := strB_beqL pt [65]
          have e66 : ((strB pt).toList == [66]) = decide (pt = [66]) := strB_beqL pt [66]
          have e67 : ((strB pt).toList == [67]) = decide (pt = [67]) := strB_beqL pt [67]
          have e78 : ((strB pt).toList == [78]) = decide (pt = [78]) := strB_beqL pt [78]
          have e86 : ((strB pt).toList == [86]) = decide (pt = [86]) := strB_beqL pt [86]
          have e79 : ((strB pt).toList == [79]) = decide (pt = [79]) := strB_beqL pt [79]
          have e76 : ((strB pt).toList == [76]) = decide (pt = [76]) := strB_beqL pt [76]
          have HS2 := Lib.hid (show ShT B g wr nv st.1 st.2 from HS.out)
          clear HNX HBD HQ HS hst hnx hbd
          by_cases a65 : pt = [65]
          · have x65 : ((strB pt).toList == [65]) = true := by rw [e65]; simp [a65]
            replace a65 := Lib.hid a65
            clear e65 e66 e67 e78 e86 e79 e76
            have CR := Lib.hid (IH.out xa k false st.1 st.2 wr HS2.out hW.out (by omega) (by omega) hb1 (by omega))
            unfold fvN at CR
            simp only [Bool.false_eq_true, if_false] at CR
            (try clear hvx)
            (try clear hll)
            (try clear htl)
            (try clear hl)
            (try clear hb0)
            (try clear hb1)
            (try clear hkz)
            (try clear hkz2)
            (try clear hlz)
            (try clear hls)
            (try clear hk0)
            (try clear hk00)
            (try clear h1)
            (try clear hf)
            (try clear hb)
            (try clear hkb)
            (try clear hkN)
            (try clear hN)
            (try clear hM)
            (try clear hc)
            (try clear hnv)
            (try clear hsp)
            (try clear cap9)
            (try clear hm)
            (try clear hlt)
            (try clear hj)
            go_wp2_with fail
            refine (CR.out).mono ?_; rintro e w5 ⟨rfl, S5, F5⟩
            have FIN := Lib.hid (DONE.out w5 (by rw [show partS (fun y st => nodeS (N.map Prod.fst) f y k false st) (⟨xk, xa, xb, xc, xt, xv, xl⟩ : NdR) st pt = nodeS (N.map Prod.fst) f xa k false st from by unfold partS; rw [if_pos a65.out]]; exact S5) F5)
            clear S5 F5 CR
            go_wp2
            exact FIN.out
          have x65 : ((strB pt).toList == [65]) = false := by rw [e65]; simp [a65]
          clear e65
          replace a65 := Lib.hid a65
          by_cases a66 : pt = [66]
          · have x66 : ((strB pt).toList == [66]) = true := by rw [e66]; simp [a66]
            replace a66 := Lib.hid a66
            clear e66 e67 e78 e86 e79 e76
            have CR := Lib.hid (IH.out xb k false st.1 st.2 wr HS2.out hW.out (by omega) (by omega) hb1 (by omega))
            unfold fvN at CR
            simp only [Bool.false_eq_true, if_false] at CR
            (try clear hvx)
            (try clear hll)
            (try clear htl)
            (try clear hl)
            (try clear hb0)
            (try clear hb1)
            (try clear hkz)
            (try clear hkz2)
            (try clear hlz)
            (try clear hls)
            (try clear hk0)
            (try clear hk00)
            (try clear h1)
            (try clear hf)
            (try clear hb)
            (try clear hkb)
            (try clear hkN)
            (try clear hN)
            (try clear hM)
            (try clear hc)
            (try clear hnv)
            (try clear hsp)
            (try clear cap9)
            (try clear hm)
            (try clear hlt)
            (try clear hj)
            go_wp2_with fail
            refine (CR.out).mono ?_; rintro e w5 ⟨rfl, S5, F5⟩
            have FIN := Lib.hid (DONE.out w5 (by rw [show partS (fun y st => nodeS (N.map Prod.fst) f y k false st) (⟨xk, xa, xb, xc, xt, xv, xl⟩ : NdR) st pt = nodeS (N.map Prod.fst) f xb k false st from by unfold partS; rw [if_neg a65.out, if_pos a66.out]]; exact S5) F5)
            clear S5 F5 CR
            go_wp2
            exact FIN.out
          have x66 : ((strB pt).toList == [66]) = false := by rw [e66]; simp [a66]
          clear e66
          replace a66 := Lib.hid a66
          by_cases a67 : pt = [67]
          · have x67 : ((strB pt).toList == [67]) = true := by rw [e67]; simp [a67]
            replace a67 := Lib.hid a67
            clear e67 e78 e86 e79 e76
            have CR := Lib.hid (IH.out xc k false st.1 st.2 wr HS2.out hW.out (by omega) (by omega) hb1 (by omega))
            unfold fvN at CR
            simp only [Bool.false_eq_true, if_false] at CR
            (try clear hvx)
            (try clear hll)
            (try clear htl)
            (try clear hl)
            (try clear hb0)
            (try clear hb1)
            (try clear hkz)
            (try clear hkz2)
            (try clear hlz)
            (try clear hls)
            (try clear hk0)
            (try clear hk00)
            (try clear h1)
            (try clear hf)
            (try clear hb)
            (try clear hkb)
            (try clear hkN)
            (try clear hN)
            (try clear hM)
            (try clear hc)
            (try clear hnv)
            (try clear hsp)
            (try clear cap9)
            (try clear hm)
            (try clear hlt)
            (try clear hj)
            go_wp2_with fail
            refine (CR.out).mono ?_; rintro e w5 ⟨rfl, S5, F5⟩
            have FIN := Lib.hid (DONE.out w5 (by rw [show partS (fun y st => nodeS (N.map Prod.fst) f y k false st) (⟨xk, xa, xb, xc, xt, xv, xl⟩ : NdR) st pt = nodeS (N.map Prod.fst) f xc k false st from by unfold partS; rw [if_neg a65.out, if_neg a66.out, if_pos a67.out]]; exact S5) F5)
            clear S5 F5 CR
            go_wp2
            exact FIN.out
          have x67 : ((strB pt).toList == [67]) = false := by rw [e67]; simp [a67]
          clear e67
          replace a67 := Lib.hid a67
          by_cases a78 : pt = [78]
          · have x78 : ((strB pt).toList == [78]) = true := by rw [e78]; simp [a78]
            replace a78 := Lib.hid a78
            clear e78 e86 e79 e76
            obtain ⟨w6, e6, Q6, B6⟩ := wd_new wr xt
            have CS := Lib.hid (say_any (HS2.out.bel B6.out) [xt] 1 rfl Q6.out (by have := HS2.out.lt; omega) (by rw [say_len]; simp; omega) (by simp))
            (try clear hvx)
            (try clear hll)
            (try clear htl)
            (try clear hl)
            (try clear hb0)
            (try clear hb1)
            (try clear hkz)
            (try clear hkz2)
            (try clear hlz)
            (try clear hls)
            (try clear hk0)
            (try clear hk00)
            (try clear h1)
            (try clear hf)
            (try clear hb)
            (try clear hkb)
            (try clear hkN)
            (try clear hN)
            (try clear hM)
            (try clear hc)
            (try clear hnv)
            (try clear hsp)
            (try clear cap9)
            (try clear hm)
            (try clear hlt)
            (try clear hj)
            go_wp2_with fail
            refine (CS.out).mono ?_; rintro e w7 ⟨rfl, S7, F7⟩
            have FIN := Lib.hid (DONE.out w7 (by rw [show partS (fun y st => nodeS (N.map Prod.fst) f y k false st) (⟨xk, xa, xb, xc, xt, xv, xl⟩ : NdR) st pt = (st.1, sayB st.2 [xt]) from by unfold partS; rw [if_neg a65.out, if_neg a66.out, if_neg a67.out, if_pos a78.out]]; exact S7) ((ShF.of B6.out (Nat.le_of_lt ltr)).trans F7))
            clear S7 F7 CS
            go_wp2
            exact FIN.out
          have x78 : ((strB pt).toList == [78]) = false := by rw [e78]; simp [a78]
          clear e78
          replace a78 := Lib.hid a78
          by_cases a86 : pt = [86]
          · have x86 : ((strB pt).toList == [86]) = true := by rw [e86]; simp [a86]
            replace a86 := Lib.hid a86
            clear e86 e79 e76
            have CU := Lib.hid (fmt_any xv.toNat (by omega) wr hW.out.env)
            have hxv : ((xv.toNat : Nat) : Int) = xv := by omega
            rw [hxv] at CU
            have hcv : IntKind.u64.wrap xv = xv := by rw [IntKind.wrap_u64]; omega
            go_wp2_with fail
            refine (CU.out).mono ?_; rintro e w5 ⟨rfl, b5⟩
            have HS5 := Lib.hid (HS2.out.bel b5)
            have B5 := Lib.hid b5
            have hdl := dig_le xv.toNat (by omega)
            clear b5 CU
            obtain ⟨w6, e6, Q6, B6⟩ := wd_new w5 (digB xv.toNat)
            have CS := Lib.hid (say_any (HS5.out.bel B6.out) [(digB xv.toNat)] 1 rfl Q6.out (by have := HS5.out.lt; omega) (by rw [say_len]; simp; omega) (by simp))
            (try clear hvx)
            (try clear hll)
            (try clear htl)
            (try clear hl)
            (try clear hb0)
            (try clear hb1)
            (try clear hkz)
            (try clear hkz2)
            (try clear hlz)
            (try clear hls)
            (try clear hk0)
            (try clear hk00)
            (try clear h1)
            (try clear hf)
            (try clear hb)
            (try clear hkb)
            (try clear hkN)
            (try clear hN)
            (try clear hM)
            (try clear hc)
            (try clear hnv)
            (try clear hsp)
            (try clear cap9)
            (try clear hm)
            (try clear hlt)
            (try clear hj)
            go_wp2_with fail
            refine (CS.out).mono ?_; rintro e w7 ⟨rfl, S7, F7⟩
            have FIN := Lib.hid (DONE.out w7 (by rw [show partS (fun y st => nodeS (N.map Prod.fst) f y k false st) (⟨xk, xa, xb, xc, xt, xv, xl⟩ : NdR) st pt = (st.1, sayB st.2 [(digB xv.toNat)]) from by unfold partS; rw [if_neg a65.out, if_neg a66.out, if_neg a67.out, if_neg a78.out, if_pos a86.out]]; exact S7) (((ShF.of B5.out (Nat.le_of_lt ltr)).trans (ShF.of B6.out (Nat.le_of_lt HS5.out.lt))).trans F7))
            clear S7 F7 CS
            go_wp2
            exact FIN.out
          have x86 : ((strB pt).toList == [86]) = false := by rw [e86]; simp [a86]
          clear e86
          replace a86 := Lib.hid a86
          by_cases a79 : pt = [79]
          · have x79 : ((strB pt).toList == [79]) = true := by rw [e79]; simp [a79]
            replace a79 := Lib.hid a79
            clear e79 e76
            have CU := Lib.hid (sgn_any xv wr hW.out.env.sg)
            go_wp2_with fail
            refine (CU.out).mono ?_; rintro e w5 ⟨rfl, b5⟩
            have HS5 := Lib.hid (HS2.out.bel b5)
            have B5 := Lib.hid b5
            have hdl := sgn_len xv
            clear b5 CU
            obtain ⟨w6, e6, Q6, B6⟩ := wd_new w5 (sgnB xv)
            have CS := Lib.hid (say_any (HS5.out.bel B6.out) [(sgnB xv)] 1 rfl Q6.out (by have := HS5.out.lt; omega) (by rw [say_len]; simp; omega) (by simp))
            (try clear hvx)
            (try clear hll)
            (try clear htl)
            (try clear hl)
            (try clear hb0)
            (try clear hb1)
            (try clear hkz)
            (try clear hkz2)
            (try clear hlz)
            (try clear hls)
            (try clear hk0)
            (try clear hk00)
            (try clear h1)
            (try clear hf)
            (try clear hb)
            (try clear hkb)
            (try clear hkN)
            (try clear hN)
            (try clear hM)
            (try clear hc)
            (try clear hnv)
            (try clear hsp)
            (try clear cap9)
            (try clear hm)
            (try clear hlt)
            (try clear hj)
            go_wp2_with fail
            refine (CS.out).mono ?_; rintro e w7 ⟨rfl, S7, F7⟩
            have FIN := Lib.hid (DONE.out w7 (by rw [show partS (fun y st => nodeS (N.map Prod.fst) f y k false st) (⟨xk, xa, xb, xc, xt, xv, xl⟩ : NdR) st pt = (st.1, sayB st.2 [(sgnB xv)]) from by unfold partS; rw [if_neg a65.out, if_neg a66.out, if_neg a67.out, if_neg a78.out, if_neg a86.out, if_pos a79.out]]; exact S7) (((ShF.of B5.out (Nat.le_of_lt ltr)).trans (ShF.of B6.out (Nat.le_of_lt HS5.out.lt))).trans F7))
            clear S7 F7 CS
            go_wp2
            exact FIN.out
          have x79 : ((strB pt).toList == [79]) = false := by rw [e79]; simp [a79]
          clear e79
          replace a79 := Lib.hid a79
          by_cases a76 : pt = [76]
          · have x76 : ((strB pt).toList == [76]) = true := by rw [e76]; simp [a76]
            replace a76 := Lib.hid a76
            clear e76

            go_wp2_with fail
            go_loopw [108] (fun v wz => ∃ i : Nat, v = .int .i64 i ∧ i ≤ xl.length ∧ Hid (ShT B g wz nv ((xl.take i).foldl (fun st y => nodeS (N.map Prod.fst) f y k false st) st).1 ((xl.take i).foldl (fun st y => nodeS (N.map Prod.fst) f y k false st) st).2) ∧ Hid (ShF g wr wz)) (fun v _ => xl.length - (intOf v).toNat)
            case atStart => exact ⟨0, rfl, Nat.zero_le _, Lib.hid HS2.out, Lib.hid (ShF.refl _ _)⟩
            case round =>
              obtain ⟨i, rfl, hi, GS, GF⟩ := hrel
              have hWz := Lib.hid (hW.out.bel GF.out.below)
              rcases Nat.lt_or_ge i xl.length with hil | hig
              · have hiz : (i : Int) < (xl.length : Int) := by omega
                obtain ⟨A2, cap2, hL2, LC2⟩ := LF.out _ hWz.out
                injection hL2 with hA2 _ hcp2
                subst hcp2
                subst hA2
                obtain ⟨xx, hxx, lc⟩ := LC2 i hil
                subst hxx
                have hfb := fold_bd (K := KM M) (c := 2) (f := fun st y => nodeS (N.map Prod.fst) f y k false st) (xl.take i) st (fun st y _ => node_bd hM f y k false st)
                rw [List.length_take, Nat.min_eq_left (by omega)] at hfb
                have htk : xl.take (i + 1) = xl.take i ++ [xl.getD i 0] := by rw [List.take_add_one]; simp [List.getD, hil]
                have hfo2 : Hid ((xl.take (i + 1)).foldl (fun st y => nodeS (N.map Prod.fst) f y k false st) st = nodeS (N.map Prod.fst) f (xl.getD i 0) k false ((xl.take i).foldl (fun st y => nodeS (N.map Prod.fst) f y k false st) st)) := Lib.hid (by rw [htk, List.foldl_append]; rfl)
                have hb3 := hfb.1
                have hb4 := hfb.2
                clear htk hfb LC2
                generalize (xl.take i).foldl (fun st y => nodeS (N.map Prod.fst) f y k false st) st = s2 at *
                generalize xl.getD i 0 = yy at *
                have CR := Lib.hid (IH.out yy k false s2.1 s2.2 _ GS.out hWz.out (by omega) (by omega) (by omega) (by omega))
                unfold fvN at CR
                simp only [Bool.false_eq_true, if_false] at CR
                go_wp2_with fail
                refine (CR.out).mono ?_; rintro e w5 ⟨rfl, S5, F5⟩
                have FIN := Lib.hid (And.intro (show ShT B g w5 nv ((xl.take (i + 1)).foldl (fun st y => nodeS (N.map Prod.fst) f y k false st) st).1 ((xl.take (i + 1)).foldl (fun st y => nodeS (N.map Prod.fst) f y k false st) st).2 by rw [hfo2.out]; exact S5) (GF.out.trans F5))
                clear S5 F5 CR
                go_wp2
                exact ⟨⟨i + 1, by simp, by omega, Lib.hid FIN.out.1, Lib.hid FIN.out.2⟩, by first | (simp only [intOf]; omega) | (simp [intOf]; omega)⟩
              · obtain rfl : i = xl.length := by omega
                have FIN := Lib.hid (DONE.out _ (by rw [show partS (fun y st => nodeS (N.map Prod.fst) f y k false st) (⟨xk, xa, xb, xc, xt, xv, xl⟩ : NdR) st pt = xl.foldl (fun st y => nodeS (N.map Prod.fst) f y k false st) st from by unfold partS; rw [if_neg a65.out, if_neg a66.out, if_neg a67.out, if_neg a78.out, if_neg a86.out, if_neg a79.out, if_pos a76.out]]; have := GS.out; rwa [List.take_length] at this) GF.out)
                go_wp2
                exact FIN.out
          have x76 : ((strB pt).toList == [76]) = false := by rw [e76]; simp [a76]
          clear e76
          replace a76 := Lib.hid a76
          have hpart : Hid (partS (fun y st => nodeS (N.map Prod.fst) f y k false st) (⟨xk, xa, xb, xc, xt, xv, xl⟩ : NdR) st pt = (st.1, sayB st.2 [pt])) := Lib.hid (by unfold partS; rw [if_neg a65.out, if_neg a66.out, if_neg a67.out, if_neg a78.out, if_neg a86.out, if_neg a79.out, if_neg a76.out])
          obtain ⟨w6, e6, Q6, B6⟩ := wd_new wr pt
          have hp6 := hp5.out
          have CS := Lib.hid (say_any (HS2.out.bel B6.out) [pt] 1 rfl Q6.out (by omega) (by rw [say_len]; simp; omega) (by simp))
          go_wp2_with fail
          refine (CS.out).mono ?_; rintro e w7 ⟨rfl, S7, F7⟩
          have FIN := Lib.hid (DONE.out w7 (by rw [hpart.out]; exact S7) ((ShF.of B6.out (Nat.le_of_lt ltr)).trans F7))
          clear S7 F7 CS
          go_wp2
          exact FIN.out
        · obtain rfl : j = P.length := by omega
          go_wp2
          first | (refine bodyPost_ret (results_none rfl _ _ _) rfl ?_; rw [hPP.out]; exact ⟨rfl, HS.out, HF.out⟩) | (go_end0; rw [hPP.out]; exact ⟨rfl, HS.out, HF.out⟩)
end Go.Proofs.YtkacplcilkogpaaGreatDoor.Mm
