/- A declaration is read. -/
import Derived.Test.YtkacplcilkogpaaGreatDoorQPrC
import Derived.Test.YtkacplcilkogpaaGreatDoorQPrE
namespace Go.Proofs.YtkacplcilkogpaaGreatDoor.Mm
open Go.ChangeShapes Go.WideShapes Go.ChangeAt Go.RowKit
set_option linter.unusedVariables false
set_option linter.unusedSimpArgs false
set_option maxRecDepth 10000

def celE (ws : List Pc) : Except Nat (Int × List Pc) := must [91] ws fun r => nbP r fun v r => must [93] r fun r => .ok (v, r)
theorem nb_yes {α : Type} {ws : List Pc} {k : Int → List Pc → Except Nat α} (h : hdK 48 ws = true) : nbP ws k = k (ws.headD pc0).2.2 ws.tail := by
  cases ws with
  | nil => cases h
  | cons p r => show (if p.1 = 48 then k p.2.2 r else _) = _; rw [if_pos (by simpa [hdK] using h)]; rfl
theorem nb_no {α : Type} {ws : List Pc} {k : Int → List Pc → Except Nat α} (h : hdK 48 ws = false) : nbP ws k = .error ws.length := by
  cases ws with
  | nil => rfl
  | cons p r => show (if p.1 = 48 then k p.2.2 r else .error (r.length + 1)) = _; rw [if_neg (by simpa [hdK] using h)]; rfl
theorem nm_yes {α : Type} {ws : List Pc} {k : Bs → List Pc → Except Nat α} (h : hdK 110 ws = true) : nmP ws k = k (ws.headD pc0).2.1 ws.tail := by
  cases ws with
  | nil => cases h
  | cons p r => show (if p.1 = 110 then k p.2.1 r else _) = _; rw [if_pos (by simpa [hdK] using h)]; rfl
theorem nm_no {α : Type} {ws : List Pc} {k : Bs → List Pc → Except Nat α} (h : hdK 110 ws = false) : nmP ws k = .error ws.length := by
  cases ws with
  | nil => rfl
  | cons p r => show (if p.1 = 110 then k p.2.1 r else .error (r.length + 1)) = _; rw [if_neg (by simpa [hdK] using h)]; rfl
theorem hdv_ok {B g : Nat} {w : World} {S : Sr} (h : RdAt B g w S) (hk : hdK 48 S.ws = true) : 0 ≤ (S.ws.headD pc0).2.2 ∧ (S.ws.headD pc0).2.2 ≤ 4294967295 := by
  cases hws : S.ws with
  | nil => rw [hws] at hk; cases hk
  | cons p r =>
    have ok := h.wok p (by unfold Sr.ws at hws; exact List.mem_of_mem_drop (by rw [hws]; exact List.mem_cons_self))
    exact ⟨ok.v0, ok.v1⟩
def CelP (B g : Nat) (S : Sr) (w : World) (r : Except Nat (Int × List Pc)) (e : Ending) (w' : World) : Prop :=
  match r with
  | .error k => e = pan (S.W.length - k) ∧ Ofr g S.nv.ownBlock w w'
  | .ok (v, r) => ∃ S', e = .returned (.int .i64 v) ∧ RdAt B g w' S' ∧ Stp g S S' w w' ∧ S'.ws = r ∧ S'.N = S.N ∧ S'.nv = S.nv ∧ S'.deep = S.deep ∧ S'.great = (S.great || decide (1000 < v)) ∧ S.k ≤ S'.k
def Sr.gt (S : Sr) (v : Int) : Sr := { S with great := S.great || decide (1000 < v) }
set_option maxHeartbeats 8000000 in
theorem cells_any {B g : Nat} {S : Sr} {w : World} (h : RdAt B g w S) : Calls Tryz.prog 38 #[.pointer (some ⟨g, 0, none⟩)] w (CelP B g S w (celE S.ws)) := by
  have CM := must_any h [91] ks_of
  have hp0 := Lib.hid (pan_at h)
  have HH := Lib.hid h
  have hfd := fld2
  unfold celE
  cases hb : hdW [91] S.ws with
  | false =>
    rw [hb] at CM
    simp only [Bool.false_eq_true, if_false] at CM
    have CM := Lib.hid CM
    rw [must_no hb]
    clear h
    go_enter Tryz.func38, Tryz.ntmps38
    go_wp2_with fail
    refine (CM.out).mono ?_; rintro e w1 ⟨rfl, o3⟩
    have FIN : Hid (CelP B g S w (.error S.ws.length) (pan S.k) w1) := Lib.hid ⟨by rw [← hp0.out], o3⟩
    clear o3 CM
    unfold pan at FIN ⊢
    go_wp2
    first | exact FIN.out | exact ⟨rfl, FIN.out⟩
  | true =>
    rw [hb] at CM
    simp only [if_true] at CM
    have CM := Lib.hid CM
    rw [must_yes hb]
    have hu := Lib.hid (up_ws (t := [91]) h.le hb)
    rw [← hu.out]
    have CK := Lib.hid (fun w' (r : RdAt B g w' S.up) => kind_any r 48 (by decide))
    cases hk : hdK 48 S.up.ws with
    | false =>
      rw [nb_no hk]
      simp only [hk, Bool.false_eq_true, if_false] at CK
      have hp1 := Lib.hid (fun w1 (r : RdAt B g w1 S.up) => pan_at r)
      clear h
      go_enter Tryz.func38, Tryz.ntmps38
      go_wp2_with fail
      refine (CM.out).mono ?_; rintro e w1 ⟨rfl, R1, T1⟩
      have CK1 := Lib.hid (CK.out _ R1)
      have hp1 := Lib.hid (hp1.out _ R1)
      have T1 := Lib.hid T1
      clear R1 CM CK
      go_wp2_with fail
      refine (CK1.out).mono ?_; rintro e w2 ⟨rfl, o3⟩
      have FIN : Hid (CelP B g S w (.error S.up.ws.length) (pan S.up.k) w2) := Lib.hid ⟨by rw [hp1.out]; rfl, T1.out.fr.trans o3 T1.out.nw⟩
      clear o3 CK1
      unfold pan at FIN ⊢
      go_wp2
      first | exact FIN.out | exact ⟨rfl, FIN.out⟩
    | true =>
      rw [nb_yes hk]
      simp only [hk, if_true] at CK
      have hv := Lib.hid (fun w1 (r : RdAt B g w1 S.up) => hdv_ok r hk)
      have hku := Lib.hid (fun w1 (r : RdAt B g w1 S.up) => upk_ws (S := S.up) (k := 48) r.le hk)
      generalize S.up.ws.headD pc0 = q at *
      obtain ⟨pk, pt, pv⟩ := q
      simp only at hv ⊢
      unfold aggP at CK
      simp only at CK
      obtain ⟨t0, ht0⟩ : ∃ t0, Hid (S.up.ws.tail = t0) := ⟨_, Lib.hid rfl⟩
      rw [ht0.out]
      cases hm : hdW [93] t0 with
      | false =>
        rw [must_no hm]
        clear h
        go_enter Tryz.func38, Tryz.ntmps38
        go_wp2_with fail
        refine (CM.out).mono ?_; rintro e w1 ⟨rfl, R1, T1⟩
        have CK1 := Lib.hid (CK.out _ R1)
        have hku := Lib.hid (hku.out _ R1)
        have T1 := Lib.hid T1
        clear R1 CM CK
        go_wp2_with fail
        refine (CK1.out).mono ?_; rintro e w2 ⟨rfl, R2, T2⟩
        have CM2 := must_any R2 [93] ks_of
        rw [hku.out, ht0.out, hm] at CM2
        simp only [Bool.false_eq_true, if_false] at CM2
        have CM2 := Lib.hid CM2
        have hp2 := Lib.hid (pan_at R2)
        rw [hku.out, ht0.out] at hp2
        have T2 := Lib.hid (T1.out.trans T2)
        clear R2 CK1
        go_wp2_with fail
        refine (CM2.out).mono ?_; rintro e w3 ⟨rfl, o3⟩
        have FIN : Hid (CelP B g S w (.error t0.length) (pan S.up.up.k) w3) := Lib.hid ⟨by rw [hp2.out]; rfl, T2.out.fr.trans o3 T2.out.nw⟩
        clear o3 CM2
        unfold pan at FIN ⊢
        go_wp2
        first | exact FIN.out | exact ⟨rfl, FIN.out⟩
      | true =>
        rw [must_yes hm]
        have hpv : Hid (0 ≤ pv ∧ pv ≤ 4294967295) := Lib.hid (by
          have : S.k < S.W.length := hd_lt h.le hb
          exact hv.out _ (up_at (z := .int .i64 ((S.k : Int) + 1)) h this rfl).1)
        have hv0 := hpv.out.1
        have hv1 := hpv.out.2
        clear h hv
        cases hg : S.great with
        | false =>
          go_enter Tryz.func38, Tryz.ntmps38
          go_wp2_with fail
          refine (CM.out).mono ?_; rintro e w1 ⟨rfl, R1, T1⟩
          have CK1 := Lib.hid (CK.out _ R1)
          have hku := Lib.hid (hku.out _ R1)
          have T1 := Lib.hid T1
          clear R1 CM CK
          go_wp2_with fail
          refine (CK1.out).mono ?_; rintro e w2 ⟨rfl, R2, T2⟩
          have CM2 := must_any R2 [93] ks_of
          rw [hku.out, ht0.out, hm] at CM2
          simp only [if_true] at CM2
          have CM2 := Lib.hid CM2
          have hu3 := Lib.hid (up_ws (S := S.up.up) (t := [93]) R2.le (by rw [hku.out, ht0.out]; exact hm))
          rw [hku.out, ht0.out] at hu3
          have T2 := Lib.hid (T1.out.trans T2)
          clear R2 CK1
          go_wp2_with fail
          refine (CM2.out).mono ?_; rintro e w3 ⟨rfl, R3, T3⟩
          have c6 := R3.c6
          have f6 := R3.cells.frozen 6
          rw [show S.up.up.up.great = S.great from rfl, hg] at c6
          obtain ⟨R4, o4⟩ := R3.set (S' := S.up.up.up.gt pv) 6 (.bool (S.great || decide (1000 < pv))) rfl rfl rfl rfl rfl rfl rfl (Nat.le_refl _) R3.le R3.deepS
          rw [hg] at R4 o4
          simp only [Bool.false_or, Bool.true_or] at R4 o4
          obtain ⟨w4, e4, R4, o4⟩ : ∃ w4, w3.setCell ⟨g, 6, none⟩ (.bool (decide (1000 < pv))) = w4 ∧ Hid (RdAt B g w4 (S.up.up.up.gt pv)) ∧ Hid (Ofr g none w3 w4) := ⟨_, rfl, Lib.hid R4, Lib.hid o4⟩
          have FIN : Hid (Stp g S (S.up.up.up.gt pv) w w4) := Lib.hid ((T2.out.trans T3).trans ⟨rfl, rfl, rfl, rfl, rfl, .refl _ _, o4.out.grow⟩)
          clear R3 T3 CM2
          go_wp2
          go_ret
          exact ⟨_, ret_int (by first | rfl | simp | (rw [IntWalk.i64_in _ (by omega)])), R4.out, FIN.out, hu3.out, rfl, rfl, rfl, rfl, by show S.k ≤ S.k + 1 + 1 + 1; omega⟩
        | true =>
          go_enter Tryz.func38, Tryz.ntmps38
          go_wp2_with fail
          refine (CM.out).mono ?_; rintro e w1 ⟨rfl, R1, T1⟩
          have CK1 := Lib.hid (CK.out _ R1)
          have hku := Lib.hid (hku.out _ R1)
          have T1 := Lib.hid T1
          clear R1 CM CK
          go_wp2_with fail
          refine (CK1.out).mono ?_; rintro e w2 ⟨rfl, R2, T2⟩
          have CM2 := must_any R2 [93] ks_of
          rw [hku.out, ht0.out, hm] at CM2
          simp only [if_true] at CM2
          have CM2 := Lib.hid CM2
          have hu3 := Lib.hid (up_ws (S := S.up.up) (t := [93]) R2.le (by rw [hku.out, ht0.out]; exact hm))
          rw [hku.out, ht0.out] at hu3
          have T2 := Lib.hid (T1.out.trans T2)
          clear R2 CK1
          go_wp2_with fail
          refine (CM2.out).mono ?_; rintro e w3 ⟨rfl, R3, T3⟩
          have c6 := R3.c6
          have f6 := R3.cells.frozen 6
          rw [show S.up.up.up.great = S.great from rfl, hg] at c6
          obtain ⟨R4, o4⟩ := R3.set (S' := S.up.up.up.gt pv) 6 (.bool (S.great || decide (1000 < pv))) rfl rfl rfl rfl rfl rfl rfl (Nat.le_refl _) R3.le R3.deepS
          rw [hg] at R4 o4
          simp only [Bool.false_or, Bool.true_or] at R4 o4
          obtain ⟨w4, e4, R4, o4⟩ : ∃ w4, w3.setCell ⟨g, 6, none⟩ (.bool true) = w4 ∧ Hid (RdAt B g w4 (S.up.up.up.gt pv)) ∧ Hid (Ofr g none w3 w4) := ⟨_, rfl, Lib.hid R4, Lib.hid o4⟩
          have FIN : Hid (Stp g S (S.up.up.up.gt pv) w w4) := Lib.hid ((T2.out.trans T3).trans ⟨rfl, rfl, rfl, rfl, rfl, .refl _ _, o4.out.grow⟩)
          clear R3 T3 CM2
          go_wp2
          go_ret
          exact ⟨_, ret_int (by first | rfl | simp | (rw [IntWalk.i64_in _ (by omega)])), R4.out, FIN.out, hu3.out, rfl, rfl, rfl, rfl, by show S.k ≤ S.k + 1 + 1 + 1; omega⟩
/-- the reader, with a declaration of its own in a block of its own -/
structure LocD (B g : Nat) (S0 : Sr) (w0 : World) (S : Sr) (w : World) (j : Nat) (cs : List Value) : Prop where
  r : RdAt B g w S
  s : Stp g S0 S w0 w
  h : HasB w j 54 cs
  n : some j ≠ S.dv.ownBlock
  l : w0.heap.size ≤ j
  b : B ≤ w0.heap.size
theorem LocD.gj {B g : Nat} {S0 S : Sr} {w0 w : World} {j : Nat} {cs : List Value} (x : LocD B g S0 w0 S w j cs) : g < j := by have := x.r.hg; have := x.b; have := x.l; omega
theorem LocD.oth {B g : Nat} {S0 S : Sr} {w0 w w' : World} {j : Nat} {cs cs' : List Value} (x : LocD B g S0 w0 S w j cs) (o : Ofr j none w w') (h : HasB w' j 54 cs') : LocD B g S0 w0 S w' j cs' :=
  ⟨x.r.oth o x.gj (own_neB x.r.nodes x.h (by decide)) x.n (fun p hp => own_neB (x.r.lists p hp) x.h (by decide)), x.s.oth o x.l, h, x.n, x.l, x.b⟩
theorem locD_st {B g : Nat} {S0 S : Sr} {w0 w : World} (x : RdAt B g w S) (s : Stp g S0 S w0 w) (b : B ≤ w0.heap.size) (c0 c1 : Value) : ∃ wa w', w.alloc (.cells #[.string ⟨#[]⟩, .int .i64 0] 54) = wa ∧
    (wa.setCell ⟨w.heap.size, 0, none⟩ c0).setCell ⟨w.heap.size, 1, none⟩ c1 = w' ∧ Hid (HasB wa w.heap.size 54 [.string ⟨#[]⟩, .int .i64 0]) ∧ Hid (LocD B g S0 w0 S w' w.heap.size [c0, c1]) := by
  have b1 := bel_al (Below.refl _ w) (.cells #[.string ⟨#[]⟩, .int .i64 0] 54)
  have L : LocD B g S0 w0 S (w.alloc (.cells #[.string ⟨#[]⟩, .int .i64 0] 54)) w.heap.size [.string ⟨#[]⟩, .int .i64 0] := ⟨x.ofr b1, s.trans (.of b1), HasB.new w _ _, fun e => by have := (x.decls.lt _ e.symm).2; omega, s.fr.size, b⟩
  exact ⟨_, _, rfl, rfl, Lib.hid L.h, Lib.hid (L.oth (((Ofr.refl _ none _).set 0 c0).set 1 c1) (has_set (has_set L.h 0 c0) 1 c1))⟩
theorem LocD.set {B g : Nat} {S0 S : Sr} {w0 w : World} {j : Nat} {cs : List Value} (x : LocD B g S0 w0 S w j cs) (i : Nat) (v : Value) : ∃ w', w.setCell ⟨j, i, none⟩ v = w' ∧ Hid (LocD B g S0 w0 S w' j (cs.set i v)) :=
  ⟨_, rfl, Lib.hid (x.oth ((Ofr.refl j none w).set i v) (has_set x.h i v))⟩
theorem LocD.call {B g : Nat} {S0 S S' : Sr} {w0 w w' : World} {j : Nat} {cs : List Value} (x : LocD B g S0 w0 S w j cs) (r : RdAt B g w' S') (s : Stp g S S' w w') : LocD B g S0 w0 S' w' j cs :=
  ⟨r, x.s.trans s, x.h.ofr s.fr (by have := x.gj; omega) (own_neB x.r.nodes x.h (by decide)), by rw [s.dv]; exact x.n, x.l, x.b⟩
def Sr.apd (S : Sr) (x : Dc) (dv : Value) : Sr := { S with D := S.D ++ [x], dv := dv }
/-- declarations are read -/
structure DcS (B g : Nat) (S : Sr) (w : World) (S' : Sr) (w' : World) : Prop where
  r : RdAt B g w' S'
  V : S'.V = S.V
  W : S'.W = S.W
  N : S'.N = S.N
  nv : S'.nv = S.nv
  body : S'.body = S.body
  deep : S'.deep = S.deep
  nw : Nw w S.dv.ownBlock S'.dv.ownBlock
  fr : Ofr g S.dv.ownBlock w w'
  k : S.k ≤ S'.k
theorem app_dc {B g : Nat} {w : World} {S : Sr} {o : Oper} {a : Act} {K : Act → World → Prop} {Q : Exit → Act → World → Prop} (s x : Operand)
    (ho : o.op = .call { callee := .builtin .append, args := #[s, x], argTypes := #[23, 23] })
    (R : RdAt B g w S) (hs : a.eval s = S.dv) (y : Dc) (q : Nat) (hx : a.eval x = .slice (some ⟨q, 0, none⟩) 1 1) (hq : HasB w q 54 (dcC y)) (hn : S.D.length < S.k)
    (h : ∀ A cap w', RdAt B g (w'.setCell ⟨g, 2, none⟩ (.slice A (S.D.length + 1) cap)) (S.apd y (.slice A (S.D.length + 1) cap)) → Ofr g S.dv.ownBlock w (w'.setCell ⟨g, 2, none⟩ (.slice A (S.D.length + 1) cap)) → Nw w S.dv.ownBlock (Value.slice A (S.D.length + 1) cap).ownBlock → w.grownBy w' S.dv.ownBlock → w'.cell? ⟨g, 2, none⟩ = some S.dv → w'.frozen? ⟨g, 2, none⟩ = false → K (a.put o.dst (.slice A (S.D.length + 1) cap)) w') : o.wp Tryz.prog a w K Q := by
  obtain ⟨u0, hu0, hz0, hz1, hz2⟩ := info_parts dc_info
  have hk4 := few_of R
  obtain ⟨v', w', hrun, r1, r2, _, r4⟩ := run_append_own_at (P := Tryz.prog) w B 23 o.type 54 u0 _ 2 24 Tryz.underlying23 hu0 hz0 hz1 hz2 rfl (by decide) S.dv S.D.length _ R.decls ⟨q, 0, none⟩ 1 1 (dcC y) rfl
    (cellsN hq) (by intro u hu; simp only [dcC, List.mem_cons, List.not_mem_nil, or_false] at hu; rcases hu with rfl | rfl <;> rfl) (by unfold maxLen; omega) (by omega) R.hB
  unfold Oper.wp
  simp [execOp, ho, resolve, invoke, builtin, hs, hx, hrun, Result.andThen]
  have gne : some g ≠ S.dv.ownBlock := own_neB R.decls R.cells (by decide)
  have gh : HasB w' g 43 S.cs := R.cells.grown r2 gne
  have nw : Nw w S.dv.ownBlock v'.ownBlock := r4.imp id (fun e => ⟨_, e, Nat.le_refl _⟩)
  have fr : Ofr g S.dv.ownBlock w w' := ⟨r2.os, r2.tape, r2.output, r2.size, fun k hk _ h2 => r2.block k hk h2⟩
  obtain ⟨A, cap, rfl⟩ : ∃ A cap, v' = .slice A (S.D.length + 1) cap := by
    rcases r1.2 with ⟨_, hz⟩ | ⟨b, cap, cur, rfl, _⟩
    · omega
    · exact ⟨_, cap, rfl⟩
  have fr2 := fr.set 2 (.slice A (S.D.length + 1) cap)
  refine h A cap w' ⟨R.hg, Nat.le_trans R.hB fr2.size, has_set gh 2 _, ?_, R.few, R.le, ?_, ?_, ?_, ?_, R.deepS, R.nfew, R.sg.below (fr2.below (B := g) (Below.refl g w) (by have := R.cells.lt; omega) (Nat.le_refl _) (fun k hk => by have := (R.decls.lt k hk).1; have := R.hg; omega)) R.sgl, R.sgl⟩ fr2 nw r2 (gh.cell 2) (gh.frozen 2)
  · obtain ⟨A, cap, w0, h1, h2, h3, h4⟩ := R.words
    refine ⟨A, cap, w0, h1, h2, h3, fr2.below h4 (by have := R.hB; have := R.hg; omega) h3 (fun k hk => ?_)⟩
    have := (R.decls.lt k hk).1
    have := R.hg
    omega
  · have r1' : w'.ownsRow B 54 2 (.slice A (S.D.length + 1) cap) (S.D ++ [y]).length ((S.D ++ [y]).flatMap dcC) := by
      rw [List.flatMap_append, List.length_append]
      simpa using r1
    exact own_ofr r1' ((Ofr.refl g none w').set 2 _) R.hg (Classical.em _)
  · show (S.D ++ [y]).length ≤ S.k
    simp; omega
  · exact own_ofr R.nodes fr2 R.hg (own_ne R.nodes R.decls (by decide))
  · exact fun p hp => own_ofr (R.lists p hp) fr2 R.hg (own_ne (R.lists p hp) R.decls (by decide))
def DecP (B g : Nat) (S : Sr) (w : World) (r : Except Nat (Dc × List Pc)) (e : Ending) (w' : World) : Prop :=
  match r with
  | .error k => e = pan (S.W.length - k) ∧ Ofr g S.dv.ownBlock w w'
  | .ok (x, r) => ∃ S', e = .returned (.tuple #[]) ∧ DcS B g S w S' w' ∧ S'.ws = r ∧ S'.D = S.D ++ [x] ∧ S'.great = (S.great || decide (1000 < x.2)) ∧ S.k < S'.k
def decV (ws : List Pc) : Except Nat (Dc × List Pc) := nmP ws fun t r => must [59] r fun r => .ok ((t, -1), r)
def celB (r : Except Nat (Int × List Pc)) (k : Int → List Pc → Except Nat (Dc × List Pc)) : Except Nat (Dc × List Pc) := match r with | .ok (v, s) => k v s | .error e => .error e
def decA (ws : List Pc) : Except Nat (Dc × List Pc) := nmP ws fun t r => celB (celE r) fun v r => must [59] r fun r => .ok ((t, v), r)
theorem size_V (w : World) : Calls Tryz.prog 37 #[] w fun e w' => e = .returned (.int .i64 (-1)) ∧ w' = w := by
  go_enter Tryz.func37, Tryz.ntmps37
  go_wp2
  go_ret
  exact ⟨rfl, rfl⟩
set_option maxHeartbeats 16000000 in
theorem decl_V {B g : Nat} {S : Sr} {w : World} (h : RdAt B g w S) (hnv0 : S.nv = .slice none 0 0) : Calls Tryz.prog 36 #[.pointer (some ⟨g, 0, none⟩), .func (.func 37) #[] #[]] w (DecP B g S w (decV S.ws)) := by
  have HH := Lib.hid h
  have hnv := Lib.hid hnv0
  have CK := Lib.hid (kind_any h 110 (by decide))
  have hp0 := Lib.hid (pan_at h)
  have hfd := fld1
  have hDk0 := h.dfew
  unfold decV
  cases hk : hdK 110 S.ws with
  | false =>
    rw [hk] at CK
    simp only [Bool.false_eq_true, if_false] at CK
    rw [nm_no hk]
    clear h
    go_enter Tryz.func36, Tryz.ntmps36
    go_wp2_with fail
    refine (CK.out).mono ?_; rintro e w1 ⟨rfl, o3⟩
    have FIN : Hid (DecP B g S w (.error S.ws.length) (pan S.k) w1) := Lib.hid ⟨by rw [← hp0.out], by rw [show S.nv.ownBlock = none from by rw [hnv.out]; rfl] at o3; exact o3.grow⟩
    clear o3 CK
    unfold pan at FIN ⊢
    go_wp2
    first | exact FIN.out | exact ⟨rfl, FIN.out⟩
  | true =>
    rw [hk] at CK
    simp only [if_true] at CK
    rw [nm_yes hk]
    have hk1 := Lib.hid (hdk_lt (k := 110) h.le hk)
    have hu := Lib.hid (upk_ws (k := 110) h.le hk)
    generalize S.ws.headD pc0 = q at *
    obtain ⟨xk, xt, xz⟩ := q
    unfold aggP at CK
    simp only at CK ⊢
    obtain ⟨t0, ht0⟩ : ∃ t0, S.ws.tail = t0 := ⟨_, rfl⟩
    rw [ht0] at hu ⊢
    clear h
    cases hm : hdW [59] t0 with
    | false =>
      rw [must_no hm]
      go_enter Tryz.func36, Tryz.ntmps36
      go_wp2_with fail
      refine (CK.out).mono ?_; rintro e w1 ⟨rfl, R1, T1⟩
      have R1 := Lib.hid R1
      have T1 := Lib.hid T1
      obtain ⟨wa, wl, ea, el, HZ, L1⟩ := locD_st R1.out T1.out HH.out.hB (.string (strB xt)) (.int .i64 0)
      have z0 := HZ.out.cell 0
      have z1 := HZ.out.cell 1
      have y0 := HZ.out.frozen 0
      have y1 := HZ.out.frozen 1
      simp only [List.getElem?_cons_zero, List.getElem?_cons_succ] at z0 z1
      clear CK
      go_wp2_with fail
      refine (size_V _).mono ?_; rintro e wsz ⟨rfl, hwsz⟩
      subst hwsz
      obtain ⟨w2, e2, L2⟩ := L1.out.set 1 (.int .i64 (-1))
      simp only [List.set_cons_zero, List.set_cons_succ] at L2
      have m1 := L1.out.h.cell 1
      have pm1 := L1.out.h.frozen 1
      simp only [List.getElem?_cons_zero, List.getElem?_cons_succ] at m1
      have L3 := L2
      have CM := must_any L2.out.r [59] ks_of
      rw [hu.out, hm] at CM
      simp only [Bool.false_eq_true, if_false, if_true] at CM
      have CM := Lib.hid CM
      have hpm := Lib.hid (pan_at L2.out.r)
      rw [hu.out] at hpm
      clear L1
      go_wp2_with fail
      refine (CM.out).mono ?_; rintro e w5 ⟨rfl, o3⟩
      have FIN : Hid (DecP B g S w (.error t0.length) (pan S.up.k) w5) := Lib.hid ⟨by rw [hpm.out]; rfl, by have := L3.out.s.fr.trans o3 L3.out.s.nw; rw [show S.nv.ownBlock = none from by rw [hnv.out]; rfl] at this; exact this.grow⟩
      clear o3 CM
      unfold pan at FIN ⊢
      go_wp2
      first | exact FIN.out | exact ⟨rfl, FIN.out⟩
    | true =>
      rw [must_yes hm]
      go_enter Tryz.func36, Tryz.ntmps36
      go_wp2_with fail
      refine (CK.out).mono ?_; rintro e w1 ⟨rfl, R1, T1⟩
      have R1 := Lib.hid R1
      have T1 := Lib.hid T1
      obtain ⟨wa, wl, ea, el, HZ, L1⟩ := locD_st R1.out T1.out HH.out.hB (.string (strB xt)) (.int .i64 0)
      have z0 := HZ.out.cell 0
      have z1 := HZ.out.cell 1
      have y0 := HZ.out.frozen 0
      have y1 := HZ.out.frozen 1
      simp only [List.getElem?_cons_zero, List.getElem?_cons_succ] at z0 z1
      clear CK
      go_wp2_with fail
      refine (size_V _).mono ?_; rintro e wsz ⟨rfl, hwsz⟩
      subst hwsz
      obtain ⟨w2, e2, L2⟩ := L1.out.set 1 (.int .i64 (-1))
      simp only [List.set_cons_zero, List.set_cons_succ] at L2
      have m1 := L1.out.h.cell 1
      have pm1 := L1.out.h.frozen 1
      simp only [List.getElem?_cons_zero, List.getElem?_cons_succ] at m1
      have L3 := L2
      have CM := must_any L2.out.r [59] ks_of
      rw [hu.out, hm] at CM
      simp only [Bool.false_eq_true, if_false, if_true] at CM
      have CM := Lib.hid CM
      have hpm := Lib.hid (pan_at L2.out.r)
      rw [hu.out] at hpm
      clear L1
      have hu2 := Lib.hid (up_ws (S := S.up) (t := [59]) L2.out.r.le (by rw [hu.out]; exact hm))
      rw [hu.out] at hu2
      obtain ⟨xv, hxv⟩ : ∃ xv : Int, Hid (xv = -1) := ⟨-1, Lib.hid rfl⟩
      rw [← hxv.out] at L2 L3
      go_wp2_with fail
      refine (CM.out).mono ?_; rintro e wd ⟨rfl, R5, T5⟩
      have LD := Lib.hid (L3.out.call R5 T5)
      obtain ⟨SD, hSD⟩ : ∃ SD, S.up.up = SD := ⟨_, rfl⟩
      have hSN : Hid (SD.N = S.N) := Lib.hid (by rw [← hSD]; rfl)
      have hSv : Hid (SD.nv = S.nv) := Lib.hid (by rw [← hSD]; rfl)
      have hSd : Hid (SD.deep = S.deep) := Lib.hid (by rw [← hSD]; rfl)
      have hSw : Hid (SD.ws = t0.tail) := Lib.hid (by rw [← hSD]; exact hu2.out)
      have hSg : Hid (SD.great = (S.great || decide (1000 < xv))) := Lib.hid (by rw [← hSD, hxv.out]; show S.great = _; simp)
      have hkk : Hid (S.k < SD.k) := Lib.hid (by rw [← hSD]; show S.k < S.k + 1 + 1; omega)
      have hDk : Hid (SD.D.length < SD.k) := Lib.hid (by rw [← hSD]; show S.D.length < S.k + 1 + 1; omega)
      rw [hSD] at LD
      rw [← hxv.out]
      obtain ⟨jd, hjd⟩ : ∃ jd, w1.heap.size = jd := ⟨_, rfl⟩
      rw [hjd] at LD ⊢
      clear R5 T5 CM L2 L3 hSD ea el z0 z1 y0 y1 m1 pm1 e2 HZ
      have b2 := bel_al (below_drewP (Below.refl _ wd)) (.cells #[.string (strB xt), .int .i64 xv] 54)
      have Q2' := HasB.new wd.drew 54 [.string (strB xt), .int .i64 xv]
      obtain ⟨W2, e2, H2, R2, Q2, b2⟩ : ∃ W2, wd.drew.alloc (.cells #[.string (strB xt), .int .i64 xv] 54) = W2 ∧ Hid (HasB W2 jd 54 [.string (strB xt), .int .i64 xv]) ∧ Hid (RdAt B g W2 SD) ∧ Hid (HasB W2 wd.heap.size 54 [.string (strB xt), .int .i64 xv]) ∧ Hid (Below wd.heap.size wd W2) :=
        ⟨_, rfl, Lib.hid (LD.out.h.below b2), Lib.hid (LD.out.r.ofr b2), Lib.hid Q2', Lib.hid b2⟩
      have k2 := LD.out.r.c2
      have d2 := R2.out.c2
      have l0 := LD.out.h.cell 0
      have l1 := LD.out.h.cell 1
      simp only [List.getElem?_cons_zero, List.getElem?_cons_succ] at l0 l1
      have KS : Hid (∀ w', HasB w' jd 54 [.string (strB xt), .int .i64 xv] → (fun w' => w'.cell? ⟨jd, 0, none⟩ = some (.string (strB xt)) ∧ w'.cell? ⟨jd, 1, none⟩ = some (.int .i64 xv)) w') := Lib.hid (fun w' H => ⟨H.cell 0, H.cell 1⟩)
      have LNE : Hid (some jd ≠ SD.dv.ownBlock) := Lib.hid LD.out.n
      have GNE : Hid (¬ g = jd) := Lib.hid (by have := LD.out.gj; omega)
      obtain ⟨An, capn, hdv⟩ : ∃ A cap, SD.dv = .slice A SD.D.length cap := by
        rcases LD.out.r.decls.2 with ⟨e, e2⟩ | ⟨b, cap, cur, e, _⟩
        · exact ⟨none, 0, by rw [e, e2]⟩
        · exact ⟨_, cap, e⟩
      have FIN : Hid (∀ (dv : Value) w', RdAt B g w' (SD.apd (xt, xv) dv) → Ofr g SD.dv.ownBlock W2 w' → Nw W2 SD.dv.ownBlock dv.ownBlock → DcS B g S w (SD.apd (xt, xv) dv) w' ∧ (SD.apd (xt, xv) dv).ws = t0.tail ∧ (SD.apd (xt, xv) dv).D = S.D ++ [(xt, xv)] ∧ (SD.apd (xt, xv) dv).great = (S.great || decide (1000 < xv)) ∧ S.k < (SD.apd (xt, xv) dv).k) := Lib.hid (fun dv w' r o n => by
        have s1 := LD.out.s.trans (Stp.of (g := g) (S := SD) b2.out)
        have f1 : Ofr g none w W2 := by have := s1.fr; rw [show S.nv.ownBlock = none from by rw [hnv.out]; rfl] at this; exact this
        have e1 : SD.dv = S.dv := LD.out.s.dv
        rw [e1] at o n
        exact ⟨⟨r, LD.out.s.V, LD.out.s.W, hSN.out, hSv.out, LD.out.s.body, hSd.out, n.imp id (fun ⟨b, e, hb⟩ => ⟨b, e, Nat.le_trans s1.fr.size hb⟩), f1.grow.trans o (.refl _ _), Nat.le_of_lt hkk.out⟩, hSw.out, by show SD.D ++ [_] = _; rw [LD.out.s.D], hSg.out, hkk.out⟩)
      clear b2 Q2'
      go_wp2_with fail
      refine wp_region_noPanic ?_
      refine wp_region_held_drew (S := (fun w' => w'.cell? ⟨jd, 0, none⟩ = some (.string (strB xt)) ∧ w'.cell? ⟨jd, 1, none⟩ = some (.int .i64 xv))) (by kernel_rfl) ?_ (fun hHeld => ?_)
      · (try dsimp only)
        exact KS.out _ LD.out.h.drewH
      refine wpAnyH_take (i := 0) (oi := { dst := some 14, op := Op.move (Operand.tmp 0), type := 41, pos := "read.go:84", after := #[], guard := none }) (v := ?_) rfl (by kernel_rfl) (by kernel_rfl) (by kernel_rfl) (fun _ _ _ h => h) (Or.inl ⟨by rfl, ?_⟩) (by assumption) ?_
      rotate_left
      · intro w hSw; (try dsimp only at hSw); go_simp <;> (with_reducible rfl)
      (try simp only [Act.put, List.setIfInBounds_toArray, List.set_cons_zero, List.set_cons_succ])
      refine wpAnyH_take (i := 1) (oi := { dst := some 15, op := Op.move (Operand.tmp 0), type := 41, pos := "read.go:84", after := #[], guard := none }) (v := ?_) rfl (by kernel_rfl) (by kernel_rfl) (by kernel_rfl) (fun _ _ _ h => h) (Or.inl ⟨by rfl, ?_⟩) (by assumption) ?_
      rotate_left
      · intro w hSw; (try dsimp only at hSw); go_simp <;> (with_reducible rfl)
      (try simp only [Act.put, List.setIfInBounds_toArray, List.set_cons_zero, List.set_cons_succ])
      refine wpAnyH_take (i := 2) (oi := { dst := some 16, op := Op.nilCheck (Operand.tmp 15), type := 0, pos := "read.go:84", after := #[{ on := 1, ground := Ground.data }], guard := none }) (v := ?_) rfl (by kernel_rfl) (by kernel_rfl) (by kernel_rfl) (fun _ _ _ h => h) (Or.inl ⟨by rfl, ?_⟩) (by assumption) ?_
      rotate_left
      · intro w hSw; (try dsimp only at hSw); go_simp <;> (with_reducible rfl)
      (try simp only [Act.put, List.setIfInBounds_toArray, List.set_cons_zero, List.set_cons_succ])
      refine wpAnyH_take (i := 3) (oi := { dst := some 17, op := Op.fieldAddr 43 (Operand.tmp 16) 2, type := 0, pos := "read.go:84", after := #[{ on := 2, ground := Ground.data }], guard := none }) (v := ?_) rfl (by kernel_rfl) (by kernel_rfl) (by kernel_rfl) (fun _ _ _ h => h) (Or.inl ⟨by rfl, ?_⟩) (by assumption) ?_
      rotate_left
      · intro w hSw; (try dsimp only at hSw); go_simp <;> (with_reducible rfl)
      (try simp only [Act.put, List.setIfInBounds_toArray, List.set_cons_zero, List.set_cons_succ])
      refine wpAnyH_take (i := 4) (oi := { dst := some 18, op := Op.fieldAddr 26 (Operand.tmp 17) 0, type := 0, pos := "read.go:84", after := #[{ on := 3, ground := Ground.data }], guard := none }) (v := ?_) rfl (by kernel_rfl) (by kernel_rfl) (by kernel_rfl) (fun _ _ _ h => h) (Or.inl ⟨by rfl, ?_⟩) (by assumption) ?_
      rotate_left
      · intro w hSw; (try dsimp only at hSw); go_simp <;> (with_reducible rfl)
      (try simp only [Act.put, List.setIfInBounds_toArray, List.set_cons_zero, List.set_cons_succ])
      refine wpAnyH_take (i := 6) (oi := { dst := some 20, op := Op.load 54 (Operand.tmp 4), type := 54, pos := "read.go:84", after := #[], guard := none }) (v := ?_) rfl (by kernel_rfl) (by kernel_rfl) (by kernel_rfl) (fun _ _ _ h => h) (Or.inl ⟨by rfl, ?_⟩) (by assumption) ?_
      rotate_left
      · intro w hSw; (try dsimp only at hSw); go_simp <;> (with_reducible rfl)
      (try simp only [Act.put, List.setIfInBounds_toArray, List.set_cons_zero, List.set_cons_succ])
      refine wpAnyH_ready (rs := [5, 7]) (by kernel_rfl) (by simp) ?_
      refine AllReadyH.cons (o := { dst := some 19, op := Op.load 23 (Operand.tmp 18), type := 23, pos := "read.go:84", after := #[{ on := 4, ground := Ground.data }], guard := none }) rfl (fun K hK => ?_) ?_
      · go_simp
        refine hK.out _ _ ?_ (fun hHeld => ?_)
        · (try dsimp only)
          first | exact KS.out _ LD.out.h.drewH | exact KS.out _ H2.out
        clear hK K
        (try simp only [Act.put, List.setIfInBounds_toArray, List.set_cons_zero, List.set_cons_succ])
        refine wpAnyH_ready (rs := [7]) (by kernel_rfl) (by simp) ?_
        refine AllReadyH.cons (o := { dst := some 21, op := Op.buildSlice 23 1 #[(0, Operand.tmp 20)], type := 23, pos := "read.go:84", after := #[{ on := 6, ground := Ground.data }], guard := none }) rfl (fun K hK => ?_) ?_
        · go_simp
          refine hK.out _ _ ?_ (fun hHeld => ?_)
          · (try dsimp only)
            exact KS.out _ H2.out
          clear hK K
          (try simp only [Act.put, List.setIfInBounds_toArray, List.set_cons_zero, List.set_cons_succ])
          refine wpAnyH_ready (rs := [8]) (by kernel_rfl) (by simp) ?_
          refine AllReadyH.cons (o := { dst := some 22, op := Op.call { callee := Callee.builtin Builtin.append, args := #[Operand.tmp 19, Operand.tmp 21], argTypes := #[23, 23] }, type := 23, pos := "read.go:84", after := #[{ on := 5, ground := Ground.data }, { on := 7, ground := Ground.data }], guard := none }) rfl (fun K hK => ?_) ?_
          · refine app_dc (.tmp 19) (.tmp 21) rfl R2.out (by rw [hdv]; rfl) (xt, xv) wd.heap.size rfl Q2.out hDk.out ?_
            intro A9 cap9 w3 r3 o3 n3 g3 c3 f3
            have HB3 : HasB w3 jd 54 [.string (strB xt), .int .i64 xv] := H2.out.grown g3 LNE.out
            have HB4 : HasB (w3.setCell ⟨g, 2, none⟩ (.slice A9 (SD.D.length + 1) cap9)) jd 54 [.string (strB xt), .int .i64 xv] := HB3.same (by simp only [World.setCell, Array.getElem?_modify]; rw [if_neg GNE.out])
            refine hK.out _ _ ?_ (fun hHeld => ?_)
            · (try dsimp only)
              exact KS.out _ HB3
            clear hK K
            (try simp only [Act.put, List.setIfInBounds_toArray, List.set_cons_zero, List.set_cons_succ])
            refine wpAnyH_take (i := 9) (oi := { dst := some 23, op := Op.nilCheck (Operand.tmp 14), type := 0, pos := "read.go:84", after := #[{ on := 0, ground := Ground.data }, { on := 0, ground := Ground.phase }, { on := 1, ground := Ground.phase }, { on := 2, ground := Ground.phase }, { on := 3, ground := Ground.phase }, { on := 4, ground := Ground.phase }, { on := 5, ground := Ground.phase }, { on := 6, ground := Ground.phase }, { on := 7, ground := Ground.phase }, { on := 8, ground := Ground.phase }], guard := none }) (v := ?_) rfl (by kernel_rfl) (by kernel_rfl) (by kernel_rfl) (fun _ _ _ h => h) (Or.inl ⟨by rfl, ?_⟩) (by assumption) ?_
            rotate_left
            · intro w hSw; (try dsimp only at hSw); go_simp <;> (with_reducible rfl)
            (try simp only [Act.put, List.setIfInBounds_toArray, List.set_cons_zero, List.set_cons_succ])
            refine wpAnyH_take (i := 10) (oi := { dst := some 24, op := Op.fieldAddr 43 (Operand.tmp 23) 2, type := 0, pos := "read.go:84", after := #[{ on := 9, ground := Ground.data }, { on := 0, ground := Ground.phase }, { on := 1, ground := Ground.phase }, { on := 2, ground := Ground.phase }, { on := 3, ground := Ground.phase }, { on := 4, ground := Ground.phase }, { on := 5, ground := Ground.phase }, { on := 6, ground := Ground.phase }, { on := 7, ground := Ground.phase }, { on := 8, ground := Ground.phase }], guard := none }) (v := ?_) rfl (by kernel_rfl) (by kernel_rfl) (by kernel_rfl) (fun _ _ _ h => h) (Or.inl ⟨by rfl, ?_⟩) (by assumption) ?_
            rotate_left
            · intro w hSw; (try dsimp only at hSw); go_simp <;> (with_reducible rfl)
            (try simp only [Act.put, List.setIfInBounds_toArray, List.set_cons_zero, List.set_cons_succ])
            refine wpAnyH_take (i := 11) (oi := { dst := some 25, op := Op.fieldAddr 26 (Operand.tmp 24) 0, type := 0, pos := "read.go:84", after := #[{ on := 10, ground := Ground.data }, { on := 0, ground := Ground.phase }, { on := 1, ground := Ground.phase }, { on := 2, ground := Ground.phase }, { on := 3, ground := Ground.phase }, { on := 4, ground := Ground.phase }, { on := 5, ground := Ground.phase }, { on := 6, ground := Ground.phase }, { on := 7, ground := Ground.phase }, { on := 8, ground := Ground.phase }], guard := none }) (v := ?_) rfl (by kernel_rfl) (by kernel_rfl) (by kernel_rfl) (fun _ _ _ h => h) (Or.inl ⟨by rfl, ?_⟩) (by assumption) ?_
            rotate_left
            · intro w hSw; (try dsimp only at hSw); go_simp <;> (with_reducible rfl)
            (try simp only [Act.put, List.setIfInBounds_toArray, List.set_cons_zero, List.set_cons_succ])
            refine wpAnyH_ready (rs := [12]) (by kernel_rfl) (by simp) ?_
            refine AllReadyH.cons (o := { dst := none, op := Op.store 23 (Operand.tmp 25) (Operand.tmp 22), type := 0, pos := "read.go:84", after := #[{ on := 11, ground := Ground.data }, { on := 8, ground := Ground.data }, { on := 8, ground := Ground.chain }, { on := 0, ground := Ground.phase }, { on := 1, ground := Ground.phase }, { on := 2, ground := Ground.phase }, { on := 3, ground := Ground.phase }, { on := 4, ground := Ground.phase }, { on := 5, ground := Ground.phase }, { on := 6, ground := Ground.phase }, { on := 7, ground := Ground.phase }, { on := 8, ground := Ground.phase }], guard := none }) rfl (fun K hK => ?_) ?_
            · go_simp
              refine hK.out _ _ ?_ (fun hHeld => ?_)
              · (try dsimp only)
                exact KS.out _ HB4
              clear hK K
              (try simp only [Act.put, List.setIfInBounds_toArray, List.set_cons_zero, List.set_cons_succ])
              refine wpAnyH_done (by kernel_rfl) ?_ _
              refine NoPanic.normal ?_
              have FN := Lib.hid (FIN.out _ _ r3 o3 n3)
              generalize w3.setCell ⟨g, 2, none⟩ (.slice A9 (SD.D.length + 1) cap9) = w4 at *
              clear hHeld HB3 HB4 r3 o3 n3 g3 c3 f3
              go_wp2
              go_end0
              first | exact ⟨_, rfl, FN.out⟩ | (rw [hxv.out] at FN; exact ⟨_, rfl, FN.out⟩)
            exact AllReadyH.nil
          exact AllReadyH.nil
        exact AllReadyH.nil
      refine AllReadyH.cons (o := { dst := some 21, op := Op.buildSlice 23 1 #[(0, Operand.tmp 20)], type := 23, pos := "read.go:84", after := #[{ on := 6, ground := Ground.data }], guard := none }) rfl (fun K hK => ?_) ?_
      · go_simp
        refine hK.out _ _ ?_ (fun hHeld => ?_)
        · (try dsimp only)
          exact KS.out _ H2.out
        clear hK K
        (try simp only [Act.put, List.setIfInBounds_toArray, List.set_cons_zero, List.set_cons_succ])
        refine wpAnyH_ready (rs := [5]) (by kernel_rfl) (by simp) ?_
        refine AllReadyH.cons (o := { dst := some 19, op := Op.load 23 (Operand.tmp 18), type := 23, pos := "read.go:84", after := #[{ on := 4, ground := Ground.data }], guard := none }) rfl (fun K hK => ?_) ?_
        · go_simp
          refine hK.out _ _ ?_ (fun hHeld => ?_)
          · (try dsimp only)
            first | exact KS.out _ LD.out.h.drewH | exact KS.out _ H2.out
          clear hK K
          (try simp only [Act.put, List.setIfInBounds_toArray, List.set_cons_zero, List.set_cons_succ])
          refine wpAnyH_ready (rs := [8]) (by kernel_rfl) (by simp) ?_
          refine AllReadyH.cons (o := { dst := some 22, op := Op.call { callee := Callee.builtin Builtin.append, args := #[Operand.tmp 19, Operand.tmp 21], argTypes := #[23, 23] }, type := 23, pos := "read.go:84", after := #[{ on := 5, ground := Ground.data }, { on := 7, ground := Ground.data }], guard := none }) rfl (fun K hK => ?_) ?_
          · refine app_dc (.tmp 19) (.tmp 21) rfl R2.out (by rw [hdv]; rfl) (xt, xv) wd.heap.size rfl Q2.out hDk.out ?_
            intro A9 cap9 w3 r3 o3 n3 g3 c3 f3
            have HB3 : HasB w3 jd 54 [.string (strB xt), .int .i64 xv] := H2.out.grown g3 LNE.out
            have HB4 : HasB (w3.setCell ⟨g, 2, none⟩ (.slice A9 (SD.D.length + 1) cap9)) jd 54 [.string (strB xt), .int .i64 xv] := HB3.same (by simp only [World.setCell, Array.getElem?_modify]; rw [if_neg GNE.out])
            refine hK.out _ _ ?_ (fun hHeld => ?_)
            · (try dsimp only)
              exact KS.out _ HB3
            clear hK K
            (try simp only [Act.put, List.setIfInBounds_toArray, List.set_cons_zero, List.set_cons_succ])
            refine wpAnyH_take (i := 9) (oi := { dst := some 23, op := Op.nilCheck (Operand.tmp 14), type := 0, pos := "read.go:84", after := #[{ on := 0, ground := Ground.data }, { on := 0, ground := Ground.phase }, { on := 1, ground := Ground.phase }, { on := 2, ground := Ground.phase }, { on := 3, ground := Ground.phase }, { on := 4, ground := Ground.phase }, { on := 5, ground := Ground.phase }, { on := 6, ground := Ground.phase }, { on := 7, ground := Ground.phase }, { on := 8, ground := Ground.phase }], guard := none }) (v := ?_) rfl (by kernel_rfl) (by kernel_rfl) (by kernel_rfl) (fun _ _ _ h => h) (Or.inl ⟨by rfl, ?_⟩) (by assumption) ?_
            rotate_left
            · intro w hSw; (try dsimp only at hSw); go_simp <;> (with_reducible rfl)
            (try simp only [Act.put, List.setIfInBounds_toArray, List.set_cons_zero, List.set_cons_succ])
            refine wpAnyH_take (i := 10) (oi := { dst := some 24, op := Op.fieldAddr 43 (Operand.tmp 23) 2, type := 0, pos := "read.go:84", after := #[{ on := 9, ground := Ground.data }, { on := 0, ground := Ground.phase }, { on := 1, ground := Ground.phase }, { on := 2, ground := Ground.phase }, { on := 3, ground := Ground.phase }, { on := 4, ground := Ground.phase }, { on := 5, ground := Ground.phase }, { on := 6, ground := Ground.phase }, { on := 7, ground := Ground.phase }, { on := 8, ground := Ground.phase }], guard := none }) (v := ?_) rfl (by kernel_rfl) (by kernel_rfl) (by kernel_rfl) (fun _ _ _ h => h) (Or.inl ⟨by rfl, ?_⟩) (by assumption) ?_
            rotate_left
            · intro w hSw; (try dsimp only at hSw); go_simp <;> (with_reducible rfl)
            (try simp only [Act.put, List.setIfInBounds_toArray, List.set_cons_zero, List.set_cons_succ])
            refine wpAnyH_take (i := 11) (oi := { dst := some 25, op := Op.fieldAddr 26 (Operand.tmp 24) 0, type := 0, pos := "read.go:84", after := #[{ on := 10, ground := Ground.data }, { on := 0, ground := Ground.phase }, { on := 1, ground := Ground.phase }, { on := 2, ground := Ground.phase }, { on := 3, ground := Ground.phase }, { on := 4, ground := Ground.phase }, { on := 5, ground := Ground.phase }, { on := 6, ground := Ground.phase }, { on := 7, ground := Ground.phase }, { on := 8, ground := Ground.phase }], guard := none }) (v := ?_) rfl (by kernel_rfl) (by kernel_rfl) (by kernel_rfl) (fun _ _ _ h => h) (Or.inl ⟨by rfl, ?_⟩) (by assumption) ?_
            rotate_left
            · intro w hSw; (try dsimp only at hSw); go_simp <;> (with_reducible rfl)
            (try simp only [Act.put, List.setIfInBounds_toArray, List.set_cons_zero, List.set_cons_succ])
            refine wpAnyH_ready (rs := [12]) (by kernel_rfl) (by simp) ?_
            refine AllReadyH.cons (o := { dst := none, op := Op.store 23 (Operand.tmp 25) (Operand.tmp 22), type := 0, pos := "read.go:84", after := #[{ on := 11, ground := Ground.data }, { on := 8, ground := Ground.data }, { on := 8, ground := Ground.chain }, { on := 0, ground := Ground.phase }, { on := 1, ground := Ground.phase }, { on := 2, ground := Ground.phase }, { on := 3, ground := Ground.phase }, { on := 4, ground := Ground.phase }, { on := 5, ground := Ground.phase }, { on := 6, ground := Ground.phase }, { on := 7, ground := Ground.phase }, { on := 8, ground := Ground.phase }], guard := none }) rfl (fun K hK => ?_) ?_
            · go_simp
              refine hK.out _ _ ?_ (fun hHeld => ?_)
              · (try dsimp only)
                exact KS.out _ HB4
              clear hK K
              (try simp only [Act.put, List.setIfInBounds_toArray, List.set_cons_zero, List.set_cons_succ])
              refine wpAnyH_done (by kernel_rfl) ?_ _
              refine NoPanic.normal ?_
              have FN := Lib.hid (FIN.out _ _ r3 o3 n3)
              generalize w3.setCell ⟨g, 2, none⟩ (.slice A9 (SD.D.length + 1) cap9) = w4 at *
              clear hHeld HB3 HB4 r3 o3 n3 g3 c3 f3
              go_wp2
              go_end0
              first | exact ⟨_, rfl, FN.out⟩ | (rw [hxv.out] at FN; exact ⟨_, rfl, FN.out⟩)
            exact AllReadyH.nil
          exact AllReadyH.nil
        exact AllReadyH.nil
      exact AllReadyH.nil
set_option maxHeartbeats 16000000 in
theorem decl_A {B g : Nat} {S : Sr} {w : World} (h : RdAt B g w S) (hnv0 : S.nv = .slice none 0 0) : Calls Tryz.prog 36 #[.pointer (some ⟨g, 0, none⟩), .func (.func 38) #[.pointer (some ⟨g, 0, none⟩)] #[]] w (DecP B g S w (decA S.ws)) := by
  have HH := Lib.hid h
  have hnv := Lib.hid hnv0
  have CK := Lib.hid (kind_any h 110 (by decide))
  have hp0 := Lib.hid (pan_at h)
  have hfd := fld1
  have hDk0 := h.dfew
  unfold decA
  cases hk : hdK 110 S.ws with
  | false =>
    rw [hk] at CK
    simp only [Bool.false_eq_true, if_false] at CK
    rw [nm_no hk]
    clear h
    go_enter Tryz.func36, Tryz.ntmps36
    go_wp2_with fail
    refine (CK.out).mono ?_; rintro e w1 ⟨rfl, o3⟩
    have FIN : Hid (DecP B g S w (.error S.ws.length) (pan S.k) w1) := Lib.hid ⟨by rw [← hp0.out], by rw [show S.nv.ownBlock = none from by rw [hnv.out]; rfl] at o3; exact o3.grow⟩
    clear o3 CK
    unfold pan at FIN ⊢
    go_wp2
    first | exact FIN.out | exact ⟨rfl, FIN.out⟩
  | true =>
    rw [hk] at CK
    simp only [if_true] at CK
    rw [nm_yes hk]
    have hk1 := Lib.hid (hdk_lt (k := 110) h.le hk)
    have hu := Lib.hid (upk_ws (k := 110) h.le hk)
    generalize S.ws.headD pc0 = q at *
    obtain ⟨xk, xt, xz⟩ := q
    unfold aggP at CK
    simp only at CK ⊢
    obtain ⟨t0, ht0⟩ : ∃ t0, S.ws.tail = t0 := ⟨_, rfl⟩
    rw [ht0] at hu ⊢
    clear h
    cases hc : celE t0 with
    | error k =>
      go_enter Tryz.func36, Tryz.ntmps36
      go_wp2_with fail
      refine (CK.out).mono ?_; rintro e w1 ⟨rfl, R1, T1⟩
      have R1 := Lib.hid R1
      have T1 := Lib.hid T1
      obtain ⟨wa, wl, ea, el, HZ, L1⟩ := locD_st R1.out T1.out HH.out.hB (.string (strB xt)) (.int .i64 0)
      have z0 := HZ.out.cell 0
      have z1 := HZ.out.cell 1
      have y0 := HZ.out.frozen 0
      have y1 := HZ.out.frozen 1
      simp only [List.getElem?_cons_zero, List.getElem?_cons_succ] at z0 z1
      clear CK
      go_wp2_with fail
      have CC := cells_any L1.out.r
      rw [hu.out, hc] at CC
      have CC := Lib.hid CC
      have L1s := L1
      go_wp2_with fail
      refine (CC.out).mono ?_; rintro e w5 ⟨rfl, o3⟩
      have FIN : Hid (DecP B g S w (.error k) (pan (S.W.length - k)) w5) := Lib.hid ⟨rfl, by have := L1.out.s.fr.trans o3 L1.out.s.nw; rw [show S.nv.ownBlock = none from by rw [hnv.out]; rfl] at this; exact this.grow⟩
      have hW := Lib.hid (show S.up.W = S.W from rfl)
      rw [hW.out]
      clear o3 CC
      unfold pan at FIN ⊢
      go_wp2
      first | exact FIN.out | exact ⟨rfl, FIN.out⟩
    | ok y =>
      obtain ⟨xv, s⟩ := y
      show Calls _ _ _ _ (DecP B g S w (must [59] s fun r => .ok ((xt, xv), r)))
      cases hm : hdW [59] s with
      | false =>
        rw [must_no hm]
        go_enter Tryz.func36, Tryz.ntmps36
        go_wp2_with fail
        refine (CK.out).mono ?_; rintro e w1 ⟨rfl, R1, T1⟩
        have R1 := Lib.hid R1
        have T1 := Lib.hid T1
        obtain ⟨wa, wl, ea, el, HZ, L1⟩ := locD_st R1.out T1.out HH.out.hB (.string (strB xt)) (.int .i64 0)
        have z0 := HZ.out.cell 0
        have z1 := HZ.out.cell 1
        have y0 := HZ.out.frozen 0
        have y1 := HZ.out.frozen 1
        simp only [List.getElem?_cons_zero, List.getElem?_cons_succ] at z0 z1
        clear CK
        go_wp2_with fail
        have CC := cells_any L1.out.r
        rw [hu.out, hc] at CC
        have CC := Lib.hid CC
        have L1s := L1
        go_wp2_with fail
        refine (CC.out).mono ?_; rintro e w5 ⟨SC, rfl, R5, T5, hs5, hN5, hv5, hd5, hg5, hk5⟩
        have L2 := Lib.hid (L1.out.call R5 T5)
        clear CC L1
        obtain ⟨w6, e6, L3⟩ := L2.out.set 1 (.int .i64 xv)
        simp only [List.set_cons_zero, List.set_cons_succ] at L3
        have m1 := L2.out.h.cell 1
        have pm1 := L2.out.h.frozen 1
        simp only [List.getElem?_cons_zero, List.getElem?_cons_succ] at m1
        have CM := must_any L3.out.r [59] ks_of
        rw [hs5, hm] at CM
        simp only [Bool.false_eq_true, if_false] at CM
        have CM := Lib.hid CM
        have hpm := Lib.hid (show SC.k = S.W.length - s.length by have := pan_at L3.out.r; rw [hs5] at this; rw [this, L3.out.s.W])
        clear R5 T5 L2
        go_wp2_with fail
        refine (CM.out).mono ?_; rintro e w7 ⟨rfl, o3⟩
        have FIN : Hid (DecP B g S w (.error s.length) (pan SC.k) w7) := Lib.hid ⟨by rw [hpm.out], by have := L3.out.s.fr.trans o3 L3.out.s.nw; rw [show S.nv.ownBlock = none from by rw [hnv.out]; rfl] at this; exact this.grow⟩
        clear o3 CM
        unfold pan at FIN ⊢
        go_wp2
        first | exact FIN.out | exact ⟨rfl, FIN.out⟩
      | true =>
        rw [must_yes hm]
        go_enter Tryz.func36, Tryz.ntmps36
        go_wp2_with fail
        refine (CK.out).mono ?_; rintro e w1 ⟨rfl, R1, T1⟩
        have R1 := Lib.hid R1
        have T1 := Lib.hid T1
        obtain ⟨wa, wl, ea, el, HZ, L1⟩ := locD_st R1.out T1.out HH.out.hB (.string (strB xt)) (.int .i64 0)
        have z0 := HZ.out.cell 0
        have z1 := HZ.out.cell 1
        have y0 := HZ.out.frozen 0
        have y1 := HZ.out.frozen 1
        simp only [List.getElem?_cons_zero, List.getElem?_cons_succ] at z0 z1
        clear CK
        go_wp2_with fail
        have CC := cells_any L1.out.r
        rw [hu.out, hc] at CC
        have CC := Lib.hid CC
        have L1s := L1
        go_wp2_with fail
        refine (CC.out).mono ?_; rintro e w5 ⟨SC, rfl, R5, T5, hs5, hN5, hv5, hd5, hg5, hk5⟩
        have L2 := Lib.hid (L1.out.call R5 T5)
        clear CC L1
        obtain ⟨w6, e6, L3⟩ := L2.out.set 1 (.int .i64 xv)
        simp only [List.set_cons_zero, List.set_cons_succ] at L3
        have m1 := L2.out.h.cell 1
        have pm1 := L2.out.h.frozen 1
        simp only [List.getElem?_cons_zero, List.getElem?_cons_succ] at m1
        have CM := must_any L3.out.r [59] ks_of
        rw [hs5, hm] at CM
        simp only [if_true] at CM
        have CM := Lib.hid CM
        have hu2 := Lib.hid (up_ws (S := SC) (t := [59]) L3.out.r.le (by rw [hs5]; exact hm))
        rw [hs5] at hu2
        have hDC := Lib.hid (show SC.D = S.D from L3.out.s.D)
        clear R5 T5 L2
        go_wp2_with fail
        refine (CM.out).mono ?_; rintro e wd ⟨rfl, R7, T7⟩
        have LD := Lib.hid (L3.out.call R7 T7)
        obtain ⟨SD, hSD⟩ : ∃ SD, SC.up = SD := ⟨_, rfl⟩
        have hSN : Hid (SD.N = S.N) := Lib.hid (by rw [← hSD]; exact hN5)
        have hSv : Hid (SD.nv = S.nv) := Lib.hid (by rw [← hSD]; exact hv5)
        have hSd : Hid (SD.deep = S.deep) := Lib.hid (by rw [← hSD]; exact hd5)
        have hSw : Hid (SD.ws = s.tail) := Lib.hid (by rw [← hSD]; exact hu2.out)
        have hSg : Hid (SD.great = (S.great || decide (1000 < xv))) := Lib.hid (by rw [← hSD]; exact hg5)
        have hkq : S.k + 1 ≤ SC.k := hk5
        have hkk : Hid (S.k < SD.k) := Lib.hid (by rw [← hSD]; show S.k < SC.k + 1; omega)
        have hDk : Hid (SD.D.length < SD.k) := Lib.hid (by rw [← hSD]; show SC.D.length < SC.k + 1; rw [hDC.out]; omega)
        rw [hSD] at LD
        obtain ⟨jd, hjd⟩ : ∃ jd, w1.heap.size = jd := ⟨_, rfl⟩
        rw [hjd] at LD ⊢
        clear R7 T7 CM L3 hSD ea el z0 z1 y0 y1 m1 pm1 e6 HZ hN5 hv5 hd5 hg5 hk5
        have b2 := bel_al (below_drewP (Below.refl _ wd)) (.cells #[.string (strB xt), .int .i64 xv] 54)
        have Q2' := HasB.new wd.drew 54 [.string (strB xt), .int .i64 xv]
        obtain ⟨W2, e2, H2, R2, Q2, b2⟩ : ∃ W2, wd.drew.alloc (.cells #[.string (strB xt), .int .i64 xv] 54) = W2 ∧ Hid (HasB W2 jd 54 [.string (strB xt), .int .i64 xv]) ∧ Hid (RdAt B g W2 SD) ∧ Hid (HasB W2 wd.heap.size 54 [.string (strB xt), .int .i64 xv]) ∧ Hid (Below wd.heap.size wd W2) :=
          ⟨_, rfl, Lib.hid (LD.out.h.below b2), Lib.hid (LD.out.r.ofr b2), Lib.hid Q2', Lib.hid b2⟩
        have k2 := LD.out.r.c2
        have d2 := R2.out.c2
        have l0 := LD.out.h.cell 0
        have l1 := LD.out.h.cell 1
        simp only [List.getElem?_cons_zero, List.getElem?_cons_succ] at l0 l1
        have KS : Hid (∀ w', HasB w' jd 54 [.string (strB xt), .int .i64 xv] → (fun w' => w'.cell? ⟨jd, 0, none⟩ = some (.string (strB xt)) ∧ w'.cell? ⟨jd, 1, none⟩ = some (.int .i64 xv)) w') := Lib.hid (fun w' H => ⟨H.cell 0, H.cell 1⟩)
        have LNE : Hid (some jd ≠ SD.dv.ownBlock) := Lib.hid LD.out.n
        have GNE : Hid (¬ g = jd) := Lib.hid (by have := LD.out.gj; omega)
        obtain ⟨An, capn, hdv⟩ : ∃ A cap, SD.dv = .slice A SD.D.length cap := by
          rcases LD.out.r.decls.2 with ⟨e, e2⟩ | ⟨b, cap, cur, e, _⟩
          · exact ⟨none, 0, by rw [e, e2]⟩
          · exact ⟨_, cap, e⟩
        have FIN : Hid (∀ (dv : Value) w', RdAt B g w' (SD.apd (xt, xv) dv) → Ofr g SD.dv.ownBlock W2 w' → Nw W2 SD.dv.ownBlock dv.ownBlock → DcS B g S w (SD.apd (xt, xv) dv) w' ∧ (SD.apd (xt, xv) dv).ws = s.tail ∧ (SD.apd (xt, xv) dv).D = S.D ++ [(xt, xv)] ∧ (SD.apd (xt, xv) dv).great = (S.great || decide (1000 < xv)) ∧ S.k < (SD.apd (xt, xv) dv).k) := Lib.hid (fun dv w' r o n => by
          have s1 := LD.out.s.trans (Stp.of (g := g) (S := SD) b2.out)
          have f1 : Ofr g none w W2 := by have := s1.fr; rw [show S.nv.ownBlock = none from by rw [hnv.out]; rfl] at this; exact this
          have e1 : SD.dv = S.dv := LD.out.s.dv
          rw [e1] at o n
          exact ⟨⟨r, LD.out.s.V, LD.out.s.W, hSN.out, hSv.out, LD.out.s.body, hSd.out, n.imp id (fun ⟨b, e, hb⟩ => ⟨b, e, Nat.le_trans s1.fr.size hb⟩), f1.grow.trans o (.refl _ _), Nat.le_of_lt hkk.out⟩, hSw.out, by show SD.D ++ [_] = _; rw [LD.out.s.D], hSg.out, hkk.out⟩)
        clear b2 Q2'
        go_wp2_with fail
        refine wp_region_noPanic ?_
        refine wp_region_held_drew (S := (fun w' => w'.cell? ⟨jd, 0, none⟩ = some (.string (strB xt)) ∧ w'.cell? ⟨jd, 1, none⟩ = some (.int .i64 xv))) (by kernel_rfl) ?_ (fun hHeld => ?_)
        · (try dsimp only)
          exact KS.out _ LD.out.h.drewH
        refine wpAnyH_take (i := 0) (oi := { dst := some 14, op := Op.move (Operand.tmp 0), type := 41, pos := "read.go:84", after := #[], guard := none }) (v := ?_) rfl (by kernel_rfl) (by kernel_rfl) (by kernel_rfl) (fun _ _ _ h => h) (Or.inl ⟨by rfl, ?_⟩) (by assumption) ?_
        rotate_left
        · intro w hSw; (try dsimp only at hSw); go_simp <;> (with_reducible rfl)
        (try simp only [Act.put, List.setIfInBounds_toArray, List.set_cons_zero, List.set_cons_succ])
        refine wpAnyH_take (i := 1) (oi := { dst := some 15, op := Op.move (Operand.tmp 0), type := 41, pos := "read.go:84", after := #[], guard := none }) (v := ?_) rfl (by kernel_rfl) (by kernel_rfl) (by kernel_rfl) (fun _ _ _ h => h) (Or.inl ⟨by rfl, ?_⟩) (by assumption) ?_
        rotate_left
        · intro w hSw; (try dsimp only at hSw); go_simp <;> (with_reducible rfl)
        (try simp only [Act.put, List.setIfInBounds_toArray, List.set_cons_zero, List.set_cons_succ])
        refine wpAnyH_take (i := 2) (oi := { dst := some 16, op := Op.nilCheck (Operand.tmp 15), type := 0, pos := "read.go:84", after := #[{ on := 1, ground := Ground.data }], guard := none }) (v := ?_) rfl (by kernel_rfl) (by kernel_rfl) (by kernel_rfl) (fun _ _ _ h => h) (Or.inl ⟨by rfl, ?_⟩) (by assumption) ?_
        rotate_left
        · intro w hSw; (try dsimp only at hSw); go_simp <;> (with_reducible rfl)
        (try simp only [Act.put, List.setIfInBounds_toArray, List.set_cons_zero, List.set_cons_succ])
        refine wpAnyH_take (i := 3) (oi := { dst := some 17, op := Op.fieldAddr 43 (Operand.tmp 16) 2, type := 0, pos := "read.go:84", after := #[{ on := 2, ground := Ground.data }], guard := none }) (v := ?_) rfl (by kernel_rfl) (by kernel_rfl) (by kernel_rfl) (fun _ _ _ h => h) (Or.inl ⟨by rfl, ?_⟩) (by assumption) ?_
        rotate_left
        · intro w hSw; (try dsimp only at hSw); go_simp <;> (with_reducible rfl)
        (try simp only [Act.put, List.setIfInBounds_toArray, List.set_cons_zero, List.set_cons_succ])
        refine wpAnyH_take (i := 4) (oi := { dst := some 18, op := Op.fieldAddr 26 (Operand.tmp 17) 0, type := 0, pos := "read.go:84", after := #[{ on := 3, ground := Ground.data }], guard := none }) (v := ?_) rfl (by kernel_rfl) (by kernel_rfl) (by kernel_rfl) (fun _ _ _ h => h) (Or.inl ⟨by rfl, ?_⟩) (by assumption) ?_
        rotate_left
        · intro w hSw; (try dsimp only at hSw); go_simp <;> (with_reducible rfl)
        (try simp only [Act.put, List.setIfInBounds_toArray, List.set_cons_zero, List.set_cons_succ])
        refine wpAnyH_take (i := 6) (oi := { dst := some 20, op := Op.load 54 (Operand.tmp 4), type := 54, pos := "read.go:84", after := #[], guard := none }) (v := ?_) rfl (by kernel_rfl) (by kernel_rfl) (by kernel_rfl) (fun _ _ _ h => h) (Or.inl ⟨by rfl, ?_⟩) (by assumption) ?_
        rotate_left
        · intro w hSw; (try dsimp only at hSw); go_simp <;> (with_reducible rfl)
        (try simp only [Act.put, List.setIfInBounds_toArray, List.set_cons_zero, List.set_cons_succ])
        refine wpAnyH_ready (rs := [5, 7]) (by kernel_rfl) (by simp) ?_
        refine AllReadyH.cons (o := { dst := some 19, op := Op.load 23 (Operand.tmp 18), type := 23, pos := "read.go:84", after := #[{ on := 4, ground := Ground.data }], guard := none }) rfl (fun K hK => ?_) ?_
        · go_simp
          refine hK.out _ _ ?_ (fun hHeld => ?_)
          · (try dsimp only)
            first | exact KS.out _ LD.out.h.drewH | exact KS.out _ H2.out
          clear hK K
          (try simp only [Act.put, List.setIfInBounds_toArray, List.set_cons_zero, List.set_cons_succ])
          refine wpAnyH_ready (rs := [7]) (by kernel_rfl) (by simp) ?_
          refine AllReadyH.cons (o := { dst := some 21, op := Op.buildSlice 23 1 #[(0, Operand.tmp 20)], type := 23, pos := "read.go:84", after := #[{ on := 6, ground := Ground.data }], guard := none }) rfl (fun K hK => ?_) ?_
          · go_simp
            refine hK.out _ _ ?_ (fun hHeld => ?_)
            · (try dsimp only)
              exact KS.out _ H2.out
            clear hK K
            (try simp only [Act.put, List.setIfInBounds_toArray, List.set_cons_zero, List.set_cons_succ])
            refine wpAnyH_ready (rs := [8]) (by kernel_rfl) (by simp) ?_
            refine AllReadyH.cons (o := { dst := some 22, op := Op.call { callee := Callee.builtin Builtin.append, args := #[Operand.tmp 19, Operand.tmp 21], argTypes := #[23, 23] }, type := 23, pos := "read.go:84", after := #[{ on := 5, ground := Ground.data }, { on := 7, ground := Ground.data }], guard := none }) rfl (fun K hK => ?_) ?_
            · refine app_dc (.tmp 19) (.tmp 21) rfl R2.out (by rw [hdv]; rfl) (xt, xv) wd.heap.size rfl Q2.out hDk.out ?_
              intro A9 cap9 w3 r3 o3 n3 g3 c3 f3
              have HB3 : HasB w3 jd 54 [.string (strB xt), .int .i64 xv] := H2.out.grown g3 LNE.out
              have HB4 : HasB (w3.setCell ⟨g, 2, none⟩ (.slice A9 (SD.D.length + 1) cap9)) jd 54 [.string (strB xt), .int .i64 xv] := HB3.same (by simp only [World.setCell, Array.getElem?_modify]; rw [if_neg GNE.out])
              refine hK.out _ _ ?_ (fun hHeld => ?_)
              · (try dsimp only)
                exact KS.out _ HB3
              clear hK K
              (try simp only [Act.put, List.setIfInBounds_toArray, List.set_cons_zero, List.set_cons_succ])
              refine wpAnyH_take (i := 9) (oi := { dst := some 23, op := Op.nilCheck (Operand.tmp 14), type := 0, pos := "read.go:84", after := #[{ on := 0, ground := Ground.data }, { on := 0, ground := Ground.phase }, { on := 1, ground := Ground.phase }, { on := 2, ground := Ground.phase }, { on := 3, ground := Ground.phase }, { on := 4, ground := Ground.phase }, { on := 5, ground := Ground.phase }, { on := 6, ground := Ground.phase }, { on := 7, ground := Ground.phase }, { on := 8, ground := Ground.phase }], guard := none }) (v := ?_) rfl (by kernel_rfl) (by kernel_rfl) (by kernel_rfl) (fun _ _ _ h => h) (Or.inl ⟨by rfl, ?_⟩) (by assumption) ?_
              rotate_left
              · intro w hSw; (try dsimp only at hSw); go_simp <;> (with_reducible rfl)
              (try simp only [Act.put, List.setIfInBounds_toArray, List.set_cons_zero, List.set_cons_succ])
              refine wpAnyH_take (i := 10) (oi := { dst := some 24, op := Op.fieldAddr 43 (Operand.tmp 23) 2, type := 0, pos := "read.go:84", after := #[{ on := 9, ground := Ground.data }, { on := 0, ground := Ground.phase }, { on := 1, ground := Ground.phase }, { on := 2, ground := Ground.phase }, { on := 3, ground := Ground.phase }, { on := 4, ground := Ground.phase }, { on := 5, ground := Ground.phase }, { on := 6, ground := Ground.phase }, { on := 7, ground := Ground.phase }, { on := 8, ground := Ground.phase }], guard := none }) (v := ?_) rfl (by kernel_rfl) (by kernel_rfl) (by kernel_rfl) (fun _ _ _ h => h) (Or.inl ⟨by rfl, ?_⟩) (by assumption) ?_
              rotate_left
              · intro w hSw; (try dsimp only at hSw); go_simp <;> (with_reducible rfl)
              (try simp only [Act.put, List.setIfInBounds_toArray, List.set_cons_zero, List.set_cons_succ])
              refine wpAnyH_take (i := 11) (oi := { dst := some 25, op := Op.fieldAddr 26 (Operand.tmp 24) 0, type := 0, pos := "read.go:84", after := #[{ on := 10, ground := Ground.data }, { on := 0, ground := Ground.phase }, { on := 1, ground := Ground.phase }, { on := 2, ground := Ground.phase }, { on := 3, ground := Ground.phase }, { on := 4, ground := Ground.phase }, { on := 5, ground := Ground.phase }, { on := 6, ground := Ground.phase }, { on := 7, ground := Ground.phase }, { on := 8, ground := Ground.phase }], guard := none }) (v := ?_) rfl (by kernel_rfl) (by kernel_rfl) (by kernel_rfl) (fun _ _ _ h => h) (Or.inl ⟨by rfl, ?_⟩) (by assumption) ?_
              rotate_left
              · intro w hSw; (try dsimp only at hSw); go_simp <;> (with_reducible rfl)
              (try simp only [Act.put, List.setIfInBounds_toArray, List.set_cons_zero, List.set_cons_succ])
              refine wpAnyH_ready (rs := [12]) (by kernel_rfl) (by simp) ?_
              refine AllReadyH.cons (o := { dst := none, op := Op.store 23 (Operand.tmp 25) (Operand.tmp 22), type := 0, pos := "read.go:84", after := #[{ on := 11, ground := Ground.data }, { on := 8, ground := Ground.data }, { on := 8, ground := Ground.chain }, { on := 0, ground := Ground.phase }, { on := 1, ground := Ground.phase }, { on := 2, ground := Ground.phase }, { on := 3, ground := Ground.phase }, { on := 4, ground := Ground.phase }, { on := 5, ground := Ground.phase }, { on := 6, ground := Ground.phase }, { on := 7, ground := Ground.phase }, { on := 8, ground := Ground.phase }], guard := none }) rfl (fun K hK => ?_) ?_
              · go_simp
                refine hK.out _ _ ?_ (fun hHeld => ?_)
                · (try dsimp only)
                  exact KS.out _ HB4
                clear hK K
                (try simp only [Act.put, List.setIfInBounds_toArray, List.set_cons_zero, List.set_cons_succ])
                refine wpAnyH_done (by kernel_rfl) ?_ _
                refine NoPanic.normal ?_
                have FN := Lib.hid (FIN.out _ _ r3 o3 n3)
                generalize w3.setCell ⟨g, 2, none⟩ (.slice A9 (SD.D.length + 1) cap9) = w4 at *
                clear hHeld HB3 HB4 r3 o3 n3 g3 c3 f3
                go_wp2
                go_end0
                first | exact ⟨_, rfl, FN.out⟩ | (rw [hxv.out] at FN; exact ⟨_, rfl, FN.out⟩)
              exact AllReadyH.nil
            exact AllReadyH.nil
          exact AllReadyH.nil
        refine AllReadyH.cons (o := { dst := some 21, op := Op.buildSlice 23 1 #[(0, Operand.tmp 20)], type := 23, pos := "read.go:84", after := #[{ on := 6, ground := Ground.data }], guard := none }) rfl (fun K hK => ?_) ?_
        · go_simp
          refine hK.out _ _ ?_ (fun hHeld => ?_)
          · (try dsimp only)
            exact KS.out _ H2.out
          clear hK K
          (try simp only [Act.put, List.setIfInBounds_toArray, List.set_cons_zero, List.set_cons_succ])
          refine wpAnyH_ready (rs := [5]) (by kernel_rfl) (by simp) ?_
          refine AllReadyH.cons (o := { dst := some 19, op := Op.load 23 (Operand.tmp 18), type := 23, pos := "read.go:84", after := #[{ on := 4, ground := Ground.data }], guard := none }) rfl (fun K hK => ?_) ?_
          · go_simp
            refine hK.out _ _ ?_ (fun hHeld => ?_)
            · (try dsimp only)
              first | exact KS.out _ LD.out.h.drewH | exact KS.out _ H2.out
            clear hK K
            (try simp only [Act.put, List.setIfInBounds_toArray, List.set_cons_zero, List.set_cons_succ])
            refine wpAnyH_ready (rs := [8]) (by kernel_rfl) (by simp) ?_
            refine AllReadyH.cons (o := { dst := some 22, op := Op.call { callee := Callee.builtin Builtin.append, args := #[Operand.tmp 19, Operand.tmp 21], argTypes := #[23, 23] }, type := 23, pos := "read.go:84", after := #[{ on := 5, ground := Ground.data }, { on := 7, ground := Ground.data }], guard := none }) rfl (fun K hK => ?_) ?_
            · refine app_dc (.tmp 19) (.tmp 21) rfl R2.out (by rw [hdv]; rfl) (xt, xv) wd.heap.size rfl Q2.out hDk.out ?_
              intro A9 cap9 w3 r3 o3 n3 g3 c3 f3
              have HB3 : HasB w3 jd 54 [.string (strB xt), .int .i64 xv] := H2.out.grown g3 LNE.out
              have HB4 : HasB (w3.setCell ⟨g, 2, none⟩ (.slice A9 (SD.D.length + 1) cap9)) jd 54 [.string (strB xt), .int .i64 xv] := HB3.same (by simp only [World.setCell, Array.getElem?_modify]; rw [if_neg GNE.out])
              refine hK.out _ _ ?_ (fun hHeld => ?_)
              · (try dsimp only)
                exact KS.out _ HB3
              clear hK K
              (try simp only [Act.put, List.setIfInBounds_toArray, List.set_cons_zero, List.set_cons_succ])
              refine wpAnyH_take (i := 9) (oi := { dst := some 23, op := Op.nilCheck (Operand.tmp 14), type := 0, pos := "read.go:84", after := #[{ on := 0, ground := Ground.data }, { on := 0, ground := Ground.phase }, { on := 1, ground := Ground.phase }, { on := 2, ground := Ground.phase }, { on := 3, ground := Ground.phase }, { on := 4, ground := Ground.phase }, { on := 5, ground := Ground.phase }, { on := 6, ground := Ground.phase }, { on := 7, ground := Ground.phase }, { on := 8, ground := Ground.phase }], guard := none }) (v := ?_) rfl (by kernel_rfl) (by kernel_rfl) (by kernel_rfl) (fun _ _ _ h => h) (Or.inl ⟨by rfl, ?_⟩) (by assumption) ?_
              rotate_left
              · intro w hSw; (try dsimp only at hSw); go_simp <;> (with_reducible rfl)
              (try simp only [Act.put, List.setIfInBounds_toArray, List.set_cons_zero, List.set_cons_succ])
              refine wpAnyH_take (i := 10) (oi := { dst := some 24, op := Op.fieldAddr 43 (Operand.tmp 23) 2, type := 0, pos := "read.go:84", after := #[{ on := 9, ground := Ground.data }, { on := 0, ground := Ground.phase }, { on := 1, ground := Ground.phase }, { on := 2, ground := Ground.phase }, { on := 3, ground := Ground.phase }, { on := 4, ground := Ground.phase }, { on := 5, ground := Ground.phase }, { on := 6, ground := Ground.phase }, { on := 7, ground := Ground.phase }, { on := 8, ground := Ground.phase }], guard := none }) (v := ?_) rfl (by kernel_rfl) (by kernel_rfl) (by kernel_rfl) (fun _ _ _ h => h) (Or.inl ⟨by rfl, ?_⟩) (by assumption) ?_
              rotate_left
              · intro w hSw; (try dsimp only at hSw); go_simp <;> (with_reducible rfl)
              (try simp only [Act.put, List.setIfInBounds_toArray, List.set_cons_zero, List.set_cons_succ])
              refine wpAnyH_take (i := 11) (oi := { dst := some 25, op := Op.fieldAddr 26 (Operand.tmp 24) 0, type := 0, pos := "read.go:84", after := #[{ on := 10, ground := Ground.data }, { on := 0, ground := Ground.phase }, { on := 1, ground := Ground.phase }, { on := 2, ground := Ground.phase }, { on := 3, ground := Ground.phase }, { on := 4, ground := Ground.phase }, { on := 5, ground := Ground.phase }, { on := 6, ground := Ground.phase }, { on := 7, ground := Ground.phase }, { on := 8, ground := Ground.phase }], guard := none }) (v := ?_) rfl (by kernel_rfl) (by kernel_rfl) (by kernel_rfl) (fun _ _ _ h => h) (Or.inl ⟨by rfl, ?_⟩) (by assumption) ?_
              rotate_left
              · intro w hSw; (try dsimp only at hSw); go_simp <;> (with_reducible rfl)
              (try simp only [Act.put, List.setIfInBounds_toArray, List.set_cons_zero, List.set_cons_succ])
              refine wpAnyH_ready (rs := [12]) (by kernel_rfl) (by simp) ?_
              refine AllReadyH.cons (o := { dst := none, op := Op.store 23 (Operand.tmp 25) (Operand.tmp 22), type := 0, pos := "read.go:84", after := #[{ on := 11, ground := Ground.data }, { on := 8, ground := Ground.data }, { on := 8, ground := Ground.chain }, { on := 0, ground := Ground.phase }, { on := 1, ground := Ground.phase }, { on := 2, ground := Ground.phase }, { on := 3, ground := Ground.phase }, { on := 4, ground := Ground.phase }, { on := 5, ground := Ground.phase }, { on := 6, ground := Ground.phase }, { on := 7, ground := Ground.phase }, { on := 8, ground := Ground.phase }], guard := none }) rfl (fun K hK => ?_) ?_
              · go_simp
                refine hK.out _ _ ?_ (fun hHeld => ?_)
                · (try dsimp only)
                  exact KS.out _ HB4
                clear hK K
                (try simp only [Act.put, List.setIfInBounds_toArray, List.set_cons_zero, List.set_cons_succ])
                refine wpAnyH_done (by kernel_rfl) ?_ _
                refine NoPanic.normal ?_
                have FN := Lib.hid (FIN.out _ _ r3 o3 n3)
                generalize w3.setCell ⟨g, 2, none⟩ (.slice A9 (SD.D.length + 1) cap9) = w4 at *
                clear hHeld HB3 HB4 r3 o3 n3 g3 c3 f3
                go_wp2
                go_end0
                first | exact ⟨_, rfl, FN.out⟩ | (rw [hxv.out] at FN; exact ⟨_, rfl, FN.out⟩)
              exact AllReadyH.nil
            exact AllReadyH.nil
          exact AllReadyH.nil
        exact AllReadyH.nil
end Go.Proofs.YtkacplcilkogpaaGreatDoor.Mm
