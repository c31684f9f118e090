/- The reader's value. -/
import Derived.Test.YtkacplcilkogpaaGreatDoorQPrB
namespace Go.Proofs.YtkacplcilkogpaaGreatDoor.Mm
open Go.ChangeShapes Go.WideShapes Go.ChangeAt Go.RowKit
set_option linter.unusedVariables false
set_option linter.unusedSimpArgs false
set_option maxRecDepth 10000

theorem RdSt.up {B g : Nat} {F : Nat → Nd → List NdR} {S S1 : Sr} {w w1 w2 : World} {x : Nd} {d : Nat} (h : RdSt B g F S w x d S1 w1) (r : RdAt B g w2 S1.up) (s : Stp g S1 S1.up w1 w2) : RdSt B g F S w x d S1.up w2 :=
  ⟨r, h.s.trans s, h.deep, h.great, h.N, h.cnt, by have := h.gb; show S1.N.length + S.k ≤ S.N.length + (S1.k + 1); omega, h.ls⟩
theorem must_yes {α : Type} {t : Bs} {ws : List Pc} {k : List Pc → Except Nat α} (h : hdW t ws = true) : must t ws k = k ws.tail := by
  cases ws with
  | nil => cases h
  | cons p r => show (if isW t p then k r else _) = _; rw [if_pos (show isW t p = true from h)]; rfl
theorem must_no {α : Type} {t : Bs} {ws : List Pc} {k : List Pc → Except Nat α} (h : hdW t ws = false) : must t ws k = .error ws.length := by
  cases ws with
  | nil => rfl
  | cons p r => show (if isW t p then k r else .error (r.length + 1)) = _; rw [if_neg (by rw [show isW t p = false from h]; simp)]; rfl
theorem pan_at {B g : Nat} {w : World} {S : Sr} (h : RdAt B g w S) : S.k = S.W.length - S.ws.length := by rw [ws_len]; have := h.le; omega
/-- one node behind what is read: what it makes of it -/
theorem RdSt.add {B g : Nat} {F F' : Nat → Nd → List NdR} {S S1 : Sr} {w w1 w2 : World} {x y : Nd} {d d' : Nat} {nd : NdR} {L nv : Value} (h1 : RdSt B g F S w x d S1 w1) (R : RdAt B g w2 (S1.app nd L nv)) (T : Stp g S1 (S1.app nd L nv) w1 w2)
    (hk : S1.N.length + 1 + S.k ≤ S.N.length + S1.k) (e1 : F' S.N.length y = F S.N.length x ++ [nd]) (e2 : Mm.cnt y = Mm.cnt x + 1) (hd : d' = d) (hL : NewB w L := by exact newB_nil _) : RdSt B g F' S w y d' (S1.app nd L nv) w2 := by
  subst hd
  refine ⟨R, h1.s.trans T, h1.deep, h1.great, ?_, ?_, ?_, h1.ls.app hL⟩
  · show (S1.N ++ [_]).map Prod.fst = _
    rw [List.map_append, h1.N, e1]; simp
  · show (S1.N ++ [_]).length = _
    rw [List.length_append, h1.cnt, e2]; simp; omega
  · show (S1.N ++ [_]).length + _ ≤ _ + S1.k
    simp; omega
theorem RdSt.leaf {B g : Nat} {F' : Nat → Nd → List NdR} {S S1 : Sr} {w w1 w2 : World} {y : Nd} {nd : NdR} {L nv : Value} (s : Stp g S S1 w w1) (hN : S1.N = S.N) (hd : S1.deep = S.deep) (hg : S1.great = S.great) (R : RdAt B g w2 (S1.app nd L nv)) (T : Stp g S1 (S1.app nd L nv) w1 w2)
    (hk : S.k + 1 ≤ S1.k) (e1 : F' S.N.length y = [nd]) (e2 : Mm.cnt y = 1) (h0 : S.deep ≤ 100 ∨ S.great = true) (hL : NewB w L := by exact newB_nil _) : RdSt B g F' S w y 0 (S1.app nd L nv) w2 := by
  refine ⟨R, s.trans T, hd, ?_, ?_, ?_, ?_, (show LsN w S S1 from fun p hp => .inl (by rw [hN] at hp; exact hp)).app hL⟩
  · show S1.great = _
    rw [hg]
    rcases h0 with h0 | h0
    · have : ¬ 100 < S.deep + 0 := by omega
      simp [show ¬ 100 < S.deep by omega]
    · rw [h0]; rfl
  · show (S1.N ++ [_]).map Prod.fst = _
    rw [List.map_append, hN, e1]; simp
  · show (S1.N ++ [_]).length = _
    rw [List.length_append, hN, e2]; simp
  · show (S1.N ++ [_]).length + _ ≤ _ + S1.k
    rw [hN]; simp; omega
set_option maxHeartbeats 4000000 in
theorem place_any {B g n : Nat} (CE : Hid (CalE B g n)) {S : Sr} {w : World} (h : RdAt B g w S) (p : Pre n 2 S) : Calls Tryz.prog 92 #[.pointer (some ⟨g, 0, none⟩)] w (RdP B g fl S w (bnd (grE .E S.ws) fun a s d => must [93] s fun s => .ok (a, s, d)) 0) := by
  have hmf : ∀ (fn : Fn) (first cap : Array Value) (w : World), (Instr.makeFunc fn first cap).run Tryz.prog w = .ok (.func fn first cap) w := fun _ _ _ _ => rfl
  have CW := Lib.hid (within_E (F := fl) h (p.deep h (by omega)) (grE .E S.ws) (fun x s d e => dE1 e) (fun w1 r1 => CE.out S.dn w1 r1 (p.dn 3 (by omega))))
  clear h p CE
  cases hr : grE .E S.ws with
  | error k =>
    rw [hr] at CW
    rw [bnd_er rfl]
    go_enter Tryz.func92, Tryz.ntmps92
    go_wp2_with fail
    refine (CW.out).mono ?_; rintro e w3 he
    have FIN : Hid (RdP B g fl S w (.error k) 0 e w3) := Lib.hid he
    obtain ⟨rfl, o3⟩ := he
    clear o3 CW
    unfold pan at FIN ⊢
    go_wp2
    first | exact FIN.out | exact ⟨rfl, FIN.out⟩
  | ok y =>
    obtain ⟨x, s, d⟩ := y
    rw [hr] at CW
    rw [bnd_is rfl]
    cases hm : hdW [93] s with
    | false =>
      rw [must_no hm]
      go_enter Tryz.func92, Tryz.ntmps92
      go_wp2_with fail
      refine (CW.out).mono ?_; rintro e w1 ⟨S1, rfl, R1, hs⟩
      have CM := must_any R1.r [93] ks_of
      rw [hs, hm] at CM
      simp only [Bool.false_eq_true, if_false] at CM
      have CM := Lib.hid CM
      have R1 := Lib.hid R1
      have hp := Lib.hid (pan_at R1.out.r)
      rw [hs] at hp
      clear CW
      go_wp2_with fail
      refine (CM.out).mono ?_; rintro e w2 he
      have FIN : Hid (RdP B g fl S w (.error s.length) 0 e w2) := Lib.hid (rd_er R1.out.s (by rw [← hp.out]; exact he))
      obtain ⟨rfl, o3⟩ := he
      clear o3 CM
      unfold pan at FIN ⊢
      go_wp2
      first | exact FIN.out | exact ⟨rfl, FIN.out⟩
    | true =>
      rw [must_yes hm]
      go_enter Tryz.func92, Tryz.ntmps92
      go_wp2_with fail
      refine (CW.out).mono ?_; rintro e w1 ⟨S1, rfl, R1, hs⟩
      have CM := must_any R1.r [93] ks_of
      rw [hs, hm] at CM
      simp only [if_true] at CM
      have CM := Lib.hid CM
      have R1 := Lib.hid R1
      have hu := Lib.hid (up_ws (S := S1) (t := [93]) R1.out.r.le (by rw [hs]; exact hm))
      rw [hs] at hu
      clear CW
      obtain ⟨z, hz⟩ : ∃ z, Hid (rt S.N.length x = z) := ⟨_, Lib.hid rfl⟩
      rw [hz.out]
      go_wp2_with fail
      refine (CM.out).mono ?_; rintro e w2 ⟨rfl, R2, S2⟩
      have FIN := Lib.hid (R1.out.up R2 S2)
      clear R2 S2 CM
      go_wp2
      go_ret
      exact ⟨S1.up, by rw [hz.out]; rfl, FIN.out, hu.out⟩
set_option maxHeartbeats 4000000 in
theorem given_any {B g n : Nat} (CE : Hid (CalE B g n)) {S : Sr} {w : World} (h : RdAt B g w S) (p : Pre n 2 S) : Calls Tryz.prog 93 #[.pointer (some ⟨g, 0, none⟩)] w (RdP B g fl S w (must [61] S.ws fun s => bnd (grE .E s) fun a s d => must [59] s fun s => .ok (a, s, d)) 0) := by
  have hmf : ∀ (fn : Fn) (first cap : Array Value) (w : World), (Instr.makeFunc fn first cap).run Tryz.prog w = .ok (.func fn first cap) w := fun _ _ _ _ => rfl
  have CM0 := must_any h [61] ks_of
  have hp0 := Lib.hid (pan_at h)
  have hu0 := Lib.hid (fun hb => up_ws (t := [61]) h.le hb)
  cases hm0 : hdW [61] S.ws with
  | false =>
    rw [hm0] at CM0
    simp only [Bool.false_eq_true, if_false] at CM0
    have CM0 := Lib.hid CM0
    rw [must_no hm0]
    clear h
    go_enter Tryz.func93, Tryz.ntmps93
    go_wp2_with fail
    refine (CM0.out).mono ?_; rintro e w2 he
    have FIN : Hid (RdP B g fl S w (.error S.ws.length) 0 e w2) := Lib.hid ⟨by rw [← hp0.out]; exact he.1, he.2⟩
    obtain ⟨rfl, o3⟩ := he
    clear o3 CM0
    unfold pan at FIN ⊢
    go_wp2
    first | exact FIN.out | exact ⟨rfl, FIN.out⟩
  | true =>
    rw [hm0] at CM0
    simp only [if_true] at CM0
    have CM0 := Lib.hid CM0
    rw [must_yes hm0]
    have hu0 := Lib.hid (hu0.out hm0)
    have CWF := Lib.hid (fun w1 (r : RdAt B g w1 S.up) => within_E (F := fl) r (p.up.deep r (by omega)) (grE .E S.up.ws) (fun x s d e => dE1 e) (fun w1 r1 => CE.out S.up.dn w1 r1 (p.up.dn 3 (by omega))))
    rw [hu0.out] at CWF
    clear h p CE
    cases hr : grE .E S.ws.tail with
    | error k =>
      rw [bnd_er rfl]
      go_enter Tryz.func93, Tryz.ntmps93
      go_wp2_with fail
      refine (CM0.out).mono ?_; rintro e wq ⟨rfl, RQ, SQ⟩
      have CW := Lib.hid (CWF.out wq RQ)
      have SQ := Lib.hid SQ
      clear RQ CM0 CWF
      rw [hr] at CW
      go_wp2_with fail
      refine (CW.out).mono ?_; rintro e w3 he
      have FIN : Hid (RdP B g fl S w (.error k) 0 e w3) := Lib.hid (rd_er SQ.out he)
      obtain ⟨rfl, o3⟩ := he
      clear o3 CW
      unfold pan at FIN ⊢
      go_wp2
      first | exact FIN.out | exact ⟨rfl, FIN.out⟩
    | ok y =>
      obtain ⟨x, s, d⟩ := y
      rw [bnd_is rfl]
      cases hm : hdW [59] s with
      | false =>
        rw [must_no hm]
        go_enter Tryz.func93, Tryz.ntmps93
        go_wp2_with fail
        refine (CM0.out).mono ?_; rintro e wq ⟨rfl, RQ, SQ⟩
        have CW := Lib.hid (CWF.out wq RQ)
        have SQ := Lib.hid SQ
        clear RQ CM0 CWF
        rw [hr] at CW
        go_wp2_with fail
        refine (CW.out).mono ?_; rintro e w1 ⟨S1, rfl, R1, hs⟩
        have CM := must_any R1.r [59] ks_of
        rw [hs, hm] at CM
        simp only [Bool.false_eq_true, if_false] at CM
        have CM := Lib.hid CM
        have R1 := Lib.hid R1
        have hp := Lib.hid (pan_at R1.out.r)
        rw [hs] at hp
        clear CW
        go_wp2_with fail
        refine (CM.out).mono ?_; rintro e w2 he
        have FIN : Hid (RdP B g fl S w (.error s.length) 0 e w2) := Lib.hid (rd_er (SQ.out.trans R1.out.s) (by rw [← hp.out]; exact he))
        obtain ⟨rfl, o3⟩ := he
        clear o3 CM
        unfold pan at FIN ⊢
        go_wp2
        first | exact FIN.out | exact ⟨rfl, FIN.out⟩
      | true =>
        rw [must_yes hm]
        go_enter Tryz.func93, Tryz.ntmps93
        go_wp2_with fail
        refine (CM0.out).mono ?_; rintro e wq ⟨rfl, RQ, SQ⟩
        have CW := Lib.hid (CWF.out wq RQ)
        have SQ := Lib.hid SQ
        clear RQ CM0 CWF
        rw [hr] at CW
        go_wp2_with fail
        refine (CW.out).mono ?_; rintro e w1 ⟨S1, rfl, R1, hs⟩
        have CM := must_any R1.r [59] ks_of
        rw [hs, hm] at CM
        simp only [if_true] at CM
        have CM := Lib.hid CM
        have R1 := Lib.hid R1
        have hu := Lib.hid (up_ws (S := S1) (t := [59]) R1.out.r.le (by rw [hs]; exact hm))
        rw [hs] at hu
        clear CW
        obtain ⟨z, hz⟩ : ∃ z, Hid (rt S.up.N.length x = z) := ⟨_, Lib.hid rfl⟩
        rw [hz.out]
        go_wp2_with fail
        refine (CM.out).mono ?_; rintro e w2 ⟨rfl, R2, S2⟩
        have FIN := Lib.hid ((R1.out.of_up SQ.out).up R2 S2)
        clear R2 S2 CM
        go_wp2
        go_ret
        exact ⟨S1.up, by rw [show rt S.N.length x = z from hz.out]; rfl, FIN.out, hu.out⟩
theorem get_er {ws : List Pc} {t : Bs} {k : Nat} (h : (bnd (grE .E ws) fun a s d => must [93] s fun s => .ok (a, s, d)) = (.error k : Rr)) : (bnd (grE .E ws) fun a s d => must [93] s fun s => .ok (.get t a, s, d + 1)) = (.error k : Rr) := by
  cases hr : grE .E ws with
  | error j => rw [hr] at h; exact h
  | ok y =>
    obtain ⟨x, s, d⟩ := y
    rw [hr] at h
    change must [93] s _ = _ at h
    show must [93] s _ = _
    cases hm : hdW [93] s
    · rw [must_no hm] at h ⊢; exact h
    · rw [must_yes hm] at h; cases h
theorem get_ok {ws : List Pc} {t : Bs} {x : Nd} {s : List Pc} {d : Nat} (h : (bnd (grE .E ws) fun a s d => must [93] s fun s => .ok (a, s, d)) = (.ok (x, s, d) : Rr)) : (bnd (grE .E ws) fun a s d => must [93] s fun s => .ok (.get t a, s, d + 1)) = (.ok (.get t x, s, d + 1) : Rr) := by
  cases hr : grE .E ws with
  | error j => rw [hr] at h; cases h
  | ok y =>
    obtain ⟨x', s', d'⟩ := y
    rw [hr] at h
    change must [93] s' _ = _ at h
    show must [93] s' _ = _
    cases hm : hdW [93] s'
    · rw [must_no hm] at h; cases h
    · rw [must_yes hm] at h ⊢
      injection h with h; injection h with h1 h; injection h with h2 h3
      subst h1 h2 h3
      rfl
theorem hdw_cons {ws r : List Pc} {p : Pc} (h : ws = p :: r) (t : Bs) : hdW t ws = isW t p := by rw [h]; rfl
theorem hdk_cons {ws r : List Pc} {p : Pc} {k : Int} (h : ws = p :: r) (hk : p.1 = k) : hdK k ws = true := by rw [h]; simp [hdK, hk]
theorem hd_cons {ws r : List Pc} {p : Pc} (h : ws = p :: r) : ws.headD pc0 = p := by rw [h]; rfl
set_option maxHeartbeats 8000000 in
theorem named_any {B g n : Nat} (CE : Hid (CalE B g n)) {S : Sr} {w : World} (h : RdAt B g w S) (p : Pre (n + 1) 4 S) (hgr : S.deep ≤ 100 ∨ S.great = true) {p1 : Pc} {r : List Pc} (hws : S.ws = p1 :: r) (hp : p1.1 = 110) : Calls Tryz.prog 105 #[.pointer (some ⟨g, 0, none⟩)] w (RdP B g fl S w (if hdW [91] r then bnd (grE .E r.tail) fun a s d => must [93] s fun s => .ok (.get p1.2.1 a, s, d + 1) else .ok (.var p1.2.1, r, 1)) 1) := by
  have CN := Lib.hid (node_any 2 w)
  have CK := Lib.hid (fun w' (r : RdAt B g w' S) => kind_any r 110 (by decide))
  simp only [hdk_cons hws hp, if_true, hd_cons hws] at CK
  have hk := Lib.hid (hdk_lt (k := 110) h.le (hdk_cons hws hp))
  have hup : Hid (S.up.ws = r) := Lib.hid (by rw [upk_ws h.le (hdk_cons hws hp), hws]; rfl)
  have HH := Lib.hid h
  have HP := Lib.hid p
  have hfd := fld1
  have CT := Lib.hid (fun w' (r : RdAt B g w' S.up) => take_any r [91] ks_of)
  rw [hup.out] at CT
  have hN := Lib.hid (show S.N.length < 4500 by have := p.N; have := few_of h; omega)
  obtain ⟨pk, pt, pv⟩ := p1
  simp only at hp
  subst hp
  clear h p hws
  simp only
  cases hb : hdW [91] r
  · simp only [Bool.false_eq_true, if_false]
    rw [hb] at CT
    simp only [Bool.false_eq_true, if_false] at CT
    go_enter Tryz.func105, Tryz.ntmps105
    go_wp2_with fail
    refine (CN.out).mono ?_; rintro e w1 ⟨rfl, b1⟩
    unfold ndA ndC nd1
    simp only
    obtain ⟨wa2, wl2, ea2, el2, HZ2, L2⟩ := loc_st (HH.out.ofr b1) (Stp.of (g := g) (S := S) b1) HH.out.hB (.int .i64 2) (.int .i64 (-1)) (.int .i64 (-1)) (.int .i64 (-1)) (.string (strB [])) (.int .u32 0) (.slice none 0 0)
    have z0 := HZ2.out.cell 0
    have y0 := HZ2.out.frozen 0
    have z1 := HZ2.out.cell 1
    have y1 := HZ2.out.frozen 1
    have z2 := HZ2.out.cell 2
    have y2 := HZ2.out.frozen 2
    have z3 := HZ2.out.cell 3
    have y3 := HZ2.out.frozen 3
    have z4 := HZ2.out.cell 4
    have y4 := HZ2.out.frozen 4
    have z5 := HZ2.out.cell 5
    have y5 := HZ2.out.frozen 5
    have z6 := HZ2.out.cell 6
    have y6 := HZ2.out.frozen 6
    simp only [ndZ, List.getElem?_cons_zero, List.getElem?_cons_succ] at z0 z1 z2 z3 z4 z5 z6
    clear CN b1
    go_wp2_with fail
    refine ((CK.out _ L2.out.r)).mono ?_; rintro e w3 ⟨rfl, R3, S3⟩
    have L3 := Lib.hid (L2.out.call R3 S3)
    unfold aggP
    simp only
    clear z0 z1 z2 z3 z4 z5 z6 y0 y1 y2 y3 y4 y5 y6
    clear R3 S3 L2 CK HZ2 ea2 el2
    obtain ⟨ws4, es4, L4⟩ := L3.out.set 4 (.string (strB pt))
    simp only [List.set_cons_zero, List.set_cons_succ] at L4
    have m4 := L3.out.h.cell 4
    have p4 := L3.out.h.frozen 4
    simp only [List.getElem?_cons_zero, List.getElem?_cons_succ] at m4
    go_wp2_with fail
    refine ((CT.out _ L4.out.r)).mono ?_; rintro e w5 ⟨rfl, R5, S5⟩
    have L5 := Lib.hid (L4.out.call R5 S5)
    clear R5 S5 CT L4 L3
    have n0 := L5.out.h.cell 0
    have n1 := L5.out.h.cell 1
    have n2 := L5.out.h.cell 2
    have n3 := L5.out.h.cell 3
    have n4 := L5.out.h.cell 4
    have n5 := L5.out.h.cell 5
    have n6 := L5.out.h.cell 6
    simp only [List.getElem?_cons_zero, List.getElem?_cons_succ] at n0 n1 n2 n3 n4 n5 n6
    have CA := Lib.hid (add_any L5.out.r ⟨2, -1, -1, -1, pt, 0, []⟩ (.slice none 0 0) (ls_nil _ _ _ _ _ _ _ _) (show S.up.N.length < 5000 by have := hN.out; show S.N.length < 5000; omega))
    simp only [ndA, ndC, AddP] at CA
    go_wp2_with fail
    refine (CA.out).mono ?_; rintro e w6 ⟨nv, rfl, R6, S6⟩
    have FIN := Lib.hid (RdSt.leaf (F' := fl) (y := .var pt) L5.out.s rfl rfl rfl R6 S6 (Nat.le_refl _) rfl rfl hgr)
    have hz := Lib.hid (show rt S.N.length (.var pt) = (S.N.length : Int) by rw [rt_z]; simp [Mm.cnt])
    clear R6 S6 CA
    go_wp2
    go_ret
    exact ⟨_, by rw [hz.out]; rfl, FIN.out, hup.out⟩
  · simp only [if_true]
    rw [hb] at CT
    simp only [if_true] at CT
    have hk2 := Lib.hid (hd_lt (S := S.up) (t := [91]) (by have := hk.out; exact this) (by rw [hup.out]; exact hb))
    have hup2 : Hid (S.up.up.ws = r.tail) := Lib.hid (by rw [up_ws (S := S.up) (t := [91]) (by have := hk.out; exact this) (by rw [hup.out]; exact hb), hup.out])
    have CPL := Lib.hid (fun w' (r : RdAt B g w' S.up.up) => place_any CE r ((HP.out.up1 hk.out 2 (by omega)).up))
    rw [hup2.out] at CPL
    cases hr : (bnd (grE .E r.tail) fun a s d => must [93] s fun s => .ok (a, s, d)) with
    | error k =>
      have hE : (bnd (grE .E r.tail) fun a s d => must [93] s fun s => .ok (.get pt a, s, d + 1)) = (.error k : Rr) := get_er hr
      rw [hE]
      rw [hr] at CPL
      go_enter Tryz.func105, Tryz.ntmps105
      go_wp2_with fail
      refine (CN.out).mono ?_; rintro e w1 ⟨rfl, b1⟩
      unfold ndA ndC nd1
      simp only
      obtain ⟨wa2, wl2, ea2, el2, HZ2, L2⟩ := loc_st (HH.out.ofr b1) (Stp.of (g := g) (S := S) b1) HH.out.hB (.int .i64 2) (.int .i64 (-1)) (.int .i64 (-1)) (.int .i64 (-1)) (.string (strB [])) (.int .u32 0) (.slice none 0 0)
      have z0 := HZ2.out.cell 0
      have y0 := HZ2.out.frozen 0
      have z1 := HZ2.out.cell 1
      have y1 := HZ2.out.frozen 1
      have z2 := HZ2.out.cell 2
      have y2 := HZ2.out.frozen 2
      have z3 := HZ2.out.cell 3
      have y3 := HZ2.out.frozen 3
      have z4 := HZ2.out.cell 4
      have y4 := HZ2.out.frozen 4
      have z5 := HZ2.out.cell 5
      have y5 := HZ2.out.frozen 5
      have z6 := HZ2.out.cell 6
      have y6 := HZ2.out.frozen 6
      simp only [ndZ, List.getElem?_cons_zero, List.getElem?_cons_succ] at z0 z1 z2 z3 z4 z5 z6
      clear CN b1
      go_wp2_with fail
      refine ((CK.out _ L2.out.r)).mono ?_; rintro e w3 ⟨rfl, R3, S3⟩
      have L3 := Lib.hid (L2.out.call R3 S3)
      unfold aggP
      simp only
      clear z0 z1 z2 z3 z4 z5 z6 y0 y1 y2 y3 y4 y5 y6
      clear R3 S3 L2 CK HZ2 ea2 el2
      obtain ⟨ws4, es4, L4⟩ := L3.out.set 4 (.string (strB pt))
      simp only [List.set_cons_zero, List.set_cons_succ] at L4
      have m4 := L3.out.h.cell 4
      have p4 := L3.out.h.frozen 4
      simp only [List.getElem?_cons_zero, List.getElem?_cons_succ] at m4
      go_wp2_with fail
      refine ((CT.out _ L4.out.r)).mono ?_; rintro e w5 ⟨rfl, R5, S5⟩
      have L5 := Lib.hid (L4.out.call R5 S5)
      clear R5 S5 CT L4 L3
      obtain ⟨ws6, es6, L6⟩ := L5.out.set 0 (.int .i64 3)
      simp only [List.set_cons_zero, List.set_cons_succ] at L6
      have m6 := L5.out.h.cell 0
      have p6 := L5.out.h.frozen 0
      simp only [List.getElem?_cons_zero, List.getElem?_cons_succ] at m6
      go_wp2_with fail
      refine ((CPL.out _ L6.out.r)).mono ?_; rintro e w7 he
      have FIN : Hid (RdP B g fl S w (.error k) 1 e w7) := Lib.hid (rd_er L6.out.s he)
      obtain ⟨rfl, o3⟩ := he
      clear o3 CPL
      unfold pan at FIN ⊢
      go_wp2
      first | exact FIN.out | exact ⟨rfl, FIN.out⟩
    | ok y =>
      obtain ⟨x, s, d⟩ := y
      have hE : (bnd (grE .E r.tail) fun a s d => must [93] s fun s => .ok (.get pt a, s, d + 1)) = (.ok (.get pt x, s, d + 1) : Rr) := get_ok hr
      rw [hE]
      rw [hr] at CPL
      go_enter Tryz.func105, Tryz.ntmps105
      go_wp2_with fail
      refine (CN.out).mono ?_; rintro e w1 ⟨rfl, b1⟩
      unfold ndA ndC nd1
      simp only
      obtain ⟨wa2, wl2, ea2, el2, HZ2, L2⟩ := loc_st (HH.out.ofr b1) (Stp.of (g := g) (S := S) b1) HH.out.hB (.int .i64 2) (.int .i64 (-1)) (.int .i64 (-1)) (.int .i64 (-1)) (.string (strB [])) (.int .u32 0) (.slice none 0 0)
      have z0 := HZ2.out.cell 0
      have y0 := HZ2.out.frozen 0
      have z1 := HZ2.out.cell 1
      have y1 := HZ2.out.frozen 1
      have z2 := HZ2.out.cell 2
      have y2 := HZ2.out.frozen 2
      have z3 := HZ2.out.cell 3
      have y3 := HZ2.out.frozen 3
      have z4 := HZ2.out.cell 4
      have y4 := HZ2.out.frozen 4
      have z5 := HZ2.out.cell 5
      have y5 := HZ2.out.frozen 5
      have z6 := HZ2.out.cell 6
      have y6 := HZ2.out.frozen 6
      simp only [ndZ, List.getElem?_cons_zero, List.getElem?_cons_succ] at z0 z1 z2 z3 z4 z5 z6
      clear CN b1
      go_wp2_with fail
      refine ((CK.out _ L2.out.r)).mono ?_; rintro e w3 ⟨rfl, R3, S3⟩
      have L3 := Lib.hid (L2.out.call R3 S3)
      unfold aggP
      simp only
      clear z0 z1 z2 z3 z4 z5 z6 y0 y1 y2 y3 y4 y5 y6
      clear R3 S3 L2 CK HZ2 ea2 el2
      obtain ⟨ws4, es4, L4⟩ := L3.out.set 4 (.string (strB pt))
      simp only [List.set_cons_zero, List.set_cons_succ] at L4
      have m4 := L3.out.h.cell 4
      have p4 := L3.out.h.frozen 4
      simp only [List.getElem?_cons_zero, List.getElem?_cons_succ] at m4
      go_wp2_with fail
      refine ((CT.out _ L4.out.r)).mono ?_; rintro e w5 ⟨rfl, R5, S5⟩
      have L5 := Lib.hid (L4.out.call R5 S5)
      clear R5 S5 CT L4 L3
      obtain ⟨ws6, es6, L6⟩ := L5.out.set 0 (.int .i64 3)
      simp only [List.set_cons_zero, List.set_cons_succ] at L6
      have m6 := L5.out.h.cell 0
      have p6 := L5.out.h.frozen 0
      simp only [List.getElem?_cons_zero, List.getElem?_cons_succ] at m6
      go_wp2_with fail
      refine ((CPL.out _ L6.out.r)).mono ?_; rintro e w7 ⟨S7, rfl, R7, hs7⟩
      have L7 := Lib.hid (L6.out.call R7.r R7.s)
      have hu2N : S.up.up.N.length = S.N.length := rfl
      rw [hu2N]
      obtain ⟨z, hz⟩ : ∃ z, Hid (rt S.N.length x = z) := ⟨_, Lib.hid rfl⟩
      rw [hz.out]
      have R7 := Lib.hid R7
      clear CPL
      obtain ⟨ws8, es8, L8⟩ := L7.out.set 1 (.int .i64 z)
      simp only [List.set_cons_zero, List.set_cons_succ] at L8
      have m8 := L7.out.h.cell 1
      have p8 := L7.out.h.frozen 1
      simp only [List.getElem?_cons_zero, List.getElem?_cons_succ] at m8
      have n0 := L8.out.h.cell 0
      have n1 := L8.out.h.cell 1
      have n2 := L8.out.h.cell 2
      have n3 := L8.out.h.cell 3
      have n4 := L8.out.h.cell 4
      have n5 := L8.out.h.cell 5
      have n6 := L8.out.h.cell 6
      simp only [List.getElem?_cons_zero, List.getElem?_cons_succ] at n0 n1 n2 n3 n4 n5 n6
      have hg7 := R7.out.gb
      have hk7 : S.up.up.k = S.k + 2 := rfl
      rw [hu2N, hk7] at hg7
      have CA := Lib.hid (add_any L8.out.r ⟨3, z, -1, -1, pt, 0, []⟩ (.slice none 0 0) (ls_nil _ _ _ _ _ _ _ _) (by have := hN.out; have := HP.out.N; have := few_of R7.out.r; omega))
      simp only [ndA, ndC, AddP] at CA
      go_wp2_with fail
      refine (CA.out).mono ?_; rintro e w9 ⟨nv, rfl, R9, S9⟩
      have FIN := Lib.hid (RdSt.add (F' := fl) (y := .get pt x) (d' := d) (S := S) (w := w) (x := x) (d := d) (F := fl) (S1 := S7) ⟨L8.out.r, L8.out.s, R7.out.deep, R7.out.great, R7.out.N, R7.out.cnt, by omega, fun p hp => (R7.out.ls p hp).imp id (fun h => h.mono L6.out.s.fr.size)⟩ R9 S9 (by omega) (by show fl S.N.length (.get pt x) = _; simp only [fl]; rw [hz.out]) rfl rfl)
      have hv := Lib.hid (show (S7.N.length : Int) = rt S.N.length (.get pt x) by rw [rt_z, R7.out.cnt, hu2N]; simp only [Mm.cnt]; omega)
      clear R9 S9 CA
      go_wp2
      go_ret
      exact ⟨_, by rw [← hv.out]; rfl, FIN.out, hs7⟩
theorem isw_48 {p : Pc} (t : Bs) (h : p.1 = 48) : isW t p = false := by unfold isW; simp [h]
theorem isw_110 {p : Pc} (ok : WordOk p) (t : Bs) (h : p.1 = 110) (ht : isK t = true ∨ isL (t.headD 0) = false) : isW t p = false := by
  unfold isW
  by_cases e : p.2.1 = t
  · exfalso
    rcases ht with ht | ht
    · have := ok.kK.2 (by rw [e]; exact ht); omega
    · have := ok.kL.2 (.inl h); rw [e, ht] at this; cases this
  · simp [e]
theorem hdk_no {S : Sr} {k : Int} {r : List Pc} {p : Pc} (h : S.ws = p :: r) (hk : p.1 ≠ k) : hdK k S.ws = false := by rw [h]; simp [hdK, hk]
theorem RdAt.wok1 {B g : Nat} {w : World} {S : Sr} (h : RdAt B g w S) {p : Pc} {r : List Pc} (hw : S.ws = p :: r) : WordOk p := h.wok p (by unfold Sr.ws at hw; exact List.mem_of_mem_drop (by rw [hw]; exact List.mem_cons_self))
theorem up_cons {S : Sr} {p : Pc} {r : List Pc} (hw : S.ws = p :: r) (hk : S.k ≤ S.W.length) : S.k < S.W.length ∧ S.up.ws = r := by
  have hlt : S.k < S.W.length := by
    rcases Nat.lt_or_ge S.k S.W.length with h | h
    · exact h
    · rw [ws_nil (by omega)] at hw; cases hw
  refine ⟨hlt, ?_⟩
  rw [ws_cons hlt] at hw
  injection hw
set_option maxHeartbeats 16000000 in
theorem value_any {B g n : Nat} (CE : Hid (CalE B g n)) (CV : Hid (CalV B g n)) : CalV B g (n + 1) := by
  have hmf : ∀ (fn : Fn) (first cap : Array Value) (w : World), (Instr.makeFunc fn first cap).run Tryz.prog w = .ok (.func fn first cap) w := fun _ _ _ _ => rfl
  intro S w h p hgr
  have HH := Lib.hid h
  have HP := Lib.hid p
  have HG := Lib.hid hgr
  have hN := Lib.hid (show S.N.length < 4500 by have := p.N; have := few_of h; omega)
  have hfd := fld2
  have hfd0 := fld0
  cases hws : S.ws with
  | nil =>
    have hks := Lib.hid (show S.k = S.W.length by have := ws_len (S := S); rw [hws] at this; have := h.le; simp only [List.length_nil] at *; omega)
    have h1 : Hid (hdW [105, 110] S.ws = false) := Lib.hid (by rw [hws]; rfl)
    have h2 : Hid (hdW [45] S.ws = false) := Lib.hid (by rw [hws]; rfl)
    have h3 : Hid (hdW [40] S.ws = false) := Lib.hid (by rw [hws]; rfl)
    have hnx : Hid (S.ws.headD pc0 = pc0) := Lib.hid (by rw [hws]; rfl)
    have h48 : Hid (hdK 48 S.ws = false) := Lib.hid (by rw [hws]; rfl)
    have hne : ¬ (pc0.1 = 110) := by decide
    rw [grE_nil_V]
    have EZ : Hid (S.W.length - 0 = S.k) := Lib.hid (by have := hks.out; omega)
    clear h p hgr hws
    go_enter Tryz.func104, Tryz.ntmps104
    go_wp2_with fail
    have C1 := take_any HH.out [105, 110] ks_of
    rw [show hdW [105, 110] S.ws = false from h1.out] at C1
    simp only [Bool.false_eq_true, if_false, if_true] at C1
    replace C1 := Lib.hid C1
    go_wp2_with fail
    refine (C1.out).mono ?_; rintro e u1 ⟨rfl, R, T⟩
    have K1 := Lib.hid (And.intro R T)
    clear R T C1
    have C2 := take_any K1.out.1 [45] ks_of
    rw [show hdW [45] S.ws = false from h2.out] at C2
    simp only [Bool.false_eq_true, if_false, if_true] at C2
    replace C2 := Lib.hid C2
    go_wp2_with fail
    refine (C2.out).mono ?_; rintro e u2 ⟨rfl, R, T⟩
    have K2 := Lib.hid (And.intro R (K1.out.2.trans T))
    clear R T C2
    have C3 := take_any K2.out.1 [40] ks_of
    rw [show hdW [40] S.ws = false from h3.out] at C3
    simp only [Bool.false_eq_true, if_false, if_true] at C3
    replace C3 := Lib.hid C3
    go_wp2_with fail
    refine (C3.out).mono ?_; rintro e u3 ⟨rfl, R, T⟩
    have K3 := Lib.hid (And.intro R (K2.out.2.trans T))
    clear R T C3
    have CX := Lib.hid (nx_any K3.out.1)
    rw [hnx.out] at CX
    go_wp2_with fail
    refine (CX.out).mono ?_; rintro e u4 ⟨rfl, b4⟩
    have K4 := Lib.hid (And.intro (K3.out.1.ofr b4) (K3.out.2.trans (Stp.of b4)))
    clear b4 CX
    unfold aggP
    simp only
    have CN := Lib.hid (node_any 1 u4)
    go_wp2_with fail
    refine (CN.out).mono ?_; rintro e w1 ⟨rfl, b1⟩
    unfold ndA ndC nd1
    simp only
    obtain ⟨wa2, wl2, ea2, el2, HZ2, L2⟩ := loc_st (K4.out.1.ofr b1) (K4.out.2.trans (Stp.of b1)) HH.out.hB (.int .i64 1) (.int .i64 (-1)) (.int .i64 (-1)) (.int .i64 (-1)) (.string (strB [])) (.int .u32 0) (.slice none 0 0)
    have z0 := HZ2.out.cell 0
    have y0 := HZ2.out.frozen 0
    have z1 := HZ2.out.cell 1
    have y1 := HZ2.out.frozen 1
    have z2 := HZ2.out.cell 2
    have y2 := HZ2.out.frozen 2
    have z3 := HZ2.out.cell 3
    have y3 := HZ2.out.frozen 3
    have z4 := HZ2.out.cell 4
    have y4 := HZ2.out.frozen 4
    have z5 := HZ2.out.cell 5
    have y5 := HZ2.out.frozen 5
    have z6 := HZ2.out.cell 6
    have y6 := HZ2.out.frozen 6
    simp only [ndZ, List.getElem?_cons_zero, List.getElem?_cons_succ] at z0 z1 z2 z3 z4 z5 z6
    have CK := kind_any L2.out.r 48 (by decide)
    rw [h48.out] at CK
    simp only [Bool.false_eq_true, if_false, if_true, hnx.out] at CK
    replace CK := Lib.hid CK
    clear CN b1
    go_wp2_with fail
    refine (CK.out).mono ?_; rintro e w3 ⟨rfl, o3⟩
    have FIN : Hid (RdP B g fl S w (.error 0) 1 (pan S.k) w3) := Lib.hid ⟨by rw [EZ.out], L2.out.s.fr.trans o3 L2.out.s.nw⟩
    clear o3 CK L2 HZ2
    unfold pan at FIN ⊢
    go_wp2
    first | exact FIN.out | exact ⟨rfl, FIN.out⟩
  | cons q r =>
    have ok := h.wok1 hws
    obtain ⟨hlt, hup⟩ := up_cons hws h.le
    have hlt := Lib.hid hlt
    have hup := Lib.hid hup
    rw [grE_V]
    by_cases q48 : q.1 = 48
    · rw [if_pos q48]
      have h1 : Hid (hdW [105, 110] S.ws = false) := Lib.hid (by rw [hdw_cons hws]; exact isw_48 _ q48)
      have h2 : Hid (hdW [45] S.ws = false) := Lib.hid (by rw [hdw_cons hws]; exact isw_48 _ q48)
      have h3 : Hid (hdW [40] S.ws = false) := Lib.hid (by rw [hdw_cons hws]; exact isw_48 _ q48)
      have hnx : Hid (S.ws.headD pc0 = q) := Lib.hid (hd_cons hws)
      have h48 : Hid (hdK 48 S.ws = true) := Lib.hid (hdk_cons hws q48)
      have hne : ¬ (q.1 = 110) := by omega
      clear h p hgr hws q48 ok
      go_enter Tryz.func104, Tryz.ntmps104
      go_wp2_with fail
      have C1 := take_any HH.out [105, 110] ks_of
      rw [show hdW [105, 110] S.ws = false from h1.out] at C1
      simp only [Bool.false_eq_true, if_false, if_true] at C1
      replace C1 := Lib.hid C1
      go_wp2_with fail
      refine (C1.out).mono ?_; rintro e u1 ⟨rfl, R, T⟩
      have K1 := Lib.hid (And.intro R T)
      clear R T C1
      have C2 := take_any K1.out.1 [45] ks_of
      rw [show hdW [45] S.ws = false from h2.out] at C2
      simp only [Bool.false_eq_true, if_false, if_true] at C2
      replace C2 := Lib.hid C2
      go_wp2_with fail
      refine (C2.out).mono ?_; rintro e u2 ⟨rfl, R, T⟩
      have K2 := Lib.hid (And.intro R (K1.out.2.trans T))
      clear R T C2
      have C3 := take_any K2.out.1 [40] ks_of
      rw [show hdW [40] S.ws = false from h3.out] at C3
      simp only [Bool.false_eq_true, if_false, if_true] at C3
      replace C3 := Lib.hid C3
      go_wp2_with fail
      refine (C3.out).mono ?_; rintro e u3 ⟨rfl, R, T⟩
      have K3 := Lib.hid (And.intro R (K2.out.2.trans T))
      clear R T C3
      have CX := Lib.hid (nx_any K3.out.1)
      rw [hnx.out] at CX
      go_wp2_with fail
      refine (CX.out).mono ?_; rintro e u4 ⟨rfl, b4⟩
      have K4 := Lib.hid (And.intro (K3.out.1.ofr b4) (K3.out.2.trans (Stp.of b4)))
      clear b4 CX
      unfold aggP
      simp only
      have CN := Lib.hid (node_any 1 u4)
      go_wp2_with fail
      refine (CN.out).mono ?_; rintro e w1 ⟨rfl, b1⟩
      unfold ndA ndC nd1
      simp only
      obtain ⟨wa2, wl2, ea2, el2, HZ2, L2⟩ := loc_st (K4.out.1.ofr b1) (K4.out.2.trans (Stp.of b1)) HH.out.hB (.int .i64 1) (.int .i64 (-1)) (.int .i64 (-1)) (.int .i64 (-1)) (.string (strB [])) (.int .u32 0) (.slice none 0 0)
      have z0 := HZ2.out.cell 0
      have y0 := HZ2.out.frozen 0
      have z1 := HZ2.out.cell 1
      have y1 := HZ2.out.frozen 1
      have z2 := HZ2.out.cell 2
      have y2 := HZ2.out.frozen 2
      have z3 := HZ2.out.cell 3
      have y3 := HZ2.out.frozen 3
      have z4 := HZ2.out.cell 4
      have y4 := HZ2.out.frozen 4
      have z5 := HZ2.out.cell 5
      have y5 := HZ2.out.frozen 5
      have z6 := HZ2.out.cell 6
      have y6 := HZ2.out.frozen 6
      simp only [ndZ, List.getElem?_cons_zero, List.getElem?_cons_succ] at z0 z1 z2 z3 z4 z5 z6
      have CK := kind_any L2.out.r 48 (by decide)
      rw [h48.out] at CK
      simp only [Bool.false_eq_true, if_false, if_true, hnx.out] at CK
      replace CK := Lib.hid CK
      clear CN b1
      go_wp2_with fail
      refine (CK.out).mono ?_; rintro e w3 ⟨rfl, R3, S3⟩
      have L3 := Lib.hid (L2.out.call R3 S3)
      obtain ⟨qk, qt, qv⟩ := q
      unfold aggP
      simp only
      clear z0 z1 z2 z3 z4 z5 z6 y0 y1 y2 y3 y4 y5 y6
      clear R3 S3 L2 CK HZ2 ea2 el2
      obtain ⟨ws4, es4, L4⟩ := L3.out.set 5 (.int .u32 qv)
      simp only [List.set_cons_zero, List.set_cons_succ] at L4
      have m4 := L3.out.h.cell 5
      have p4 := L3.out.h.frozen 5
      simp only [List.getElem?_cons_zero, List.getElem?_cons_succ] at m4
      have n0 := L4.out.h.cell 0
      have n1 := L4.out.h.cell 1
      have n2 := L4.out.h.cell 2
      have n3 := L4.out.h.cell 3
      have n4 := L4.out.h.cell 4
      have n5 := L4.out.h.cell 5
      have n6 := L4.out.h.cell 6
      simp only [List.getElem?_cons_zero, List.getElem?_cons_succ] at n0 n1 n2 n3 n4 n5 n6
      have CA := Lib.hid (add_any L4.out.r ⟨1, -1, -1, -1, [], qv, []⟩ (.slice none 0 0) (ls_nil _ _ _ _ _ _ _ _) (show S.up.N.length < 5000 by have := hN.out; show S.N.length < 5000; omega))
      simp only [ndA, ndC, AddP] at CA
      clear L3
      go_wp2_with fail
      refine (CA.out).mono ?_; rintro e w6 ⟨nv, rfl, R6, S6⟩
      have FIN := Lib.hid (RdSt.leaf (F' := fl) (y := .num qv) L4.out.s rfl rfl rfl R6 S6 (Nat.le_refl _) rfl rfl HG.out)
      have hz := Lib.hid (show rt S.N.length (.num qv) = (S.N.length : Int) by rw [rt_z]; simp [Mm.cnt])
      clear R6 S6 CA
      go_wp2
      go_ret
      exact ⟨_, by rw [hz.out]; rfl, FIN.out, hup.out⟩
    rw [if_neg q48]
    by_cases q110 : q.1 = 110
    · rw [if_pos q110]
      have h1 : Hid (hdW [105, 110] S.ws = false) := Lib.hid (by rw [hdw_cons hws]; exact isw_110 ok _ q110 (.inl (by decide)))
      have h2 : Hid (hdW [45] S.ws = false) := Lib.hid (by rw [hdw_cons hws]; exact isw_110 ok _ q110 (.inr (by decide)))
      have h3 : Hid (hdW [40] S.ws = false) := Lib.hid (by rw [hdw_cons hws]; exact isw_110 ok _ q110 (.inr (by decide)))
      have hnx : Hid (S.ws.headD pc0 = q) := Lib.hid (hd_cons hws)
      have CNM := Lib.hid (fun w' (r' : RdAt B g w' S) => named_any CE r' p hgr hws q110)
      have hq := q110
      clear h p hgr hws q48 ok q110
      cases hr : (if hdW [91] r then bnd (grE .E r.tail) fun a s d => must [93] s fun s => .ok (.get q.2.1 a, s, d + 1) else .ok (.var q.2.1, r, 1) : Rr) with
      | error k =>
        go_enter Tryz.func104, Tryz.ntmps104
        go_wp2_with fail
        have C1 := take_any HH.out [105, 110] ks_of
        rw [show hdW [105, 110] S.ws = false from h1.out] at C1
        simp only [Bool.false_eq_true, if_false, if_true] at C1
        replace C1 := Lib.hid C1
        go_wp2_with fail
        refine (C1.out).mono ?_; rintro e u1 ⟨rfl, R, T⟩
        have K1 := Lib.hid (And.intro R T)
        clear R T C1
        have C2 := take_any K1.out.1 [45] ks_of
        rw [show hdW [45] S.ws = false from h2.out] at C2
        simp only [Bool.false_eq_true, if_false, if_true] at C2
        replace C2 := Lib.hid C2
        go_wp2_with fail
        refine (C2.out).mono ?_; rintro e u2 ⟨rfl, R, T⟩
        have K2 := Lib.hid (And.intro R (K1.out.2.trans T))
        clear R T C2
        have C3 := take_any K2.out.1 [40] ks_of
        rw [show hdW [40] S.ws = false from h3.out] at C3
        simp only [Bool.false_eq_true, if_false, if_true] at C3
        replace C3 := Lib.hid C3
        go_wp2_with fail
        refine (C3.out).mono ?_; rintro e u3 ⟨rfl, R, T⟩
        have K3 := Lib.hid (And.intro R (K2.out.2.trans T))
        clear R T C3
        have CX := Lib.hid (nx_any K3.out.1)
        rw [hnx.out] at CX
        go_wp2_with fail
        refine (CX.out).mono ?_; rintro e u4 ⟨rfl, b4⟩
        have K4 := Lib.hid (And.intro (K3.out.1.ofr b4) (K3.out.2.trans (Stp.of b4)))
        clear b4 CX
        unfold aggP
        simp only [hq]
        have CM := Lib.hid (CNM.out _ K4.out.1)
        clear CNM
        rw [hr] at CM
        go_wp2_with fail
        refine (CM.out).mono ?_; rintro e w7 he
        have FIN : Hid (RdP B g fl S w (.error k) 1 e w7) := Lib.hid (rd_er K4.out.2 he)
        obtain ⟨rfl, o3⟩ := he
        clear o3 CM
        unfold pan at FIN ⊢
        go_wp2
        first | exact FIN.out | exact ⟨rfl, FIN.out⟩
      | ok y =>
        obtain ⟨x, s, d⟩ := y
        go_enter Tryz.func104, Tryz.ntmps104
        go_wp2_with fail
        have C1 := take_any HH.out [105, 110] ks_of
        rw [show hdW [105, 110] S.ws = false from h1.out] at C1
        simp only [Bool.false_eq_true, if_false, if_true] at C1
        replace C1 := Lib.hid C1
        go_wp2_with fail
        refine (C1.out).mono ?_; rintro e u1 ⟨rfl, R, T⟩
        have K1 := Lib.hid (And.intro R T)
        clear R T C1
        have C2 := take_any K1.out.1 [45] ks_of
        rw [show hdW [45] S.ws = false from h2.out] at C2
        simp only [Bool.false_eq_true, if_false, if_true] at C2
        replace C2 := Lib.hid C2
        go_wp2_with fail
        refine (C2.out).mono ?_; rintro e u2 ⟨rfl, R, T⟩
        have K2 := Lib.hid (And.intro R (K1.out.2.trans T))
        clear R T C2
        have C3 := take_any K2.out.1 [40] ks_of
        rw [show hdW [40] S.ws = false from h3.out] at C3
        simp only [Bool.false_eq_true, if_false, if_true] at C3
        replace C3 := Lib.hid C3
        go_wp2_with fail
        refine (C3.out).mono ?_; rintro e u3 ⟨rfl, R, T⟩
        have K3 := Lib.hid (And.intro R (K2.out.2.trans T))
        clear R T C3
        have CX := Lib.hid (nx_any K3.out.1)
        rw [hnx.out] at CX
        go_wp2_with fail
        refine (CX.out).mono ?_; rintro e u4 ⟨rfl, b4⟩
        have K4 := Lib.hid (And.intro (K3.out.1.ofr b4) (K3.out.2.trans (Stp.of b4)))
        clear b4 CX
        unfold aggP
        simp only [hq]
        have CM := Lib.hid (CNM.out _ K4.out.1)
        clear CNM
        rw [hr] at CM
        go_wp2_with fail
        refine (CM.out).mono ?_; rintro e w7 ⟨S7, rfl, R7, hs7⟩
        have FIN := Lib.hid (And.intro (R7.pre K4.out.2 rfl (Nat.le_refl _) rfl rfl) hs7)
        clear R7 hs7 CM
        go_wp2
        go_ret
        exact ⟨S7, rfl, FIN.out⟩
    rw [if_neg q110]
    by_cases qin : isW [105, 110] q = true
    · rw [if_pos qin]
      have h1 : Hid (hdW [105, 110] S.ws = true) := Lib.hid (by rw [hdw_cons hws]; exact qin)
      clear h p hgr hws q48 ok q110 qin
      go_enter Tryz.func104, Tryz.ntmps104
      go_wp2_with fail
      have C1 := take_any HH.out [105, 110] ks_of
      rw [show hdW [105, 110] S.ws = true from h1.out] at C1
      simp only [Bool.false_eq_true, if_false, if_true] at C1
      replace C1 := Lib.hid C1
      go_wp2_with fail
      refine (C1.out).mono ?_; rintro e u1 ⟨rfl, R, T⟩
      have K1 := Lib.hid (And.intro R T)
      clear R T C1
      have CN := Lib.hid (node_any 4 u1)
      go_wp2_with fail
      refine (CN.out).mono ?_; rintro e w1 ⟨rfl, b1⟩
      have CA := Lib.hid (add_any (K1.out.1.ofr b1) ⟨4, -1, -1, -1, [], 0, []⟩ (.slice none 0 0) (ls_nil _ _ _ _ _ _ _ _) (show S.up.N.length < 5000 by have := hN.out; show S.N.length < 5000; omega))
      have S1 := Lib.hid (K1.out.2.trans (Stp.of b1))
      simp only [ndA, ndC, AddP] at CA
      unfold ndA ndC nd1
      simp only
      clear CN b1
      go_wp2_with fail
      refine (CA.out).mono ?_; rintro e w6 ⟨nv, rfl, R6, S6⟩
      have FIN := Lib.hid (RdSt.leaf (F' := fl) (y := .inp) S1.out rfl rfl rfl R6 S6 (Nat.le_refl _) rfl rfl HG.out)
      have hz := Lib.hid (show rt S.N.length .inp = (S.N.length : Int) by rw [rt_z]; simp [Mm.cnt])
      clear R6 S6 CA
      go_wp2
      go_ret
      exact ⟨_, by rw [hz.out]; rfl, FIN.out, hup.out⟩
    rw [if_neg qin]
    have h1 : Hid (hdW [105, 110] S.ws = false) := Lib.hid (by rw [hdw_cons hws]; simpa using qin)
    by_cases qm : isW [45] q = true
    · rw [if_pos qm]
      have h2 : Hid (hdW [45] S.ws = true) := Lib.hid (by rw [hdw_cons hws]; exact qm)
      have CW0 := Lib.hid (fun w' (r' : RdAt B g w' S.up) => within_V (F := fl) r' ((p.up1 hlt.out 3 (by omega)).deep r' (by omega)) (grE .V S.up.ws) (fun x s d e => dV1 e) (fun w1 r1 => CV.out S.up.dn w1 r1 ((p.up1 hlt.out 3 (by omega)).dn 4 (by omega)) (dn_gr S.up)))
      rw [hup.out] at CW0
      clear h p hgr hws q48 ok q110 qin qm
      cases hr : grE .V r with
      | error k =>
        rw [bnd_er rfl]
        go_enter Tryz.func104, Tryz.ntmps104
        go_wp2_with fail
        have C1 := take_any HH.out [105, 110] ks_of
        rw [show hdW [105, 110] S.ws = false from h1.out] at C1
        simp only [Bool.false_eq_true, if_false, if_true] at C1
        replace C1 := Lib.hid C1
        go_wp2_with fail
        refine (C1.out).mono ?_; rintro e u1 ⟨rfl, R, T⟩
        have K1 := Lib.hid (And.intro R T)
        clear R T C1
        have C2 := take_any K1.out.1 [45] ks_of
        rw [show hdW [45] S.ws = true from h2.out] at C2
        simp only [Bool.false_eq_true, if_false, if_true] at C2
        replace C2 := Lib.hid C2
        go_wp2_with fail
        refine (C2.out).mono ?_; rintro e u2 ⟨rfl, R, T⟩
        have K2 := Lib.hid (And.intro R (K1.out.2.trans T))
        clear R T C2
        have CN := Lib.hid (node_any 5 u2)
        go_wp2_with fail
        refine (CN.out).mono ?_; rintro e w1 ⟨rfl, b1⟩
        unfold ndA ndC nd1
        simp only
        obtain ⟨wa3, wl3, ea3, el3, HZ3, L3⟩ := loc_st (K2.out.1.ofr b1) (K2.out.2.trans (Stp.of b1)) HH.out.hB (.int .i64 5) (.int .i64 (-1)) (.int .i64 (-1)) (.int .i64 (-1)) (.string (strB [])) (.int .u32 0) (.slice none 0 0)
        have z0 := HZ3.out.cell 0
        have y0 := HZ3.out.frozen 0
        have z1 := HZ3.out.cell 1
        have y1 := HZ3.out.frozen 1
        have z2 := HZ3.out.cell 2
        have y2 := HZ3.out.frozen 2
        have z3 := HZ3.out.cell 3
        have y3 := HZ3.out.frozen 3
        have z4 := HZ3.out.cell 4
        have y4 := HZ3.out.frozen 4
        have z5 := HZ3.out.cell 5
        have y5 := HZ3.out.frozen 5
        have z6 := HZ3.out.cell 6
        have y6 := HZ3.out.frozen 6
        simp only [ndZ, List.getElem?_cons_zero, List.getElem?_cons_succ] at z0 z1 z2 z3 z4 z5 z6
        have CW := Lib.hid (CW0.out _ L3.out.r)
        have hsz := Lib.hid L3.out.s.fr.size
        clear CN b1 CW0
        rw [hr] at CW
        go_wp2_with fail
        refine (CW.out).mono ?_; rintro e w7 he
        have FIN : Hid (RdP B g fl S w (.error k) 1 e w7) := Lib.hid (rd_er L3.out.s he)
        obtain ⟨rfl, o3⟩ := he
        clear o3 CW L3
        unfold pan at FIN ⊢
        go_wp2
        first | exact FIN.out | exact ⟨rfl, FIN.out⟩
      | ok y =>
        obtain ⟨x, s, d⟩ := y
        rw [bnd_is rfl]
        go_enter Tryz.func104, Tryz.ntmps104
        go_wp2_with fail
        have C1 := take_any HH.out [105, 110] ks_of
        rw [show hdW [105, 110] S.ws = false from h1.out] at C1
        simp only [Bool.false_eq_true, if_false, if_true] at C1
        replace C1 := Lib.hid C1
        go_wp2_with fail
        refine (C1.out).mono ?_; rintro e u1 ⟨rfl, R, T⟩
        have K1 := Lib.hid (And.intro R T)
        clear R T C1
        have C2 := take_any K1.out.1 [45] ks_of
        rw [show hdW [45] S.ws = true from h2.out] at C2
        simp only [Bool.false_eq_true, if_false, if_true] at C2
        replace C2 := Lib.hid C2
        go_wp2_with fail
        refine (C2.out).mono ?_; rintro e u2 ⟨rfl, R, T⟩
        have K2 := Lib.hid (And.intro R (K1.out.2.trans T))
        clear R T C2
        have CN := Lib.hid (node_any 5 u2)
        go_wp2_with fail
        refine (CN.out).mono ?_; rintro e w1 ⟨rfl, b1⟩
        unfold ndA ndC nd1
        simp only
        obtain ⟨wa3, wl3, ea3, el3, HZ3, L3⟩ := loc_st (K2.out.1.ofr b1) (K2.out.2.trans (Stp.of b1)) HH.out.hB (.int .i64 5) (.int .i64 (-1)) (.int .i64 (-1)) (.int .i64 (-1)) (.string (strB [])) (.int .u32 0) (.slice none 0 0)
        have z0 := HZ3.out.cell 0
        have y0 := HZ3.out.frozen 0
        have z1 := HZ3.out.cell 1
        have y1 := HZ3.out.frozen 1
        have z2 := HZ3.out.cell 2
        have y2 := HZ3.out.frozen 2
        have z3 := HZ3.out.cell 3
        have y3 := HZ3.out.frozen 3
        have z4 := HZ3.out.cell 4
        have y4 := HZ3.out.frozen 4
        have z5 := HZ3.out.cell 5
        have y5 := HZ3.out.frozen 5
        have z6 := HZ3.out.cell 6
        have y6 := HZ3.out.frozen 6
        simp only [ndZ, List.getElem?_cons_zero, List.getElem?_cons_succ] at z0 z1 z2 z3 z4 z5 z6
        have CW := Lib.hid (CW0.out _ L3.out.r)
        have hsz := Lib.hid L3.out.s.fr.size
        clear CN b1 CW0
        rw [hr] at CW
        go_wp2_with fail
        refine (CW.out).mono ?_; rintro e w7 ⟨S7, rfl, R7, hs7⟩
        have L7 := Lib.hid (L3.out.call R7.r R7.s)
        have hu2N : S.up.N.length = S.N.length := rfl
        rw [hu2N]
        obtain ⟨z, hz⟩ : ∃ z, Hid (rt S.N.length x = z) := ⟨_, Lib.hid rfl⟩
        rw [hz.out]
        have R7 := Lib.hid R7
        clear CW
        clear z0 z1 z2 z3 z4 z5 z6 y0 y1 y2 y3 y4 y5 y6
        clear L3 HZ3 ea3 el3
        obtain ⟨ws8, es8, L8⟩ := L7.out.set 1 (.int .i64 z)
        simp only [List.set_cons_zero, List.set_cons_succ] at L8
        have m8 := L7.out.h.cell 1
        have p8 := L7.out.h.frozen 1
        simp only [List.getElem?_cons_zero, List.getElem?_cons_succ] at m8
        have n0 := L8.out.h.cell 0
        have n1 := L8.out.h.cell 1
        have n2 := L8.out.h.cell 2
        have n3 := L8.out.h.cell 3
        have n4 := L8.out.h.cell 4
        have n5 := L8.out.h.cell 5
        have n6 := L8.out.h.cell 6
        simp only [List.getElem?_cons_zero, List.getElem?_cons_succ] at n0 n1 n2 n3 n4 n5 n6
        have hg7 := R7.out.gb
        have hk7 : S.up.k = S.k + 1 := rfl
        rw [hu2N, hk7] at hg7
        have CA := Lib.hid (add_any L8.out.r ⟨5, z, -1, -1, [], 0, []⟩ (.slice none 0 0) (ls_nil _ _ _ _ _ _ _ _) (by have := hN.out; have := HP.out.N; have := few_of R7.out.r; omega))
        simp only [ndA, ndC, AddP] at CA
        go_wp2_with fail
        refine (CA.out).mono ?_; rintro e w9 ⟨nv, rfl, R9, S9⟩
        have FIN := Lib.hid (RdSt.add (F' := fl) (y := .neg x) (d' := d) (S := S) (w := w) (x := x) (d := d) (F := fl) (S1 := S7) ⟨L8.out.r, L8.out.s, R7.out.deep, R7.out.great, R7.out.N, R7.out.cnt, by omega, fun p hp => (R7.out.ls p hp).imp id (fun h => h.mono hsz.out)⟩ R9 S9 (by omega) (by show fl S.N.length (.neg x) = _; simp only [fl]; rw [hz.out]) rfl rfl)
        have hv := Lib.hid (show (S7.N.length : Int) = rt S.N.length (.neg x) by rw [rt_z, R7.out.cnt, hu2N]; simp only [Mm.cnt]; omega)
        clear R9 S9 CA
        go_wp2
        go_ret
        exact ⟨_, by rw [← hv.out]; rfl, FIN.out, hs7⟩
    rw [if_neg qm]
    have h2 : Hid (hdW [45] S.ws = false) := Lib.hid (by rw [hdw_cons hws]; simpa using qm)
    by_cases qp : isW [40] q = true
    · rw [if_pos qp]
      have h3 : Hid (hdW [40] S.ws = true) := Lib.hid (by rw [hdw_cons hws]; exact qp)
      have CW0 := Lib.hid (fun w' (r' : RdAt B g w' S.up) => within_E (F := fl) r' ((p.up1 hlt.out 2 (by omega)).deep r' (by omega)) (grE .E S.up.ws) (fun x s d e => dE1 e) (fun w1 r1 => CE.out S.up.dn w1 r1 ((p.up1 hlt.out 2 (by omega)).dn 3 (by omega))))
      rw [hup.out] at CW0
      clear h p hgr hws q48 ok q110 qin qm qp
      cases hr : grE .E r with
      | error k =>
        rw [bnd_er rfl]
        go_enter Tryz.func104, Tryz.ntmps104
        go_wp2_with fail
        have C1 := take_any HH.out [105, 110] ks_of
        rw [show hdW [105, 110] S.ws = false from h1.out] at C1
        simp only [Bool.false_eq_true, if_false, if_true] at C1
        replace C1 := Lib.hid C1
        go_wp2_with fail
        refine (C1.out).mono ?_; rintro e u1 ⟨rfl, R, T⟩
        have K1 := Lib.hid (And.intro R T)
        clear R T C1
        have C2 := take_any K1.out.1 [45] ks_of
        rw [show hdW [45] S.ws = false from h2.out] at C2
        simp only [Bool.false_eq_true, if_false, if_true] at C2
        replace C2 := Lib.hid C2
        go_wp2_with fail
        refine (C2.out).mono ?_; rintro e u2 ⟨rfl, R, T⟩
        have K2 := Lib.hid (And.intro R (K1.out.2.trans T))
        clear R T C2
        have C3 := take_any K2.out.1 [40] ks_of
        rw [show hdW [40] S.ws = true from h3.out] at C3
        simp only [Bool.false_eq_true, if_false, if_true] at C3
        replace C3 := Lib.hid C3
        go_wp2_with fail
        refine (C3.out).mono ?_; rintro e u3 ⟨rfl, R, T⟩
        have K3 := Lib.hid (And.intro R (K2.out.2.trans T))
        clear R T C3
        have CW := Lib.hid (CW0.out _ K3.out.1)
        clear CW0
        rw [hr] at CW
        go_wp2_with fail
        refine (CW.out).mono ?_; rintro e w7 he
        have FIN : Hid (RdP B g fl S w (.error k) 1 e w7) := Lib.hid (rd_er K3.out.2 he)
        obtain ⟨rfl, o3⟩ := he
        clear o3 CW
        unfold pan at FIN ⊢
        go_wp2
        first | exact FIN.out | exact ⟨rfl, FIN.out⟩
      | ok y =>
        obtain ⟨x, s, d⟩ := y
        rw [bnd_is rfl]
        cases hm : hdW [41] s with
        | false =>
          rw [must_no hm]
          go_enter Tryz.func104, Tryz.ntmps104
          go_wp2_with fail
          have C1 := take_any HH.out [105, 110] ks_of
          rw [show hdW [105, 110] S.ws = false from h1.out] at C1
          simp only [Bool.false_eq_true, if_false, if_true] at C1
          replace C1 := Lib.hid C1
          go_wp2_with fail
          refine (C1.out).mono ?_; rintro e u1 ⟨rfl, R, T⟩
          have K1 := Lib.hid (And.intro R T)
          clear R T C1
          have C2 := take_any K1.out.1 [45] ks_of
          rw [show hdW [45] S.ws = false from h2.out] at C2
          simp only [Bool.false_eq_true, if_false, if_true] at C2
          replace C2 := Lib.hid C2
          go_wp2_with fail
          refine (C2.out).mono ?_; rintro e u2 ⟨rfl, R, T⟩
          have K2 := Lib.hid (And.intro R (K1.out.2.trans T))
          clear R T C2
          have C3 := take_any K2.out.1 [40] ks_of
          rw [show hdW [40] S.ws = true from h3.out] at C3
          simp only [Bool.false_eq_true, if_false, if_true] at C3
          replace C3 := Lib.hid C3
          go_wp2_with fail
          refine (C3.out).mono ?_; rintro e u3 ⟨rfl, R, T⟩
          have K3 := Lib.hid (And.intro R (K2.out.2.trans T))
          clear R T C3
          have CW := Lib.hid (CW0.out _ K3.out.1)
          clear CW0
          rw [hr] at CW
          go_wp2_with fail
          refine (CW.out).mono ?_; rintro e w7 ⟨S7, rfl, R7, hs7⟩
          have CM := must_any R7.r [41] ks_of
          rw [hs7, hm] at CM
          simp only [Bool.false_eq_true, if_false] at CM
          have CM := Lib.hid CM
          have R7 := Lib.hid R7
          have hp := Lib.hid (pan_at R7.out.r)
          rw [hs7] at hp
          clear CW
          go_wp2_with fail
          refine (CM.out).mono ?_; rintro e w2 he
          have FIN : Hid (RdP B g fl S w (.error s.length) 1 e w2) := Lib.hid (rd_er (K3.out.2.trans R7.out.s) (by rw [← hp.out]; exact he))
          obtain ⟨rfl, o3⟩ := he
          clear o3 CM
          unfold pan at FIN ⊢
          go_wp2
          first | exact FIN.out | exact ⟨rfl, FIN.out⟩
        | true =>
          rw [must_yes hm]
          go_enter Tryz.func104, Tryz.ntmps104
          go_wp2_with fail
          have C1 := take_any HH.out [105, 110] ks_of
          rw [show hdW [105, 110] S.ws = false from h1.out] at C1
          simp only [Bool.false_eq_true, if_false, if_true] at C1
          replace C1 := Lib.hid C1
          go_wp2_with fail
          refine (C1.out).mono ?_; rintro e u1 ⟨rfl, R, T⟩
          have K1 := Lib.hid (And.intro R T)
          clear R T C1
          have C2 := take_any K1.out.1 [45] ks_of
          rw [show hdW [45] S.ws = false from h2.out] at C2
          simp only [Bool.false_eq_true, if_false, if_true] at C2
          replace C2 := Lib.hid C2
          go_wp2_with fail
          refine (C2.out).mono ?_; rintro e u2 ⟨rfl, R, T⟩
          have K2 := Lib.hid (And.intro R (K1.out.2.trans T))
          clear R T C2
          have C3 := take_any K2.out.1 [40] ks_of
          rw [show hdW [40] S.ws = true from h3.out] at C3
          simp only [Bool.false_eq_true, if_false, if_true] at C3
          replace C3 := Lib.hid C3
          go_wp2_with fail
          refine (C3.out).mono ?_; rintro e u3 ⟨rfl, R, T⟩
          have K3 := Lib.hid (And.intro R (K2.out.2.trans T))
          clear R T C3
          have CW := Lib.hid (CW0.out _ K3.out.1)
          clear CW0
          rw [hr] at CW
          go_wp2_with fail
          refine (CW.out).mono ?_; rintro e w7 ⟨S7, rfl, R7, hs7⟩
          have CM := must_any R7.r [41] ks_of
          rw [hs7, hm] at CM
          simp only [if_true] at CM
          have CM := Lib.hid CM
          have R7 := Lib.hid (R7.of_up K3.out.2)
          have hu := Lib.hid (up_ws (S := S7) (t := [41]) R7.out.r.le (by rw [hs7]; exact hm))
          rw [hs7] at hu
          clear CW
          obtain ⟨z, hz⟩ : ∃ z, Hid (rt S.up.N.length x = z) := ⟨_, Lib.hid rfl⟩
          rw [hz.out]
          go_wp2_with fail
          refine (CM.out).mono ?_; rintro e w2 ⟨rfl, R2, S2⟩
          have FIN := Lib.hid (R7.out.up R2 S2)
          clear R2 S2 CM
          go_wp2
          go_ret
          exact ⟨S7.up, by rw [show rt S.N.length x = z from hz.out]; rfl, FIN.out, hu.out⟩
    rw [if_neg qp]
    have h3 : Hid (hdW [40] S.ws = false) := Lib.hid (by rw [hdw_cons hws]; simpa using qp)
    have hnx : Hid (S.ws.headD pc0 = q) := Lib.hid (hd_cons hws)
    have h48 : Hid (hdK 48 S.ws = false) := Lib.hid (hdk_no hws q48)
    have hne : ¬ (q.1 = 110) := q110
    have EZ : Hid (S.W.length - (r.length + 1) = S.k) := Lib.hid (by have := pan_at h; rw [hws] at this; simp at this; omega)
    clear h p hgr hws q48 ok q110 qin qm qp
    go_enter Tryz.func104, Tryz.ntmps104
    go_wp2_with fail
    have C1 := take_any HH.out [105, 110] ks_of
    rw [show hdW [105, 110] S.ws = false from h1.out] at C1
    simp only [Bool.false_eq_true, if_false, if_true] at C1
    replace C1 := Lib.hid C1
    go_wp2_with fail
    refine (C1.out).mono ?_; rintro e u1 ⟨rfl, R, T⟩
    have K1 := Lib.hid (And.intro R T)
    clear R T C1
    have C2 := take_any K1.out.1 [45] ks_of
    rw [show hdW [45] S.ws = false from h2.out] at C2
    simp only [Bool.false_eq_true, if_false, if_true] at C2
    replace C2 := Lib.hid C2
    go_wp2_with fail
    refine (C2.out).mono ?_; rintro e u2 ⟨rfl, R, T⟩
    have K2 := Lib.hid (And.intro R (K1.out.2.trans T))
    clear R T C2
    have C3 := take_any K2.out.1 [40] ks_of
    rw [show hdW [40] S.ws = false from h3.out] at C3
    simp only [Bool.false_eq_true, if_false, if_true] at C3
    replace C3 := Lib.hid C3
    go_wp2_with fail
    refine (C3.out).mono ?_; rintro e u3 ⟨rfl, R, T⟩
    have K3 := Lib.hid (And.intro R (K2.out.2.trans T))
    clear R T C3
    have CX := Lib.hid (nx_any K3.out.1)
    rw [hnx.out] at CX
    go_wp2_with fail
    refine (CX.out).mono ?_; rintro e u4 ⟨rfl, b4⟩
    have K4 := Lib.hid (And.intro (K3.out.1.ofr b4) (K3.out.2.trans (Stp.of b4)))
    clear b4 CX
    unfold aggP
    simp only
    have CN := Lib.hid (node_any 1 u4)
    go_wp2_with fail
    refine (CN.out).mono ?_; rintro e w1 ⟨rfl, b1⟩
    unfold ndA ndC nd1
    simp only
    obtain ⟨wa2, wl2, ea2, el2, HZ2, L2⟩ := loc_st (K4.out.1.ofr b1) (K4.out.2.trans (Stp.of b1)) HH.out.hB (.int .i64 1) (.int .i64 (-1)) (.int .i64 (-1)) (.int .i64 (-1)) (.string (strB [])) (.int .u32 0) (.slice none 0 0)
    have z0 := HZ2.out.cell 0
    have y0 := HZ2.out.frozen 0
    have z1 := HZ2.out.cell 1
    have y1 := HZ2.out.frozen 1
    have z2 := HZ2.out.cell 2
    have y2 := HZ2.out.frozen 2
    have z3 := HZ2.out.cell 3
    have y3 := HZ2.out.frozen 3
    have z4 := HZ2.out.cell 4
    have y4 := HZ2.out.frozen 4
    have z5 := HZ2.out.cell 5
    have y5 := HZ2.out.frozen 5
    have z6 := HZ2.out.cell 6
    have y6 := HZ2.out.frozen 6
    simp only [ndZ, List.getElem?_cons_zero, List.getElem?_cons_succ] at z0 z1 z2 z3 z4 z5 z6
    have CK := kind_any L2.out.r 48 (by decide)
    rw [h48.out] at CK
    simp only [Bool.false_eq_true, if_false, if_true, hnx.out] at CK
    replace CK := Lib.hid CK
    clear CN b1
    go_wp2_with fail
    refine (CK.out).mono ?_; rintro e w3 ⟨rfl, o3⟩
    have FIN : Hid (RdP B g fl S w (.error (r.length + 1)) 1 (pan S.k) w3) := Lib.hid ⟨by rw [EZ.out], L2.out.s.fr.trans o3 L2.out.s.nw⟩
    clear o3 CK L2 HZ2
    unfold pan at FIN ⊢
    go_wp2
    first | exact FIN.out | exact ⟨rfl, FIN.out⟩
/-- all expressions, of whatever length -/
theorem exprs_any (B g : Nat) : ∀ n, CalV B g n ∧ CalE B g n := by
  intro n
  induction n with
  | zero => exact ⟨fun S w h p => absurd p.n (Nat.not_lt_zero _), fun S w h p => absurd p.n (Nat.not_lt_zero _)⟩
  | succ n ih =>
    have hv := value_any (Lib.hid ih.2) (Lib.hid ih.1)
    exact ⟨hv, expr_any (Lib.hid hv)⟩
end Go.Proofs.YtkacplcilkogpaaGreatDoor.Mm
