/- The reader's statements, but for their blocks. -/
import Derived.Test.YtkacplcilkogpaaGreatDoorQPrC
namespace Go.Proofs.YtkacplcilkogpaaGreatDoor.Mm
open Go.ChangeShapes Go.WideShapes Go.ChangeAt Go.RowKit
set_option linter.unusedVariables false
set_option linter.unusedSimpArgs false
set_option maxRecDepth 10000

theorem exW {B g n : Nat} {S : Sr} {w : World} (h : RdAt B g w S) (p : Pre n 2 S) : Calls Tryz.prog 57 #[.pointer (some ⟨g, 0, none⟩), .func (.func 90) #[.pointer (some ⟨g, 0, none⟩)] #[]] w (RdP B g fl S w (grE .E S.ws) 0) :=
  within_E (F := fl) h (p.deep h (by omega)) (grE .E S.ws) (fun x s d e => dE1 e) (fun w1 r1 => (exprs_any B g n).2 S.dn w1 r1 (p.dn 3 (by omega)))
/-- of parts that are read one behind the other: their nodes, how many, how deep, and how many words more -/
structure Acc (S : Sr) (w : World) (Nl : List NdR) (c dd m : Nat) (S1 : Sr) : Prop where
  deep : S1.deep = S.deep
  great : S1.great = (S.great || decide (100 < S.deep + dd))
  N : S1.N.map Prod.fst = S.N.map Prod.fst ++ Nl
  cnt : S1.N.length = S.N.length + c
  gb : S1.N.length + S.k + m ≤ S.N.length + S1.k
  W : S1.W = S.W
  k : S.k + m ≤ S1.k
  ls : LsN w S S1
theorem Acc.start {S : Sr} {w : World} (h0 : S.deep ≤ 100 ∨ S.great = true) : Acc S w [] 0 0 0 S := by
  refine ⟨rfl, ?_, by simp, by simp, by omega, rfl, by omega, .refl _ _⟩
  rcases h0 with h0 | h0
  · simp [show ¬ 100 < S.deep by omega]
  · rw [h0]; rfl
theorem Acc.up {S S1 : Sr} {w : World} {Nl : List NdR} {c dd m : Nat} (h : Acc S w Nl c dd m S1) : Acc S w Nl c dd (m + 1) S1.up :=
  ⟨h.deep, h.great, h.N, h.cnt, by have := h.gb; show S1.N.length + S.k + (m + 1) ≤ S.N.length + (S1.k + 1); omega, h.W, by have := h.k; show S.k + (m + 1) ≤ S1.k + 1; omega, h.ls⟩
theorem Acc.part {B g : Nat} {F : Nat → Nd → List NdR} {S S1 S2 : Sr} {Nl : List NdR} {c dd m d : Nat} {x : Nd} {w w1 w2 : World} (h : Acc S w Nl c dd m S1) (r : RdSt B g F S1 w1 x d S2 w2) (hs : w.heap.size ≤ w1.heap.size) : Acc S w (Nl ++ F S1.N.length x) (c + Mm.cnt x) (max dd d) m S2 := by
  refine ⟨r.deep.trans h.deep, ?_, by rw [r.N, h.N, List.append_assoc], by rw [r.cnt, h.cnt]; omega, by have := h.gb; have := r.gb; omega, r.s.W.trans h.W, by have := h.k; have := r.mono; omega, h.ls.trans r.ls hs⟩
  rw [r.great, h.great, h.deep]
  by_cases a : 100 < S.deep + dd <;> by_cases b : 100 < S.deep + d <;> simp [a, b] <;> omega
/-- a part that has a word more than nodes -/
theorem Acc.part1 {B g : Nat} {F : Nat → Nd → List NdR} {S S1 S2 : Sr} {Nl : List NdR} {c dd m d : Nat} {x : Nd} {w w1 w2 : World} (h : Acc S w Nl c dd m S1) (r : RdSt B g F S1 w1 x d S2 w2) (hs : w.heap.size ≤ w1.heap.size) (hb : S2.N.length + S1.k + 1 ≤ S1.N.length + S2.k) : Acc S w (Nl ++ F S1.N.length x) (c + Mm.cnt x) (max dd d) (m + 1) S2 := by
  have a := h.part r hs
  exact ⟨a.deep, a.great, a.N, a.cnt, by have := h.gb; omega, a.W, by have := h.k; have := r.cnt; omega, a.ls⟩
theorem Acc.fin {B g : Nat} {F' : Nat → Nd → List NdR} {S S1 : Sr} {Nl : List NdR} {c dd m d' : Nat} {y : Nd} {w w2 : World} {nd : NdR} {L nv : Value} (h : Acc S w Nl c dd m S1) (hm : 1 ≤ m) (R : RdAt B g w2 (S1.app nd L nv)) (T : Stp g S (S1.app nd L nv) w w2) (e1 : F' S.N.length y = Nl ++ [nd]) (e2 : Mm.cnt y = c + 1) (hd : d' = dd) (hL : NewB w L := by exact newB_nil _) : RdSt B g F' S w y d' (S1.app nd L nv) w2 := by
  subst hd
  refine ⟨R, T, h.deep, h.great, ?_, ?_, ?_, h.ls.app hL⟩
  · show (S1.N ++ [_]).map Prod.fst = _
    rw [List.map_append, h.N, e1]; simp
  · show (S1.N ++ [_]).length = _
    rw [List.length_append, h.cnt, e2]; simp; omega
  · show (S1.N ++ [_]).length + _ ≤ _ + S1.k
    have := h.gb
    simp; omega
theorem Acc.pre {S S1 : Sr} {w : World} {Nl : List NdR} {c dd m n a b : Nat} (h : Acc S w Nl c dd m S1) (p : Pre n a S) (hab : a ≤ b + 2 * m) : Pre n b S1 :=
  ⟨by have := p.n; rw [ws_len] at this ⊢; rw [h.W]; have := h.k; omega, by have := p.N; have := h.gb; omega, by rw [h.deep]; have := p.d; have := h.k; omega⟩
theorem Acc.gr {S S1 : Sr} {w : World} {Nl : List NdR} {c dd m : Nat} (h : Acc S w Nl c dd m S1) (h0 : S.deep ≤ 100 ∨ S.great = true) : S1.deep ≤ 100 ∨ S1.great = true := by
  rw [h.deep, h.great]
  rcases h0 with h0 | h0
  · exact .inl h0
  · right; rw [h0]; rfl
theorem Acc.rt {S S1 : Sr} {w : World} {Nl : List NdR} {c dd m : Nat} {y : Nd} (h : Acc S w Nl c dd m S1) (e2 : Mm.cnt y = c + 1) : (S1.N.length : Int) = Mm.rt S.N.length y := by rw [rt_z, h.cnt, e2]; omega
theorem Acc.few {B g : Nat} {w w' : World} {S S1 : Sr} {Nl : List NdR} {c dd m n a : Nat} (h : Acc S w Nl c dd m S1) (p : Pre n a S) (r : RdAt B g w' S1) : S1.N.length < 5000 := by have := p.N; have := h.gb; have := few_of r; omega
/-- a block: a word more than nodes -/
def RdB (B g : Nat) (S : Sr) (w : World) (r : Rr) (e : Ending) (w' : World) : Prop :=
  match r with
  | .ok (x, s, d) => ∃ S', e = .returned (.int .i64 (rt S.N.length x)) ∧ RdSt B g flB S w x d S' w' ∧ S'.ws = s ∧ S'.N.length + S.k + 1 ≤ S.N.length + S'.k
  | .error k => e = pan (S.W.length - k) ∧ Ofr g S.nv.ownBlock w w'
theorem rdB_er {B g : Nat} {S S1 : Sr} {w w1 w' : World} {k c : Nat} {F : Nat → Nd → List NdR} {e : Ending} (s : Stp g S S1 w w1) (he : RdB B g S1 w1 (.error k) e w') : RdP B g F S w (.error k) c e w' := ⟨by rw [he.1, s.W], s.fr.trans he.2 s.nw⟩
def CalB (B g n : Nat) : Prop := ∀ (S : Sr) (w : World), RdAt B g w S → Pre n 3 S → (S.deep ≤ 100 ∨ S.great = true) → Calls Tryz.prog 91 #[.pointer (some ⟨g, 0, none⟩)] w (RdB B g S w (grE .B S.ws))
theorem bnd_must (r : Rr) (t : Bs) (k : Nd → List Pc → Nat → Rr) : (bnd r fun a s d => must t s fun s => k a s d) = bnd (bnd r fun a s d => must t s fun s => .ok (a, s, d)) k := by
  cases r with
  | error e => rfl
  | ok y =>
    obtain ⟨x, s, d⟩ := y
    show must t s _ = bnd (must t s _) k
    cases hm : hdW t s
    · rw [must_no hm, must_no hm]; rfl
    · rw [must_yes hm, must_yes hm]; rfl
theorem must_bnd (ws : List Pc) (t u : Bs) (k : Nd → List Pc → Nat → Rr) : (must t ws fun s => bnd (grE .E s) fun b s2 d2 => must u s2 fun s3 => k b s3 d2) = bnd (must t ws fun s => bnd (grE .E s) fun b s2 d2 => must u s2 fun s3 => .ok (b, s3, d2)) k := by
  cases hm : hdW t ws
  · rw [must_no hm, must_no hm]; rfl
  · rw [must_yes hm, must_yes hm, bnd_must]
set_option maxHeartbeats 16000000 in
theorem tell_out {B g n : Nat} {S : Sr} {w : World} (h : RdAt B g w S) (p : Pre n 1 S) (hgr : S.deep ≤ 100 ∨ S.great = true) : Calls Tryz.prog 73 #[.pointer (some ⟨g, 0, none⟩), .int .i64 11] w (RdP B g fl S w (bnd (grE .E S.ws) fun a s d => must [59] s fun s => .ok (.out a, s, d + 1)) 1) := by
  have hmf : ∀ (fn : Fn) (first cap : Array Value) (w : World), (Instr.makeFunc fn first cap).run Tryz.prog w = .ok (.func fn first cap) w := fun _ _ _ _ => rfl
  have HH := Lib.hid h
  have HG := Lib.hid hgr
  have HP := Lib.hid p
  obtain ⟨s0, hs0⟩ : ∃ s0, Hid (S.ws = s0) := ⟨_, Lib.hid rfl⟩
  rw [hs0.out]
  clear h p hgr
  cases r0 : grE .E s0 with
  | error e0 =>
    rw [bnd_er rfl]
    go_enter Tryz.func73, Tryz.ntmps73
    have CN := Lib.hid (node_any 11 w)
    go_wp2_with fail
    refine (CN.out).mono ?_; rintro e w1 ⟨rfl, b1⟩
    unfold ndA ndC nd1
    simp only
    obtain ⟨wa0, wl0, ea0, el0, HZ0, L0⟩ := loc_st (HH.out.ofr b1) ((Stp.refl g S w).trans (Stp.of b1)) HH.out.hB (.int .i64 11) (.int .i64 (-1)) (.int .i64 (-1)) (.int .i64 (-1)) (.string (strB [])) (.int .u32 0) (.slice none 0 0)
    have z0 := HZ0.out.cell 0
    have y0 := HZ0.out.frozen 0
    have z1 := HZ0.out.cell 1
    have y1 := HZ0.out.frozen 1
    have z2 := HZ0.out.cell 2
    have y2 := HZ0.out.frozen 2
    have z3 := HZ0.out.cell 3
    have y3 := HZ0.out.frozen 3
    have z4 := HZ0.out.cell 4
    have y4 := HZ0.out.frozen 4
    have z5 := HZ0.out.cell 5
    have y5 := HZ0.out.frozen 5
    have z6 := HZ0.out.cell 6
    have y6 := HZ0.out.frozen 6
    simp only [ndZ, List.getElem?_cons_zero, List.getElem?_cons_succ] at z0 z1 z2 z3 z4 z5 z6
    clear CN b1
    have A0 := Lib.hid (Acc.start (w := w) HG.out)
    have W0 : Hid (S.ws = s0) := hs0
    have C0 := exW L0.out.r (A0.out.pre HP.out (b := 2) (by omega))
    rw [W0.out, r0] at C0
    replace C0 := Lib.hid C0
    go_wp2_with fail
    refine (C0.out).mono ?_; rintro e we he
    have FIN : Hid (RdP B g fl S w (.error e0) 1 e we) := Lib.hid (rd_er L0.out.s he)
    obtain ⟨rfl, o3⟩ := he
    clear o3 C0
    unfold pan at FIN ⊢
    go_wp2
    first | exact FIN.out | exact ⟨rfl, FIN.out⟩
  | ok y0 =>
    obtain ⟨x0, s1, d0⟩ := y0
    rw [bnd_is rfl]
    cases r1 : hdW [59] s1 with
    | false =>
      rw [must_no r1]
      go_enter Tryz.func73, Tryz.ntmps73
      have CN := Lib.hid (node_any 11 w)
      go_wp2_with fail
      refine (CN.out).mono ?_; rintro e w1 ⟨rfl, b1⟩
      unfold ndA ndC nd1
      simp only
      obtain ⟨wa0, wl0, ea0, el0, HZ0, L0⟩ := loc_st (HH.out.ofr b1) ((Stp.refl g S w).trans (Stp.of b1)) HH.out.hB (.int .i64 11) (.int .i64 (-1)) (.int .i64 (-1)) (.int .i64 (-1)) (.string (strB [])) (.int .u32 0) (.slice none 0 0)
      have z0 := HZ0.out.cell 0
      have y0 := HZ0.out.frozen 0
      have z1 := HZ0.out.cell 1
      have y1 := HZ0.out.frozen 1
      have z2 := HZ0.out.cell 2
      have y2 := HZ0.out.frozen 2
      have z3 := HZ0.out.cell 3
      have y3 := HZ0.out.frozen 3
      have z4 := HZ0.out.cell 4
      have y4 := HZ0.out.frozen 4
      have z5 := HZ0.out.cell 5
      have y5 := HZ0.out.frozen 5
      have z6 := HZ0.out.cell 6
      have y6 := HZ0.out.frozen 6
      simp only [ndZ, List.getElem?_cons_zero, List.getElem?_cons_succ] at z0 z1 z2 z3 z4 z5 z6
      clear CN b1
      have A0 := Lib.hid (Acc.start (w := w) HG.out)
      have W0 : Hid (S.ws = s0) := hs0
      have C0 := exW L0.out.r (A0.out.pre HP.out (b := 2) (by omega))
      rw [W0.out, r0] at C0
      replace C0 := Lib.hid C0
      go_wp2_with fail
      refine (C0.out).mono ?_; rintro e we0 ⟨S1, rfl, R0, hs0⟩
      have M0 := Lib.hid (L0.out.call R0.r R0.s)
      have A1 := Lib.hid (A0.out.part R0 L0.out.s.fr.size)
      have W1 := Lib.hid hs0
      obtain ⟨z0, hz0⟩ : ∃ z, Hid (rt S.N.length x0 = z) := ⟨_, Lib.hid rfl⟩
      rw [hz0.out]
      clear R0 C0
      obtain ⟨ws_L1, es_L1, L1⟩ := M0.out.set 1 (.int .i64 z0)
      simp only [List.set_cons_zero, List.set_cons_succ] at L1
      have m_L1 := M0.out.h.cell 1
      have p_L1 := M0.out.h.frozen 1
      simp only [List.getElem?_cons_zero, List.getElem?_cons_succ] at m_L1
      have C1 := must_any L1.out.r [59] ks_of
      rw [W1.out, r1] at C1
      simp only [Bool.false_eq_true, if_false, if_true] at C1
      replace C1 := Lib.hid C1
      have pa := Lib.hid (pan_at L1.out.r)
      rw [W1.out] at pa
      go_wp2_with fail
      refine (C1.out).mono ?_; rintro e we he
      have FIN : Hid (RdP B g fl S w (.error s1.length) 1 e we) := Lib.hid (rd_er L1.out.s (by rw [← pa.out]; exact he))
      obtain ⟨rfl, o3⟩ := he
      clear o3 C1
      unfold pan at FIN ⊢
      go_wp2
      first | exact FIN.out | exact ⟨rfl, FIN.out⟩
    | true =>
      rw [must_yes r1]
      obtain ⟨s2, hq2⟩ : ∃ s', s1.tail = s' := ⟨_, rfl⟩
      rw [hq2]
      go_enter Tryz.func73, Tryz.ntmps73
      have CN := Lib.hid (node_any 11 w)
      go_wp2_with fail
      refine (CN.out).mono ?_; rintro e w1 ⟨rfl, b1⟩
      unfold ndA ndC nd1
      simp only
      obtain ⟨wa0, wl0, ea0, el0, HZ0, L0⟩ := loc_st (HH.out.ofr b1) ((Stp.refl g S w).trans (Stp.of b1)) HH.out.hB (.int .i64 11) (.int .i64 (-1)) (.int .i64 (-1)) (.int .i64 (-1)) (.string (strB [])) (.int .u32 0) (.slice none 0 0)
      have z0 := HZ0.out.cell 0
      have y0 := HZ0.out.frozen 0
      have z1 := HZ0.out.cell 1
      have y1 := HZ0.out.frozen 1
      have z2 := HZ0.out.cell 2
      have y2 := HZ0.out.frozen 2
      have z3 := HZ0.out.cell 3
      have y3 := HZ0.out.frozen 3
      have z4 := HZ0.out.cell 4
      have y4 := HZ0.out.frozen 4
      have z5 := HZ0.out.cell 5
      have y5 := HZ0.out.frozen 5
      have z6 := HZ0.out.cell 6
      have y6 := HZ0.out.frozen 6
      simp only [ndZ, List.getElem?_cons_zero, List.getElem?_cons_succ] at z0 z1 z2 z3 z4 z5 z6
      clear CN b1
      have A0 := Lib.hid (Acc.start (w := w) HG.out)
      have W0 : Hid (S.ws = s0) := hs0
      have C0 := exW L0.out.r (A0.out.pre HP.out (b := 2) (by omega))
      rw [W0.out, r0] at C0
      replace C0 := Lib.hid C0
      go_wp2_with fail
      refine (C0.out).mono ?_; rintro e we0 ⟨S1, rfl, R0, hs0⟩
      have M0 := Lib.hid (L0.out.call R0.r R0.s)
      have A1 := Lib.hid (A0.out.part R0 L0.out.s.fr.size)
      have W1 := Lib.hid hs0
      obtain ⟨z0, hz0⟩ : ∃ z, Hid (rt S.N.length x0 = z) := ⟨_, Lib.hid rfl⟩
      rw [hz0.out]
      clear R0 C0
      obtain ⟨ws_L1, es_L1, L1⟩ := M0.out.set 1 (.int .i64 z0)
      simp only [List.set_cons_zero, List.set_cons_succ] at L1
      have m_L1 := M0.out.h.cell 1
      have p_L1 := M0.out.h.frozen 1
      simp only [List.getElem?_cons_zero, List.getElem?_cons_succ] at m_L1
      have C1 := must_any L1.out.r [59] ks_of
      rw [W1.out, r1] at C1
      simp only [Bool.false_eq_true, if_false, if_true] at C1
      replace C1 := Lib.hid C1
      go_wp2_with fail
      refine (C1.out).mono ?_; rintro e we1 ⟨rfl, R1, T1⟩
      have M1 := Lib.hid (L1.out.call R1 T1)
      have A2 := Lib.hid (A1.out.up)
      have W2 := Lib.hid (up_ws L1.out.r.le (by rw [W1.out]; exact r1))
      rw [W1.out, hq2] at W2
      clear R1 T1 C1
      have L2 := M1
      have n0 := L2.out.h.cell 0
      have n1 := L2.out.h.cell 1
      have n2 := L2.out.h.cell 2
      have n3 := L2.out.h.cell 3
      have n4 := L2.out.h.cell 4
      have n5 := L2.out.h.cell 5
      have n6 := L2.out.h.cell 6
      simp only [List.getElem?_cons_zero, List.getElem?_cons_succ] at n0 n1 n2 n3 n4 n5 n6
      have CA := Lib.hid (add_any L2.out.r ⟨11, z0, -1, -1, [], 0, []⟩ (.slice none 0 0) (ls_nil _ _ _ _ _ _ _ _) (A2.out.few HP.out L2.out.r))
      simp only [ndA, ndC, AddP] at CA
      go_wp2_with fail
      refine (CA.out).mono ?_; rintro e wz ⟨nv, rfl, RZ, SZ⟩
      have FIN := Lib.hid (Acc.fin (F' := fl) (y := .out x0) (d' := d0) A2.out (by omega) RZ (L2.out.s.trans SZ) (by simp only [fl, flB, hz0.out, List.nil_append, List.append_assoc]) (by simp only [Mm.cnt]; omega) (by omega))
      have hv := Lib.hid (Acc.rt (y := .out x0) A2.out (by simp only [Mm.cnt]; omega))
      clear RZ SZ CA
      go_wp2
      go_ret
      exact ⟨_, by rw [← hv.out]; rfl, FIN.out, W2.out⟩
set_option maxHeartbeats 16000000 in
theorem tell_exit {B g n : Nat} {S : Sr} {w : World} (h : RdAt B g w S) (p : Pre n 1 S) (hgr : S.deep ≤ 100 ∨ S.great = true) : Calls Tryz.prog 73 #[.pointer (some ⟨g, 0, none⟩), .int .i64 12] w (RdP B g fl S w (bnd (grE .E S.ws) fun a s d => must [59] s fun s => .ok (.exi a, s, d + 1)) 1) := by
  have hmf : ∀ (fn : Fn) (first cap : Array Value) (w : World), (Instr.makeFunc fn first cap).run Tryz.prog w = .ok (.func fn first cap) w := fun _ _ _ _ => rfl
  have HH := Lib.hid h
  have HG := Lib.hid hgr
  have HP := Lib.hid p
  obtain ⟨s0, hs0⟩ : ∃ s0, Hid (S.ws = s0) := ⟨_, Lib.hid rfl⟩
  rw [hs0.out]
  clear h p hgr
  cases r0 : grE .E s0 with
  | error e0 =>
    rw [bnd_er rfl]
    go_enter Tryz.func73, Tryz.ntmps73
    have CN := Lib.hid (node_any 12 w)
    go_wp2_with fail
    refine (CN.out).mono ?_; rintro e w1 ⟨rfl, b1⟩
    unfold ndA ndC nd1
    simp only
    obtain ⟨wa0, wl0, ea0, el0, HZ0, L0⟩ := loc_st (HH.out.ofr b1) ((Stp.refl g S w).trans (Stp.of b1)) HH.out.hB (.int .i64 12) (.int .i64 (-1)) (.int .i64 (-1)) (.int .i64 (-1)) (.string (strB [])) (.int .u32 0) (.slice none 0 0)
    have z0 := HZ0.out.cell 0
    have y0 := HZ0.out.frozen 0
    have z1 := HZ0.out.cell 1
    have y1 := HZ0.out.frozen 1
    have z2 := HZ0.out.cell 2
    have y2 := HZ0.out.frozen 2
    have z3 := HZ0.out.cell 3
    have y3 := HZ0.out.frozen 3
    have z4 := HZ0.out.cell 4
    have y4 := HZ0.out.frozen 4
    have z5 := HZ0.out.cell 5
    have y5 := HZ0.out.frozen 5
    have z6 := HZ0.out.cell 6
    have y6 := HZ0.out.frozen 6
    simp only [ndZ, List.getElem?_cons_zero, List.getElem?_cons_succ] at z0 z1 z2 z3 z4 z5 z6
    clear CN b1
    have A0 := Lib.hid (Acc.start (w := w) HG.out)
    have W0 : Hid (S.ws = s0) := hs0
    have C0 := exW L0.out.r (A0.out.pre HP.out (b := 2) (by omega))
    rw [W0.out, r0] at C0
    replace C0 := Lib.hid C0
    go_wp2_with fail
    refine (C0.out).mono ?_; rintro e we he
    have FIN : Hid (RdP B g fl S w (.error e0) 1 e we) := Lib.hid (rd_er L0.out.s he)
    obtain ⟨rfl, o3⟩ := he
    clear o3 C0
    unfold pan at FIN ⊢
    go_wp2
    first | exact FIN.out | exact ⟨rfl, FIN.out⟩
  | ok y0 =>
    obtain ⟨x0, s1, d0⟩ := y0
    rw [bnd_is rfl]
    cases r1 : hdW [59] s1 with
    | false =>
      rw [must_no r1]
      go_enter Tryz.func73, Tryz.ntmps73
      have CN := Lib.hid (node_any 12 w)
      go_wp2_with fail
      refine (CN.out).mono ?_; rintro e w1 ⟨rfl, b1⟩
      unfold ndA ndC nd1
      simp only
      obtain ⟨wa0, wl0, ea0, el0, HZ0, L0⟩ := loc_st (HH.out.ofr b1) ((Stp.refl g S w).trans (Stp.of b1)) HH.out.hB (.int .i64 12) (.int .i64 (-1)) (.int .i64 (-1)) (.int .i64 (-1)) (.string (strB [])) (.int .u32 0) (.slice none 0 0)
      have z0 := HZ0.out.cell 0
      have y0 := HZ0.out.frozen 0
      have z1 := HZ0.out.cell 1
      have y1 := HZ0.out.frozen 1
      have z2 := HZ0.out.cell 2
      have y2 := HZ0.out.frozen 2
      have z3 := HZ0.out.cell 3
      have y3 := HZ0.out.frozen 3
      have z4 := HZ0.out.cell 4
      have y4 := HZ0.out.frozen 4
      have z5 := HZ0.out.cell 5
      have y5 := HZ0.out.frozen 5
      have z6 := HZ0.out.cell 6
      have y6 := HZ0.out.frozen 6
      simp only [ndZ, List.getElem?_cons_zero, List.getElem?_cons_succ] at z0 z1 z2 z3 z4 z5 z6
      clear CN b1
      have A0 := Lib.hid (Acc.start (w := w) HG.out)
      have W0 : Hid (S.ws = s0) := hs0
      have C0 := exW L0.out.r (A0.out.pre HP.out (b := 2) (by omega))
      rw [W0.out, r0] at C0
      replace C0 := Lib.hid C0
      go_wp2_with fail
      refine (C0.out).mono ?_; rintro e we0 ⟨S1, rfl, R0, hs0⟩
      have M0 := Lib.hid (L0.out.call R0.r R0.s)
      have A1 := Lib.hid (A0.out.part R0 L0.out.s.fr.size)
      have W1 := Lib.hid hs0
      obtain ⟨z0, hz0⟩ : ∃ z, Hid (rt S.N.length x0 = z) := ⟨_, Lib.hid rfl⟩
      rw [hz0.out]
      clear R0 C0
      obtain ⟨ws_L1, es_L1, L1⟩ := M0.out.set 1 (.int .i64 z0)
      simp only [List.set_cons_zero, List.set_cons_succ] at L1
      have m_L1 := M0.out.h.cell 1
      have p_L1 := M0.out.h.frozen 1
      simp only [List.getElem?_cons_zero, List.getElem?_cons_succ] at m_L1
      have C1 := must_any L1.out.r [59] ks_of
      rw [W1.out, r1] at C1
      simp only [Bool.false_eq_true, if_false, if_true] at C1
      replace C1 := Lib.hid C1
      have pa := Lib.hid (pan_at L1.out.r)
      rw [W1.out] at pa
      go_wp2_with fail
      refine (C1.out).mono ?_; rintro e we he
      have FIN : Hid (RdP B g fl S w (.error s1.length) 1 e we) := Lib.hid (rd_er L1.out.s (by rw [← pa.out]; exact he))
      obtain ⟨rfl, o3⟩ := he
      clear o3 C1
      unfold pan at FIN ⊢
      go_wp2
      first | exact FIN.out | exact ⟨rfl, FIN.out⟩
    | true =>
      rw [must_yes r1]
      obtain ⟨s2, hq2⟩ : ∃ s', s1.tail = s' := ⟨_, rfl⟩
      rw [hq2]
      go_enter Tryz.func73, Tryz.ntmps73
      have CN := Lib.hid (node_any 12 w)
      go_wp2_with fail
      refine (CN.out).mono ?_; rintro e w1 ⟨rfl, b1⟩
      unfold ndA ndC nd1
      simp only
      obtain ⟨wa0, wl0, ea0, el0, HZ0, L0⟩ := loc_st (HH.out.ofr b1) ((Stp.refl g S w).trans (Stp.of b1)) HH.out.hB (.int .i64 12) (.int .i64 (-1)) (.int .i64 (-1)) (.int .i64 (-1)) (.string (strB [])) (.int .u32 0) (.slice none 0 0)
      have z0 := HZ0.out.cell 0
      have y0 := HZ0.out.frozen 0
      have z1 := HZ0.out.cell 1
      have y1 := HZ0.out.frozen 1
      have z2 := HZ0.out.cell 2
      have y2 := HZ0.out.frozen 2
      have z3 := HZ0.out.cell 3
      have y3 := HZ0.out.frozen 3
      have z4 := HZ0.out.cell 4
      have y4 := HZ0.out.frozen 4
      have z5 := HZ0.out.cell 5
      have y5 := HZ0.out.frozen 5
      have z6 := HZ0.out.cell 6
      have y6 := HZ0.out.frozen 6
      simp only [ndZ, List.getElem?_cons_zero, List.getElem?_cons_succ] at z0 z1 z2 z3 z4 z5 z6
      clear CN b1
      have A0 := Lib.hid (Acc.start (w := w) HG.out)
      have W0 : Hid (S.ws = s0) := hs0
      have C0 := exW L0.out.r (A0.out.pre HP.out (b := 2) (by omega))
      rw [W0.out, r0] at C0
      replace C0 := Lib.hid C0
      go_wp2_with fail
      refine (C0.out).mono ?_; rintro e we0 ⟨S1, rfl, R0, hs0⟩
      have M0 := Lib.hid (L0.out.call R0.r R0.s)
      have A1 := Lib.hid (A0.out.part R0 L0.out.s.fr.size)
      have W1 := Lib.hid hs0
      obtain ⟨z0, hz0⟩ : ∃ z, Hid (rt S.N.length x0 = z) := ⟨_, Lib.hid rfl⟩
      rw [hz0.out]
      clear R0 C0
      obtain ⟨ws_L1, es_L1, L1⟩ := M0.out.set 1 (.int .i64 z0)
      simp only [List.set_cons_zero, List.set_cons_succ] at L1
      have m_L1 := M0.out.h.cell 1
      have p_L1 := M0.out.h.frozen 1
      simp only [List.getElem?_cons_zero, List.getElem?_cons_succ] at m_L1
      have C1 := must_any L1.out.r [59] ks_of
      rw [W1.out, r1] at C1
      simp only [Bool.false_eq_true, if_false, if_true] at C1
      replace C1 := Lib.hid C1
      go_wp2_with fail
      refine (C1.out).mono ?_; rintro e we1 ⟨rfl, R1, T1⟩
      have M1 := Lib.hid (L1.out.call R1 T1)
      have A2 := Lib.hid (A1.out.up)
      have W2 := Lib.hid (up_ws L1.out.r.le (by rw [W1.out]; exact r1))
      rw [W1.out, hq2] at W2
      clear R1 T1 C1
      have L2 := M1
      have n0 := L2.out.h.cell 0
      have n1 := L2.out.h.cell 1
      have n2 := L2.out.h.cell 2
      have n3 := L2.out.h.cell 3
      have n4 := L2.out.h.cell 4
      have n5 := L2.out.h.cell 5
      have n6 := L2.out.h.cell 6
      simp only [List.getElem?_cons_zero, List.getElem?_cons_succ] at n0 n1 n2 n3 n4 n5 n6
      have CA := Lib.hid (add_any L2.out.r ⟨12, z0, -1, -1, [], 0, []⟩ (.slice none 0 0) (ls_nil _ _ _ _ _ _ _ _) (A2.out.few HP.out L2.out.r))
      simp only [ndA, ndC, AddP] at CA
      go_wp2_with fail
      refine (CA.out).mono ?_; rintro e wz ⟨nv, rfl, RZ, SZ⟩
      have FIN := Lib.hid (Acc.fin (F' := fl) (y := .exi x0) (d' := d0) A2.out (by omega) RZ (L2.out.s.trans SZ) (by simp only [fl, flB, hz0.out, List.nil_append, List.append_assoc]) (by simp only [Mm.cnt]; omega) (by omega))
      have hv := Lib.hid (Acc.rt (y := .exi x0) A2.out (by simp only [Mm.cnt]; omega))
      clear RZ SZ CA
      go_wp2
      go_ret
      exact ⟨_, by rw [← hv.out]; rfl, FIN.out, W2.out⟩
set_option maxHeartbeats 16000000 in
theorem loop_any {B g n : Nat} (CB : Hid (CalB B g n)) {S : Sr} {w : World} (h : RdAt B g w S) (p : Pre n 1 S) (hgr : S.deep ≤ 100 ∨ S.great = true) : Calls Tryz.prog 72 #[.pointer (some ⟨g, 0, none⟩)] w (RdP B g fl S w (bnd (grE .E S.ws) fun a s d => bnd (grE .B s) fun b s2 d2 => .ok (.whi a b, s2, max d d2 + 1)) 1) := by
  have hmf : ∀ (fn : Fn) (first cap : Array Value) (w : World), (Instr.makeFunc fn first cap).run Tryz.prog w = .ok (.func fn first cap) w := fun _ _ _ _ => rfl
  have HH := Lib.hid h
  have HG := Lib.hid hgr
  have HP := Lib.hid p
  obtain ⟨s0, hs0⟩ : ∃ s0, Hid (S.ws = s0) := ⟨_, Lib.hid rfl⟩
  rw [hs0.out]
  clear h p hgr
  cases r0 : grE .E s0 with
  | error e0 =>
    rw [bnd_er rfl]
    go_enter Tryz.func72, Tryz.ntmps72
    have CN := Lib.hid (node_any 10 w)
    go_wp2_with fail
    refine (CN.out).mono ?_; rintro e w1 ⟨rfl, b1⟩
    unfold ndA ndC nd1
    simp only
    obtain ⟨wa0, wl0, ea0, el0, HZ0, L0⟩ := loc_st (HH.out.ofr b1) ((Stp.refl g S w).trans (Stp.of b1)) HH.out.hB (.int .i64 10) (.int .i64 (-1)) (.int .i64 (-1)) (.int .i64 (-1)) (.string (strB [])) (.int .u32 0) (.slice none 0 0)
    have z0 := HZ0.out.cell 0
    have y0 := HZ0.out.frozen 0
    have z1 := HZ0.out.cell 1
    have y1 := HZ0.out.frozen 1
    have z2 := HZ0.out.cell 2
    have y2 := HZ0.out.frozen 2
    have z3 := HZ0.out.cell 3
    have y3 := HZ0.out.frozen 3
    have z4 := HZ0.out.cell 4
    have y4 := HZ0.out.frozen 4
    have z5 := HZ0.out.cell 5
    have y5 := HZ0.out.frozen 5
    have z6 := HZ0.out.cell 6
    have y6 := HZ0.out.frozen 6
    simp only [ndZ, List.getElem?_cons_zero, List.getElem?_cons_succ] at z0 z1 z2 z3 z4 z5 z6
    clear CN b1
    have A0 := Lib.hid (Acc.start (w := w) HG.out)
    have W0 : Hid (S.ws = s0) := hs0
    have C0 := exW L0.out.r (A0.out.pre HP.out (b := 2) (by omega))
    rw [W0.out, r0] at C0
    replace C0 := Lib.hid C0
    go_wp2_with fail
    refine (C0.out).mono ?_; rintro e we he
    have FIN : Hid (RdP B g fl S w (.error e0) 1 e we) := Lib.hid (rd_er L0.out.s he)
    obtain ⟨rfl, o3⟩ := he
    clear o3 C0
    unfold pan at FIN ⊢
    go_wp2
    first | exact FIN.out | exact ⟨rfl, FIN.out⟩
  | ok y0 =>
    obtain ⟨x0, s1, d0⟩ := y0
    rw [bnd_is rfl]
    cases r1 : grE .B s1 with
    | error e1 =>
      rw [bnd_er rfl]
      go_enter Tryz.func72, Tryz.ntmps72
      have CN := Lib.hid (node_any 10 w)
      go_wp2_with fail
      refine (CN.out).mono ?_; rintro e w1 ⟨rfl, b1⟩
      unfold ndA ndC nd1
      simp only
      obtain ⟨wa0, wl0, ea0, el0, HZ0, L0⟩ := loc_st (HH.out.ofr b1) ((Stp.refl g S w).trans (Stp.of b1)) HH.out.hB (.int .i64 10) (.int .i64 (-1)) (.int .i64 (-1)) (.int .i64 (-1)) (.string (strB [])) (.int .u32 0) (.slice none 0 0)
      have z0 := HZ0.out.cell 0
      have y0 := HZ0.out.frozen 0
      have z1 := HZ0.out.cell 1
      have y1 := HZ0.out.frozen 1
      have z2 := HZ0.out.cell 2
      have y2 := HZ0.out.frozen 2
      have z3 := HZ0.out.cell 3
      have y3 := HZ0.out.frozen 3
      have z4 := HZ0.out.cell 4
      have y4 := HZ0.out.frozen 4
      have z5 := HZ0.out.cell 5
      have y5 := HZ0.out.frozen 5
      have z6 := HZ0.out.cell 6
      have y6 := HZ0.out.frozen 6
      simp only [ndZ, List.getElem?_cons_zero, List.getElem?_cons_succ] at z0 z1 z2 z3 z4 z5 z6
      clear CN b1
      have A0 := Lib.hid (Acc.start (w := w) HG.out)
      have W0 : Hid (S.ws = s0) := hs0
      have C0 := exW L0.out.r (A0.out.pre HP.out (b := 2) (by omega))
      rw [W0.out, r0] at C0
      replace C0 := Lib.hid C0
      go_wp2_with fail
      refine (C0.out).mono ?_; rintro e we0 ⟨S1, rfl, R0, hs0⟩
      have M0 := Lib.hid (L0.out.call R0.r R0.s)
      have A1 := Lib.hid (A0.out.part R0 L0.out.s.fr.size)
      have W1 := Lib.hid hs0
      obtain ⟨z0, hz0⟩ : ∃ z, Hid (rt S.N.length x0 = z) := ⟨_, Lib.hid rfl⟩
      rw [hz0.out]
      clear R0 C0
      obtain ⟨ws_L1, es_L1, L1⟩ := M0.out.set 1 (.int .i64 z0)
      simp only [List.set_cons_zero, List.set_cons_succ] at L1
      have m_L1 := M0.out.h.cell 1
      have p_L1 := M0.out.h.frozen 1
      simp only [List.getElem?_cons_zero, List.getElem?_cons_succ] at m_L1
      have C1 := CB.out _ _ L1.out.r (A1.out.pre HP.out (b := 3) (by omega)) (A1.out.gr HG.out)
      rw [W1.out, r1] at C1
      replace C1 := Lib.hid C1
      go_wp2_with fail
      refine (C1.out).mono ?_; rintro e we he
      have FIN : Hid (RdP B g fl S w (.error e1) 1 e we) := Lib.hid (rdB_er L1.out.s he)
      obtain ⟨rfl, o3⟩ := he
      clear o3 C1
      unfold pan at FIN ⊢
      go_wp2
      first | exact FIN.out | exact ⟨rfl, FIN.out⟩
    | ok y1 =>
      obtain ⟨x1, s2, d1⟩ := y1
      rw [bnd_is rfl]
      go_enter Tryz.func72, Tryz.ntmps72
      have CN := Lib.hid (node_any 10 w)
      go_wp2_with fail
      refine (CN.out).mono ?_; rintro e w1 ⟨rfl, b1⟩
      unfold ndA ndC nd1
      simp only
      obtain ⟨wa0, wl0, ea0, el0, HZ0, L0⟩ := loc_st (HH.out.ofr b1) ((Stp.refl g S w).trans (Stp.of b1)) HH.out.hB (.int .i64 10) (.int .i64 (-1)) (.int .i64 (-1)) (.int .i64 (-1)) (.string (strB [])) (.int .u32 0) (.slice none 0 0)
      have z0 := HZ0.out.cell 0
      have y0 := HZ0.out.frozen 0
      have z1 := HZ0.out.cell 1
      have y1 := HZ0.out.frozen 1
      have z2 := HZ0.out.cell 2
      have y2 := HZ0.out.frozen 2
      have z3 := HZ0.out.cell 3
      have y3 := HZ0.out.frozen 3
      have z4 := HZ0.out.cell 4
      have y4 := HZ0.out.frozen 4
      have z5 := HZ0.out.cell 5
      have y5 := HZ0.out.frozen 5
      have z6 := HZ0.out.cell 6
      have y6 := HZ0.out.frozen 6
      simp only [ndZ, List.getElem?_cons_zero, List.getElem?_cons_succ] at z0 z1 z2 z3 z4 z5 z6
      clear CN b1
      have A0 := Lib.hid (Acc.start (w := w) HG.out)
      have W0 : Hid (S.ws = s0) := hs0
      have C0 := exW L0.out.r (A0.out.pre HP.out (b := 2) (by omega))
      rw [W0.out, r0] at C0
      replace C0 := Lib.hid C0
      go_wp2_with fail
      refine (C0.out).mono ?_; rintro e we0 ⟨S1, rfl, R0, hs0⟩
      have M0 := Lib.hid (L0.out.call R0.r R0.s)
      have A1 := Lib.hid (A0.out.part R0 L0.out.s.fr.size)
      have W1 := Lib.hid hs0
      obtain ⟨z0, hz0⟩ : ∃ z, Hid (rt S.N.length x0 = z) := ⟨_, Lib.hid rfl⟩
      rw [hz0.out]
      clear R0 C0
      obtain ⟨ws_L1, es_L1, L1⟩ := M0.out.set 1 (.int .i64 z0)
      simp only [List.set_cons_zero, List.set_cons_succ] at L1
      have m_L1 := M0.out.h.cell 1
      have p_L1 := M0.out.h.frozen 1
      simp only [List.getElem?_cons_zero, List.getElem?_cons_succ] at m_L1
      have C1 := CB.out _ _ L1.out.r (A1.out.pre HP.out (b := 3) (by omega)) (A1.out.gr HG.out)
      rw [W1.out, r1] at C1
      replace C1 := Lib.hid C1
      go_wp2_with fail
      refine (C1.out).mono ?_; rintro e we1 ⟨S2, rfl, R1, hs1, hb1⟩
      have M1 := Lib.hid (L1.out.call R1.r R1.s)
      have A2 := Lib.hid (A1.out.part1 R1 L1.out.s.fr.size hb1)
      have W2 := Lib.hid hs1
      obtain ⟨z1, hz1⟩ : ∃ z, Hid (rt S1.N.length x1 = z) := ⟨_, Lib.hid rfl⟩
      rw [hz1.out]
      clear R1 C1
      obtain ⟨ws_L2, es_L2, L2⟩ := M1.out.set 2 (.int .i64 z1)
      simp only [List.set_cons_zero, List.set_cons_succ] at L2
      have m_L2 := M1.out.h.cell 2
      have p_L2 := M1.out.h.frozen 2
      simp only [List.getElem?_cons_zero, List.getElem?_cons_succ] at m_L2
      have n0 := L2.out.h.cell 0
      have n1 := L2.out.h.cell 1
      have n2 := L2.out.h.cell 2
      have n3 := L2.out.h.cell 3
      have n4 := L2.out.h.cell 4
      have n5 := L2.out.h.cell 5
      have n6 := L2.out.h.cell 6
      simp only [List.getElem?_cons_zero, List.getElem?_cons_succ] at n0 n1 n2 n3 n4 n5 n6
      have CA := Lib.hid (add_any L2.out.r ⟨10, z0, z1, -1, [], 0, []⟩ (.slice none 0 0) (ls_nil _ _ _ _ _ _ _ _) (A2.out.few HP.out L2.out.r))
      simp only [ndA, ndC, AddP] at CA
      go_wp2_with fail
      refine (CA.out).mono ?_; rintro e wz ⟨nv, rfl, RZ, SZ⟩
      have a1 : Hid (S1.N.length = S.N.length + cnt x0) := Lib.hid (by have := A1.out.cnt; simp only [Nat.zero_add] at this; first | exact this | omega)
      have hy1 : Hid (rt (S.N.length + cnt x0) x1 = z1) := Lib.hid (by rw [← a1.out]; exact hz1.out)
      have FIN := Lib.hid (Acc.fin (F' := fl) (y := .whi x0 x1) (d' := (max d0 d1)) A2.out (by omega) RZ (L2.out.s.trans SZ) (by simp only [fl, flB, hz0.out, hz1.out, List.nil_append, List.append_assoc, a1.out, hy1.out]) (by simp only [Mm.cnt]; omega) (by omega))
      have hv := Lib.hid (Acc.rt (y := .whi x0 x1) A2.out (by simp only [Mm.cnt]; omega))
      clear RZ SZ CA
      go_wp2
      go_ret
      exact ⟨_, by rw [← hv.out]; rfl, FIN.out, W2.out⟩
set_option maxHeartbeats 16000000 in
theorem branch_any {B g n : Nat} (CB : Hid (CalB B g n)) {S : Sr} {w : World} (h : RdAt B g w S) (p : Pre n 1 S) (hgr : S.deep ≤ 100 ∨ S.great = true) : Calls Tryz.prog 71 #[.pointer (some ⟨g, 0, none⟩)] w (RdP B g fl S w (bnd (grE .E S.ws) fun a s d => bnd (grE .B s) fun b s2 d2 => if hdW [101, 108, 115, 101] s2 then bnd (grE .B s2.tail) fun c s3 d3 => .ok (.ifel a b c, s3, max (max d d2) d3 + 1) else .ok (.ife a b, s2, max d d2 + 1)) 1) := by
  have hmf : ∀ (fn : Fn) (first cap : Array Value) (w : World), (Instr.makeFunc fn first cap).run Tryz.prog w = .ok (.func fn first cap) w := fun _ _ _ _ => rfl
  have HH := Lib.hid h
  have HG := Lib.hid hgr
  have HP := Lib.hid p
  obtain ⟨s0, hs0⟩ : ∃ s0, Hid (S.ws = s0) := ⟨_, Lib.hid rfl⟩
  rw [hs0.out]
  clear h p hgr
  cases r0 : grE .E s0 with
  | error e0 =>
    rw [bnd_er rfl]
    go_enter Tryz.func71, Tryz.ntmps71
    have CN := Lib.hid (node_any 9 w)
    go_wp2_with fail
    refine (CN.out).mono ?_; rintro e w1 ⟨rfl, b1⟩
    unfold ndA ndC nd1
    simp only
    obtain ⟨wa0, wl0, ea0, el0, HZ0, L0⟩ := loc_st (HH.out.ofr b1) ((Stp.refl g S w).trans (Stp.of b1)) HH.out.hB (.int .i64 9) (.int .i64 (-1)) (.int .i64 (-1)) (.int .i64 (-1)) (.string (strB [])) (.int .u32 0) (.slice none 0 0)
    have z0 := HZ0.out.cell 0
    have y0 := HZ0.out.frozen 0
    have z1 := HZ0.out.cell 1
    have y1 := HZ0.out.frozen 1
    have z2 := HZ0.out.cell 2
    have y2 := HZ0.out.frozen 2
    have z3 := HZ0.out.cell 3
    have y3 := HZ0.out.frozen 3
    have z4 := HZ0.out.cell 4
    have y4 := HZ0.out.frozen 4
    have z5 := HZ0.out.cell 5
    have y5 := HZ0.out.frozen 5
    have z6 := HZ0.out.cell 6
    have y6 := HZ0.out.frozen 6
    simp only [ndZ, List.getElem?_cons_zero, List.getElem?_cons_succ] at z0 z1 z2 z3 z4 z5 z6
    clear CN b1
    have A0 := Lib.hid (Acc.start (w := w) HG.out)
    have W0 : Hid (S.ws = s0) := hs0
    have C0 := exW L0.out.r (A0.out.pre HP.out (b := 2) (by omega))
    rw [W0.out, r0] at C0
    replace C0 := Lib.hid C0
    go_wp2_with fail
    refine (C0.out).mono ?_; rintro e we he
    have FIN : Hid (RdP B g fl S w (.error e0) 1 e we) := Lib.hid (rd_er L0.out.s he)
    obtain ⟨rfl, o3⟩ := he
    clear o3 C0
    unfold pan at FIN ⊢
    go_wp2
    first | exact FIN.out | exact ⟨rfl, FIN.out⟩
  | ok y0 =>
    obtain ⟨x0, s1, d0⟩ := y0
    rw [bnd_is rfl]
    cases r1 : grE .B s1 with
    | error e1 =>
      rw [bnd_er rfl]
      go_enter Tryz.func71, Tryz.ntmps71
      have CN := Lib.hid (node_any 9 w)
      go_wp2_with fail
      refine (CN.out).mono ?_; rintro e w1 ⟨rfl, b1⟩
      unfold ndA ndC nd1
      simp only
      obtain ⟨wa0, wl0, ea0, el0, HZ0, L0⟩ := loc_st (HH.out.ofr b1) ((Stp.refl g S w).trans (Stp.of b1)) HH.out.hB (.int .i64 9) (.int .i64 (-1)) (.int .i64 (-1)) (.int .i64 (-1)) (.string (strB [])) (.int .u32 0) (.slice none 0 0)
      have z0 := HZ0.out.cell 0
      have y0 := HZ0.out.frozen 0
      have z1 := HZ0.out.cell 1
      have y1 := HZ0.out.frozen 1
      have z2 := HZ0.out.cell 2
      have y2 := HZ0.out.frozen 2
      have z3 := HZ0.out.cell 3
      have y3 := HZ0.out.frozen 3
      have z4 := HZ0.out.cell 4
      have y4 := HZ0.out.frozen 4
      have z5 := HZ0.out.cell 5
      have y5 := HZ0.out.frozen 5
      have z6 := HZ0.out.cell 6
      have y6 := HZ0.out.frozen 6
      simp only [ndZ, List.getElem?_cons_zero, List.getElem?_cons_succ] at z0 z1 z2 z3 z4 z5 z6
      clear CN b1
      have A0 := Lib.hid (Acc.start (w := w) HG.out)
      have W0 : Hid (S.ws = s0) := hs0
      have C0 := exW L0.out.r (A0.out.pre HP.out (b := 2) (by omega))
      rw [W0.out, r0] at C0
      replace C0 := Lib.hid C0
      go_wp2_with fail
      refine (C0.out).mono ?_; rintro e we0 ⟨S1, rfl, R0, hs0⟩
      have M0 := Lib.hid (L0.out.call R0.r R0.s)
      have A1 := Lib.hid (A0.out.part R0 L0.out.s.fr.size)
      have W1 := Lib.hid hs0
      obtain ⟨z0, hz0⟩ : ∃ z, Hid (rt S.N.length x0 = z) := ⟨_, Lib.hid rfl⟩
      rw [hz0.out]
      clear R0 C0
      obtain ⟨ws_L1, es_L1, L1⟩ := M0.out.set 1 (.int .i64 z0)
      simp only [List.set_cons_zero, List.set_cons_succ] at L1
      have m_L1 := M0.out.h.cell 1
      have p_L1 := M0.out.h.frozen 1
      simp only [List.getElem?_cons_zero, List.getElem?_cons_succ] at m_L1
      have C1 := CB.out _ _ L1.out.r (A1.out.pre HP.out (b := 3) (by omega)) (A1.out.gr HG.out)
      rw [W1.out, r1] at C1
      replace C1 := Lib.hid C1
      go_wp2_with fail
      refine (C1.out).mono ?_; rintro e we he
      have FIN : Hid (RdP B g fl S w (.error e1) 1 e we) := Lib.hid (rdB_er L1.out.s he)
      obtain ⟨rfl, o3⟩ := he
      clear o3 C1
      unfold pan at FIN ⊢
      go_wp2
      first | exact FIN.out | exact ⟨rfl, FIN.out⟩
    | ok y1 =>
      obtain ⟨x1, s2, d1⟩ := y1
      rw [bnd_is rfl]
      cases r2 : hdW [101, 108, 115, 101] s2 with
      | false =>
        simp only [Bool.false_eq_true, if_false]
        go_enter Tryz.func71, Tryz.ntmps71
        have CN := Lib.hid (node_any 9 w)
        go_wp2_with fail
        refine (CN.out).mono ?_; rintro e w1 ⟨rfl, b1⟩
        unfold ndA ndC nd1
        simp only
        obtain ⟨wa0, wl0, ea0, el0, HZ0, L0⟩ := loc_st (HH.out.ofr b1) ((Stp.refl g S w).trans (Stp.of b1)) HH.out.hB (.int .i64 9) (.int .i64 (-1)) (.int .i64 (-1)) (.int .i64 (-1)) (.string (strB [])) (.int .u32 0) (.slice none 0 0)
        have z0 := HZ0.out.cell 0
        have y0 := HZ0.out.frozen 0
        have z1 := HZ0.out.cell 1
        have y1 := HZ0.out.frozen 1
        have z2 := HZ0.out.cell 2
        have y2 := HZ0.out.frozen 2
        have z3 := HZ0.out.cell 3
        have y3 := HZ0.out.frozen 3
        have z4 := HZ0.out.cell 4
        have y4 := HZ0.out.frozen 4
        have z5 := HZ0.out.cell 5
        have y5 := HZ0.out.frozen 5
        have z6 := HZ0.out.cell 6
        have y6 := HZ0.out.frozen 6
        simp only [ndZ, List.getElem?_cons_zero, List.getElem?_cons_succ] at z0 z1 z2 z3 z4 z5 z6
        clear CN b1
        have A0 := Lib.hid (Acc.start (w := w) HG.out)
        have W0 : Hid (S.ws = s0) := hs0
        have C0 := exW L0.out.r (A0.out.pre HP.out (b := 2) (by omega))
        rw [W0.out, r0] at C0
        replace C0 := Lib.hid C0
        go_wp2_with fail
        refine (C0.out).mono ?_; rintro e we0 ⟨S1, rfl, R0, hs0⟩
        have M0 := Lib.hid (L0.out.call R0.r R0.s)
        have A1 := Lib.hid (A0.out.part R0 L0.out.s.fr.size)
        have W1 := Lib.hid hs0
        obtain ⟨z0, hz0⟩ : ∃ z, Hid (rt S.N.length x0 = z) := ⟨_, Lib.hid rfl⟩
        rw [hz0.out]
        clear R0 C0
        obtain ⟨ws_L1, es_L1, L1⟩ := M0.out.set 1 (.int .i64 z0)
        simp only [List.set_cons_zero, List.set_cons_succ] at L1
        have m_L1 := M0.out.h.cell 1
        have p_L1 := M0.out.h.frozen 1
        simp only [List.getElem?_cons_zero, List.getElem?_cons_succ] at m_L1
        have C1 := CB.out _ _ L1.out.r (A1.out.pre HP.out (b := 3) (by omega)) (A1.out.gr HG.out)
        rw [W1.out, r1] at C1
        replace C1 := Lib.hid C1
        go_wp2_with fail
        refine (C1.out).mono ?_; rintro e we1 ⟨S2, rfl, R1, hs1, hb1⟩
        have M1 := Lib.hid (L1.out.call R1.r R1.s)
        have A2 := Lib.hid (A1.out.part1 R1 L1.out.s.fr.size hb1)
        have W2 := Lib.hid hs1
        obtain ⟨z1, hz1⟩ : ∃ z, Hid (rt S1.N.length x1 = z) := ⟨_, Lib.hid rfl⟩
        rw [hz1.out]
        clear R1 C1
        obtain ⟨ws_L2, es_L2, L2⟩ := M1.out.set 2 (.int .i64 z1)
        simp only [List.set_cons_zero, List.set_cons_succ] at L2
        have m_L2 := M1.out.h.cell 2
        have p_L2 := M1.out.h.frozen 2
        simp only [List.getElem?_cons_zero, List.getElem?_cons_succ] at m_L2
        have C2 := take_any L2.out.r [101, 108, 115, 101] ks_of
        rw [W2.out, r2] at C2
        simp only [Bool.false_eq_true, if_false, if_true] at C2
        replace C2 := Lib.hid C2
        go_wp2_with fail
        refine (C2.out).mono ?_; rintro e we2 ⟨rfl, R2, T2⟩
        have M2 := Lib.hid (L2.out.call R2 T2)
        have A3 := A2
        have W3 := W2
        clear R2 T2 C2
        have L3 := M2
        have n0 := L3.out.h.cell 0
        have n1 := L3.out.h.cell 1
        have n2 := L3.out.h.cell 2
        have n3 := L3.out.h.cell 3
        have n4 := L3.out.h.cell 4
        have n5 := L3.out.h.cell 5
        have n6 := L3.out.h.cell 6
        simp only [List.getElem?_cons_zero, List.getElem?_cons_succ] at n0 n1 n2 n3 n4 n5 n6
        have CA := Lib.hid (add_any L3.out.r ⟨9, z0, z1, -1, [], 0, []⟩ (.slice none 0 0) (ls_nil _ _ _ _ _ _ _ _) (A3.out.few HP.out L3.out.r))
        simp only [ndA, ndC, AddP] at CA
        go_wp2_with fail
        refine (CA.out).mono ?_; rintro e wz ⟨nv, rfl, RZ, SZ⟩
        have a1 : Hid (S1.N.length = S.N.length + cnt x0) := Lib.hid (by have := A1.out.cnt; simp only [Nat.zero_add] at this; first | exact this | omega)
        have hy1 : Hid (rt (S.N.length + cnt x0) x1 = z1) := Lib.hid (by rw [← a1.out]; exact hz1.out)
        have FIN := Lib.hid (Acc.fin (F' := fl) (y := .ife x0 x1) (d' := (max d0 d1)) A3.out (by omega) RZ (L3.out.s.trans SZ) (by simp only [fl, flB, hz0.out, hz1.out, List.nil_append, List.append_assoc, a1.out, hy1.out]) (by simp only [Mm.cnt]; omega) (by omega))
        have hv := Lib.hid (Acc.rt (y := .ife x0 x1) A3.out (by simp only [Mm.cnt]; omega))
        clear RZ SZ CA
        go_wp2
        go_ret
        exact ⟨_, by rw [← hv.out]; rfl, FIN.out, W3.out⟩
      | true =>
        simp only [if_true]
        obtain ⟨s3, hq3⟩ : ∃ s', s2.tail = s' := ⟨_, rfl⟩
        rw [hq3]
        cases r3 : grE .B s3 with
        | error e3 =>
          rw [bnd_er rfl]
          go_enter Tryz.func71, Tryz.ntmps71
          have CN := Lib.hid (node_any 9 w)
          go_wp2_with fail
          refine (CN.out).mono ?_; rintro e w1 ⟨rfl, b1⟩
          unfold ndA ndC nd1
          simp only
          obtain ⟨wa0, wl0, ea0, el0, HZ0, L0⟩ := loc_st (HH.out.ofr b1) ((Stp.refl g S w).trans (Stp.of b1)) HH.out.hB (.int .i64 9) (.int .i64 (-1)) (.int .i64 (-1)) (.int .i64 (-1)) (.string (strB [])) (.int .u32 0) (.slice none 0 0)
          have z0 := HZ0.out.cell 0
          have y0 := HZ0.out.frozen 0
          have z1 := HZ0.out.cell 1
          have y1 := HZ0.out.frozen 1
          have z2 := HZ0.out.cell 2
          have y2 := HZ0.out.frozen 2
          have z3 := HZ0.out.cell 3
          have y3 := HZ0.out.frozen 3
          have z4 := HZ0.out.cell 4
          have y4 := HZ0.out.frozen 4
          have z5 := HZ0.out.cell 5
          have y5 := HZ0.out.frozen 5
          have z6 := HZ0.out.cell 6
          have y6 := HZ0.out.frozen 6
          simp only [ndZ, List.getElem?_cons_zero, List.getElem?_cons_succ] at z0 z1 z2 z3 z4 z5 z6
          clear CN b1
          have A0 := Lib.hid (Acc.start (w := w) HG.out)
          have W0 : Hid (S.ws = s0) := hs0
          have C0 := exW L0.out.r (A0.out.pre HP.out (b := 2) (by omega))
          rw [W0.out, r0] at C0
          replace C0 := Lib.hid C0
          go_wp2_with fail
          refine (C0.out).mono ?_; rintro e we0 ⟨S1, rfl, R0, hs0⟩
          have M0 := Lib.hid (L0.out.call R0.r R0.s)
          have A1 := Lib.hid (A0.out.part R0 L0.out.s.fr.size)
          have W1 := Lib.hid hs0
          obtain ⟨z0, hz0⟩ : ∃ z, Hid (rt S.N.length x0 = z) := ⟨_, Lib.hid rfl⟩
          rw [hz0.out]
          clear R0 C0
          obtain ⟨ws_L1, es_L1, L1⟩ := M0.out.set 1 (.int .i64 z0)
          simp only [List.set_cons_zero, List.set_cons_succ] at L1
          have m_L1 := M0.out.h.cell 1
          have p_L1 := M0.out.h.frozen 1
          simp only [List.getElem?_cons_zero, List.getElem?_cons_succ] at m_L1
          have C1 := CB.out _ _ L1.out.r (A1.out.pre HP.out (b := 3) (by omega)) (A1.out.gr HG.out)
          rw [W1.out, r1] at C1
          replace C1 := Lib.hid C1
          go_wp2_with fail
          refine (C1.out).mono ?_; rintro e we1 ⟨S2, rfl, R1, hs1, hb1⟩
          have M1 := Lib.hid (L1.out.call R1.r R1.s)
          have A2 := Lib.hid (A1.out.part1 R1 L1.out.s.fr.size hb1)
          have W2 := Lib.hid hs1
          obtain ⟨z1, hz1⟩ : ∃ z, Hid (rt S1.N.length x1 = z) := ⟨_, Lib.hid rfl⟩
          rw [hz1.out]
          clear R1 C1
          obtain ⟨ws_L2, es_L2, L2⟩ := M1.out.set 2 (.int .i64 z1)
          simp only [List.set_cons_zero, List.set_cons_succ] at L2
          have m_L2 := M1.out.h.cell 2
          have p_L2 := M1.out.h.frozen 2
          simp only [List.getElem?_cons_zero, List.getElem?_cons_succ] at m_L2
          have C2 := take_any L2.out.r [101, 108, 115, 101] ks_of
          rw [W2.out, r2] at C2
          simp only [Bool.false_eq_true, if_false, if_true] at C2
          replace C2 := Lib.hid C2
          go_wp2_with fail
          refine (C2.out).mono ?_; rintro e we2 ⟨rfl, R2, T2⟩
          have M2 := Lib.hid (L2.out.call R2 T2)
          have A3 := Lib.hid (A2.out.up)
          have W3 := Lib.hid (up_ws L2.out.r.le (by rw [W2.out]; exact r2))
          rw [W2.out, hq3] at W3
          clear R2 T2 C2
          have L3 := M2
          have C3 := CB.out _ _ L3.out.r (A3.out.pre HP.out (b := 3) (by omega)) (A3.out.gr HG.out)
          rw [W3.out, r3] at C3
          replace C3 := Lib.hid C3
          go_wp2_with fail
          refine (C3.out).mono ?_; rintro e we he
          have FIN : Hid (RdP B g fl S w (.error e3) 1 e we) := Lib.hid (rdB_er L3.out.s he)
          obtain ⟨rfl, o3⟩ := he
          clear o3 C3
          unfold pan at FIN ⊢
          go_wp2
          first | exact FIN.out | exact ⟨rfl, FIN.out⟩
        | ok y3 =>
          obtain ⟨x3, s4, d3⟩ := y3
          rw [bnd_is rfl]
          go_enter Tryz.func71, Tryz.ntmps71
          have CN := Lib.hid (node_any 9 w)
          go_wp2_with fail
          refine (CN.out).mono ?_; rintro e w1 ⟨rfl, b1⟩
          unfold ndA ndC nd1
          simp only
          obtain ⟨wa0, wl0, ea0, el0, HZ0, L0⟩ := loc_st (HH.out.ofr b1) ((Stp.refl g S w).trans (Stp.of b1)) HH.out.hB (.int .i64 9) (.int .i64 (-1)) (.int .i64 (-1)) (.int .i64 (-1)) (.string (strB [])) (.int .u32 0) (.slice none 0 0)
          have z0 := HZ0.out.cell 0
          have y0 := HZ0.out.frozen 0
          have z1 := HZ0.out.cell 1
          have y1 := HZ0.out.frozen 1
          have z2 := HZ0.out.cell 2
          have y2 := HZ0.out.frozen 2
          have z3 := HZ0.out.cell 3
          have y3 := HZ0.out.frozen 3
          have z4 := HZ0.out.cell 4
          have y4 := HZ0.out.frozen 4
          have z5 := HZ0.out.cell 5
          have y5 := HZ0.out.frozen 5
          have z6 := HZ0.out.cell 6
          have y6 := HZ0.out.frozen 6
          simp only [ndZ, List.getElem?_cons_zero, List.getElem?_cons_succ] at z0 z1 z2 z3 z4 z5 z6
          clear CN b1
          have A0 := Lib.hid (Acc.start (w := w) HG.out)
          have W0 : Hid (S.ws = s0) := hs0
          have C0 := exW L0.out.r (A0.out.pre HP.out (b := 2) (by omega))
          rw [W0.out, r0] at C0
          replace C0 := Lib.hid C0
          go_wp2_with fail
          refine (C0.out).mono ?_; rintro e we0 ⟨S1, rfl, R0, hs0⟩
          have M0 := Lib.hid (L0.out.call R0.r R0.s)
          have A1 := Lib.hid (A0.out.part R0 L0.out.s.fr.size)
          have W1 := Lib.hid hs0
          obtain ⟨z0, hz0⟩ : ∃ z, Hid (rt S.N.length x0 = z) := ⟨_, Lib.hid rfl⟩
          rw [hz0.out]
          clear R0 C0
          obtain ⟨ws_L1, es_L1, L1⟩ := M0.out.set 1 (.int .i64 z0)
          simp only [List.set_cons_zero, List.set_cons_succ] at L1
          have m_L1 := M0.out.h.cell 1
          have p_L1 := M0.out.h.frozen 1
          simp only [List.getElem?_cons_zero, List.getElem?_cons_succ] at m_L1
          have C1 := CB.out _ _ L1.out.r (A1.out.pre HP.out (b := 3) (by omega)) (A1.out.gr HG.out)
          rw [W1.out, r1] at C1
          replace C1 := Lib.hid C1
          go_wp2_with fail
          refine (C1.out).mono ?_; rintro e we1 ⟨S2, rfl, R1, hs1, hb1⟩
          have M1 := Lib.hid (L1.out.call R1.r R1.s)
          have A2 := Lib.hid (A1.out.part1 R1 L1.out.s.fr.size hb1)
          have W2 := Lib.hid hs1
          obtain ⟨z1, hz1⟩ : ∃ z, Hid (rt S1.N.length x1 = z) := ⟨_, Lib.hid rfl⟩
          rw [hz1.out]
          clear R1 C1
          obtain ⟨ws_L2, es_L2, L2⟩ := M1.out.set 2 (.int .i64 z1)
          simp only [List.set_cons_zero, List.set_cons_succ] at L2
          have m_L2 := M1.out.h.cell 2
          have p_L2 := M1.out.h.frozen 2
          simp only [List.getElem?_cons_zero, List.getElem?_cons_succ] at m_L2
          have C2 := take_any L2.out.r [101, 108, 115, 101] ks_of
          rw [W2.out, r2] at C2
          simp only [Bool.false_eq_true, if_false, if_true] at C2
          replace C2 := Lib.hid C2
          go_wp2_with fail
          refine (C2.out).mono ?_; rintro e we2 ⟨rfl, R2, T2⟩
          have M2 := Lib.hid (L2.out.call R2 T2)
          have A3 := Lib.hid (A2.out.up)
          have W3 := Lib.hid (up_ws L2.out.r.le (by rw [W2.out]; exact r2))
          rw [W2.out, hq3] at W3
          clear R2 T2 C2
          have L3 := M2
          have C3 := CB.out _ _ L3.out.r (A3.out.pre HP.out (b := 3) (by omega)) (A3.out.gr HG.out)
          rw [W3.out, r3] at C3
          replace C3 := Lib.hid C3
          go_wp2_with fail
          refine (C3.out).mono ?_; rintro e we3 ⟨S4, rfl, R3, hs3, hb3⟩
          have M3 := Lib.hid (L3.out.call R3.r R3.s)
          have A4 := Lib.hid (A3.out.part1 R3 L3.out.s.fr.size hb3)
          have W4 := Lib.hid hs3
          obtain ⟨z3, hz3⟩ : ∃ z, Hid (rt S2.up.N.length x3 = z) := ⟨_, Lib.hid rfl⟩
          rw [hz3.out]
          clear R3 C3
          obtain ⟨ws_L4, es_L4, L4⟩ := M3.out.set 3 (.int .i64 z3)
          simp only [List.set_cons_zero, List.set_cons_succ] at L4
          have m_L4 := M3.out.h.cell 3
          have p_L4 := M3.out.h.frozen 3
          simp only [List.getElem?_cons_zero, List.getElem?_cons_succ] at m_L4
          have n0 := L4.out.h.cell 0
          have n1 := L4.out.h.cell 1
          have n2 := L4.out.h.cell 2
          have n3 := L4.out.h.cell 3
          have n4 := L4.out.h.cell 4
          have n5 := L4.out.h.cell 5
          have n6 := L4.out.h.cell 6
          simp only [List.getElem?_cons_zero, List.getElem?_cons_succ] at n0 n1 n2 n3 n4 n5 n6
          have CA := Lib.hid (add_any L4.out.r ⟨9, z0, z1, z3, [], 0, []⟩ (.slice none 0 0) (ls_nil _ _ _ _ _ _ _ _) (A4.out.few HP.out L4.out.r))
          simp only [ndA, ndC, AddP] at CA
          go_wp2_with fail
          refine (CA.out).mono ?_; rintro e wz ⟨nv, rfl, RZ, SZ⟩
          have a1 : Hid (S1.N.length = S.N.length + cnt x0) := Lib.hid (by have := A1.out.cnt; simp only [Nat.zero_add] at this; first | exact this | omega)
          have hy1 : Hid (rt (S.N.length + cnt x0) x1 = z1) := Lib.hid (by rw [← a1.out]; exact hz1.out)
          have a3 : Hid (S2.up.N.length = S.N.length + cnt x0 + cnt x1) := Lib.hid (by have := A3.out.cnt; simp only [Nat.zero_add] at this; first | exact this | omega)
          have hy3 : Hid (rt (S.N.length + cnt x0 + cnt x1) x3 = z3) := Lib.hid (by rw [← a3.out]; exact hz3.out)
          have FIN := Lib.hid (Acc.fin (F' := fl) (y := .ifel x0 x1 x3) (d' := (max (max d0 d1) d3)) A4.out (by omega) RZ (L4.out.s.trans SZ) (by simp only [fl, flB, hz0.out, hz1.out, hz3.out, List.nil_append, List.append_assoc, a1.out, hy1.out, a3.out, hy3.out]) (by simp only [Mm.cnt]; omega) (by omega))
          have hv := Lib.hid (Acc.rt (y := .ifel x0 x1 x3) A4.out (by simp only [Mm.cnt]; omega))
          clear RZ SZ CA
          go_wp2
          go_ret
          exact ⟨_, by rw [← hv.out]; rfl, FIN.out, W4.out⟩
set_option maxHeartbeats 8000000 in
theorem change_no {B g : Nat} {S : Sr} {w : World} (h : RdAt B g w S) (hk : hdK 110 S.ws = false) : Calls Tryz.prog 74 #[.pointer (some ⟨g, 0, none⟩)] w (RdP B g fl S w (.error S.ws.length) 1) := by
  have HH := Lib.hid h
  have CK := Lib.hid (fun w' (r : RdAt B g w' S) => kind_any r 110 (by decide))
  simp only [hk, Bool.false_eq_true, if_false] at CK
  have hp := Lib.hid (pan_at h)
  clear h
  go_enter Tryz.func74, Tryz.ntmps74
  have CN := Lib.hid (node_any 7 w)
  go_wp2_with fail
  refine (CN.out).mono ?_; rintro e w1 ⟨rfl, b1⟩
  unfold ndA ndC nd1
  simp only
  obtain ⟨wa9, wl9, ea9, el9, HZ9, L9⟩ := loc_st (HH.out.ofr b1) (Stp.of (g := g) (S := S) b1) HH.out.hB (.int .i64 7) (.int .i64 (-1)) (.int .i64 (-1)) (.int .i64 (-1)) (.string (strB [])) (.int .u32 0) (.slice none 0 0)
  have z0 := HZ9.out.cell 0
  have y0 := HZ9.out.frozen 0
  have z1 := HZ9.out.cell 1
  have y1 := HZ9.out.frozen 1
  have z2 := HZ9.out.cell 2
  have y2 := HZ9.out.frozen 2
  have z3 := HZ9.out.cell 3
  have y3 := HZ9.out.frozen 3
  have z4 := HZ9.out.cell 4
  have y4 := HZ9.out.frozen 4
  have z5 := HZ9.out.cell 5
  have y5 := HZ9.out.frozen 5
  have z6 := HZ9.out.cell 6
  have y6 := HZ9.out.frozen 6
  simp only [ndZ, List.getElem?_cons_zero, List.getElem?_cons_succ] at z0 z1 z2 z3 z4 z5 z6
  clear CN b1
  go_wp2_with fail
  refine ((CK.out _ L9.out.r)).mono ?_; rintro e w3 ⟨rfl, o3⟩
  have FIN : Hid (RdP B g fl S w (.error S.ws.length) 1 (pan S.k) w3) := Lib.hid ⟨by rw [← hp.out], L9.out.s.fr.trans o3 L9.out.s.nw⟩
  clear o3 CK L9 HZ9
  unfold pan at FIN ⊢
  go_wp2
  first | exact FIN.out | exact ⟨rfl, FIN.out⟩
def givE (ws : List Pc) : Rr := must [61] ws fun s => bnd (grE .E s) fun b s2 d2 => must [59] s2 fun s3 => .ok (b, s3, d2)
def plaE (ws : List Pc) : Rr := bnd (grE .E ws) fun a s d => must [93] s fun s => .ok (a, s, d)
set_option maxHeartbeats 16000000 in
theorem change_any {B g n : Nat} {S : Sr} {w : World} (h : RdAt B g w S) (p : Pre n 3 S) (hgr : S.deep ≤ 100 ∨ S.great = true) {p1 : Pc} {r : List Pc} (hws : S.ws = p1 :: r) (hp : p1.1 = 110) : Calls Tryz.prog 74 #[.pointer (some ⟨g, 0, none⟩)] w (RdP B g fl S w
    (if hdW [91] r then bnd (plaE r.tail) fun a s d => bnd (givE s) fun b s2 d2 => .ok (.put p1.2.1 a b, s2, max d d2 + 1) else bnd (givE r) fun b s2 d2 => .ok (.set p1.2.1 b, s2, d2 + 1)) 1) := by
  have hmf : ∀ (fn : Fn) (first cap : Array Value) (w : World), (Instr.makeFunc fn first cap).run Tryz.prog w = .ok (.func fn first cap) w := fun _ _ _ _ => rfl
  have CK := Lib.hid (fun w' (r : RdAt B g w' S) => kind_any r 110 (by decide))
  simp only [hdk_cons hws hp, if_true, hd_cons hws] at CK
  have hk := Lib.hid (hdk_lt (k := 110) h.le (hdk_cons hws hp))
  have hup : Hid (S.up.ws = r) := Lib.hid (by rw [upk_ws h.le (hdk_cons hws hp), hws]; rfl)
  have HH := Lib.hid h
  have HG := Lib.hid hgr
  have HP := Lib.hid p
  have hfd := fld1
  have CT := Lib.hid (fun w' (r : RdAt B g w' S.up) => take_any r [91] ks_of)
  rw [hup.out] at CT
  obtain ⟨pk, pt, pv⟩ := p1
  simp only at hp
  subst hp
  clear h p hws hgr
  simp only
  unfold plaE givE
  cases hb : hdW [91] r
  · simp only [Bool.false_eq_true, if_false]
    rw [hb] at CT
    simp only [Bool.false_eq_true, if_false] at CT
    obtain ⟨s0, hq0⟩ : ∃ s', r = s' := ⟨_, rfl⟩
    rw [hq0]
    cases r0 : (must [61] s0 fun s => bnd (grE .E s) fun b s2 d2 => must [59] s2 fun s3 => .ok (b, s3, d2) : Rr) with
    | error e0 =>
      rw [bnd_er rfl]
      go_enter Tryz.func74, Tryz.ntmps74
      have CN := Lib.hid (node_any 7 w)
      go_wp2_with fail
      refine (CN.out).mono ?_; rintro e w1 ⟨rfl, b1⟩
      unfold ndA ndC nd1
      simp only
      obtain ⟨wa9, wl9, ea9, el9, HZ9, L9⟩ := loc_st (HH.out.ofr b1) (Stp.of (g := g) (S := S) b1) HH.out.hB (.int .i64 7) (.int .i64 (-1)) (.int .i64 (-1)) (.int .i64 (-1)) (.string (strB [])) (.int .u32 0) (.slice none 0 0)
      have z0 := HZ9.out.cell 0
      have y0 := HZ9.out.frozen 0
      have z1 := HZ9.out.cell 1
      have y1 := HZ9.out.frozen 1
      have z2 := HZ9.out.cell 2
      have y2 := HZ9.out.frozen 2
      have z3 := HZ9.out.cell 3
      have y3 := HZ9.out.frozen 3
      have z4 := HZ9.out.cell 4
      have y4 := HZ9.out.frozen 4
      have z5 := HZ9.out.cell 5
      have y5 := HZ9.out.frozen 5
      have z6 := HZ9.out.cell 6
      have y6 := HZ9.out.frozen 6
      simp only [ndZ, List.getElem?_cons_zero, List.getElem?_cons_succ] at z0 z1 z2 z3 z4 z5 z6
      clear CN b1
      go_wp2_with fail
      refine ((CK.out _ L9.out.r)).mono ?_; rintro e w3 ⟨rfl, R3, S3⟩
      have L8 := Lib.hid (L9.out.call R3 S3)
      unfold aggP
      simp only
      clear z0 z1 z2 z3 z4 z5 z6 y0 y1 y2 y3 y4 y5 y6
      clear R3 S3 L9 CK HZ9 ea9 el9
      obtain ⟨ws_L7, es_L7, L7⟩ := L8.out.set 4 (.string (strB pt))
      simp only [List.set_cons_zero, List.set_cons_succ] at L7
      have m_L7 := L8.out.h.cell 4
      have p_L7 := L8.out.h.frozen 4
      simp only [List.getElem?_cons_zero, List.getElem?_cons_succ] at m_L7
      go_wp2_with fail
      refine ((CT.out _ L7.out.r)).mono ?_; rintro e w5 ⟨rfl, R5, S5⟩
      have L6 := Lib.hid (L7.out.call R5 S5)
      clear R5 S5 CT L8 L7
      have L0 := L6
      have A0 := Lib.hid (Acc.start (w := w) HG.out).up
      have W0 : Hid (S.up.ws = s0) := Lib.hid (by rw [hup.out, hq0])
      have C0 := given_any (Lib.hid (exprs_any B g _).2) L0.out.r (A0.out.pre HP.out (b := 2) (by omega))
      rw [W0.out, r0] at C0
      replace C0 := Lib.hid C0
      go_wp2_with fail
      refine (C0.out).mono ?_; rintro e we he
      have FIN : Hid (RdP B g fl S w (.error e0) 1 e we) := Lib.hid (rd_er L0.out.s he)
      obtain ⟨rfl, o3⟩ := he
      clear o3 C0
      unfold pan at FIN ⊢
      go_wp2
      first | exact FIN.out | exact ⟨rfl, FIN.out⟩
    | ok y0 =>
      obtain ⟨x0, s1, d0⟩ := y0
      rw [bnd_is rfl]
      go_enter Tryz.func74, Tryz.ntmps74
      have CN := Lib.hid (node_any 7 w)
      go_wp2_with fail
      refine (CN.out).mono ?_; rintro e w1 ⟨rfl, b1⟩
      unfold ndA ndC nd1
      simp only
      obtain ⟨wa9, wl9, ea9, el9, HZ9, L9⟩ := loc_st (HH.out.ofr b1) (Stp.of (g := g) (S := S) b1) HH.out.hB (.int .i64 7) (.int .i64 (-1)) (.int .i64 (-1)) (.int .i64 (-1)) (.string (strB [])) (.int .u32 0) (.slice none 0 0)
      have z0 := HZ9.out.cell 0
      have y0 := HZ9.out.frozen 0
      have z1 := HZ9.out.cell 1
      have y1 := HZ9.out.frozen 1
      have z2 := HZ9.out.cell 2
      have y2 := HZ9.out.frozen 2
      have z3 := HZ9.out.cell 3
      have y3 := HZ9.out.frozen 3
      have z4 := HZ9.out.cell 4
      have y4 := HZ9.out.frozen 4
      have z5 := HZ9.out.cell 5
      have y5 := HZ9.out.frozen 5
      have z6 := HZ9.out.cell 6
      have y6 := HZ9.out.frozen 6
      simp only [ndZ, List.getElem?_cons_zero, List.getElem?_cons_succ] at z0 z1 z2 z3 z4 z5 z6
      clear CN b1
      go_wp2_with fail
      refine ((CK.out _ L9.out.r)).mono ?_; rintro e w3 ⟨rfl, R3, S3⟩
      have L8 := Lib.hid (L9.out.call R3 S3)
      unfold aggP
      simp only
      clear z0 z1 z2 z3 z4 z5 z6 y0 y1 y2 y3 y4 y5 y6
      clear R3 S3 L9 CK HZ9 ea9 el9
      obtain ⟨ws_L7, es_L7, L7⟩ := L8.out.set 4 (.string (strB pt))
      simp only [List.set_cons_zero, List.set_cons_succ] at L7
      have m_L7 := L8.out.h.cell 4
      have p_L7 := L8.out.h.frozen 4
      simp only [List.getElem?_cons_zero, List.getElem?_cons_succ] at m_L7
      go_wp2_with fail
      refine ((CT.out _ L7.out.r)).mono ?_; rintro e w5 ⟨rfl, R5, S5⟩
      have L6 := Lib.hid (L7.out.call R5 S5)
      clear R5 S5 CT L8 L7
      have L0 := L6
      have A0 := Lib.hid (Acc.start (w := w) HG.out).up
      have W0 : Hid (S.up.ws = s0) := Lib.hid (by rw [hup.out, hq0])
      have C0 := given_any (Lib.hid (exprs_any B g _).2) L0.out.r (A0.out.pre HP.out (b := 2) (by omega))
      rw [W0.out, r0] at C0
      replace C0 := Lib.hid C0
      go_wp2_with fail
      refine (C0.out).mono ?_; rintro e we0 ⟨S1, rfl, R0, hs0⟩
      have M0 := Lib.hid (L0.out.call R0.r R0.s)
      have A1 := Lib.hid (show Acc S w ([] ++ fl S.N.length x0) (0 + Mm.cnt x0) _ _ _ from A0.out.part R0 L0.out.s.fr.size)
      rw [show S.up.N.length = S.N.length from rfl]
      have W1 := Lib.hid hs0
      obtain ⟨z0, hz0⟩ : ∃ z, Hid (rt S.N.length x0 = z) := ⟨_, Lib.hid rfl⟩
      rw [hz0.out]
      clear R0 C0
      obtain ⟨ws_L1, es_L1, L1⟩ := M0.out.set 1 (.int .i64 z0)
      simp only [List.set_cons_zero, List.set_cons_succ] at L1
      have m_L1 := M0.out.h.cell 1
      have p_L1 := M0.out.h.frozen 1
      simp only [List.getElem?_cons_zero, List.getElem?_cons_succ] at m_L1
      have n0 := L1.out.h.cell 0
      have n1 := L1.out.h.cell 1
      have n2 := L1.out.h.cell 2
      have n3 := L1.out.h.cell 3
      have n4 := L1.out.h.cell 4
      have n5 := L1.out.h.cell 5
      have n6 := L1.out.h.cell 6
      simp only [List.getElem?_cons_zero, List.getElem?_cons_succ] at n0 n1 n2 n3 n4 n5 n6
      have CA := Lib.hid (add_any L1.out.r ⟨7, z0, -1, -1, pt, 0, []⟩ (.slice none 0 0) (ls_nil _ _ _ _ _ _ _ _) (A1.out.few HP.out L1.out.r))
      simp only [ndA, ndC, AddP] at CA
      go_wp2_with fail
      refine (CA.out).mono ?_; rintro e wz ⟨nv, rfl, RZ, SZ⟩
      have FIN := Lib.hid (Acc.fin (F' := fl) (y := .set pt x0) (d' := d0) A1.out (by omega) RZ (L1.out.s.trans SZ) (by simp only [fl, flB, hz0.out, List.nil_append, List.append_assoc]) (by simp only [Mm.cnt]; omega) (by omega))
      have hv := Lib.hid (Acc.rt (y := .set pt x0) A1.out (by simp only [Mm.cnt]; omega))
      clear RZ SZ CA
      go_wp2
      go_ret
      exact ⟨_, by rw [← hv.out]; rfl, FIN.out, W1.out⟩
  · simp only [if_true]
    rw [hb] at CT
    simp only [if_true] at CT
    have hk2 := Lib.hid (hd_lt (S := S.up) (t := [91]) (by have := hk.out; exact this) (by rw [hup.out]; exact hb))
    have hup2 : Hid (S.up.up.ws = r.tail) := Lib.hid (by rw [up_ws (S := S.up) (t := [91]) (by have := hk.out; exact this) (by rw [hup.out]; exact hb), hup.out])
    obtain ⟨s0, hq0⟩ : ∃ s', r.tail = s' := ⟨_, rfl⟩
    rw [hq0]
    cases r0 : (bnd (grE .E s0) fun a s d => must [93] s fun s => .ok (a, s, d) : Rr) with
    | error e0 =>
      rw [bnd_er rfl]
      go_enter Tryz.func74, Tryz.ntmps74
      have CN := Lib.hid (node_any 7 w)
      go_wp2_with fail
      refine (CN.out).mono ?_; rintro e w1 ⟨rfl, b1⟩
      unfold ndA ndC nd1
      simp only
      obtain ⟨wa9, wl9, ea9, el9, HZ9, L9⟩ := loc_st (HH.out.ofr b1) (Stp.of (g := g) (S := S) b1) HH.out.hB (.int .i64 7) (.int .i64 (-1)) (.int .i64 (-1)) (.int .i64 (-1)) (.string (strB [])) (.int .u32 0) (.slice none 0 0)
      have z0 := HZ9.out.cell 0
      have y0 := HZ9.out.frozen 0
      have z1 := HZ9.out.cell 1
      have y1 := HZ9.out.frozen 1
      have z2 := HZ9.out.cell 2
      have y2 := HZ9.out.frozen 2
      have z3 := HZ9.out.cell 3
      have y3 := HZ9.out.frozen 3
      have z4 := HZ9.out.cell 4
      have y4 := HZ9.out.frozen 4
      have z5 := HZ9.out.cell 5
      have y5 := HZ9.out.frozen 5
      have z6 := HZ9.out.cell 6
      have y6 := HZ9.out.frozen 6
      simp only [ndZ, List.getElem?_cons_zero, List.getElem?_cons_succ] at z0 z1 z2 z3 z4 z5 z6
      clear CN b1
      go_wp2_with fail
      refine ((CK.out _ L9.out.r)).mono ?_; rintro e w3 ⟨rfl, R3, S3⟩
      have L8 := Lib.hid (L9.out.call R3 S3)
      unfold aggP
      simp only
      clear z0 z1 z2 z3 z4 z5 z6 y0 y1 y2 y3 y4 y5 y6
      clear R3 S3 L9 CK HZ9 ea9 el9
      obtain ⟨ws_L7, es_L7, L7⟩ := L8.out.set 4 (.string (strB pt))
      simp only [List.set_cons_zero, List.set_cons_succ] at L7
      have m_L7 := L8.out.h.cell 4
      have p_L7 := L8.out.h.frozen 4
      simp only [List.getElem?_cons_zero, List.getElem?_cons_succ] at m_L7
      go_wp2_with fail
      refine ((CT.out _ L7.out.r)).mono ?_; rintro e w5 ⟨rfl, R5, S5⟩
      have L6 := Lib.hid (L7.out.call R5 S5)
      clear R5 S5 CT L8 L7
      obtain ⟨ws_L0, es_L0, L0⟩ := L6.out.set 0 (.int .i64 8)
      simp only [List.set_cons_zero, List.set_cons_succ] at L0
      have m_L0 := L6.out.h.cell 0
      have p_L0 := L6.out.h.frozen 0
      simp only [List.getElem?_cons_zero, List.getElem?_cons_succ] at m_L0
      have A0 := Lib.hid (Acc.start (w := w) HG.out).up.up
      have W0 : Hid (S.up.up.ws = s0) := Lib.hid (by rw [hup2.out, hq0])
      have C0 := place_any (Lib.hid (exprs_any B g _).2) L0.out.r (A0.out.pre HP.out (b := 2) (by omega))
      rw [W0.out, r0] at C0
      replace C0 := Lib.hid C0
      go_wp2_with fail
      refine (C0.out).mono ?_; rintro e we he
      have FIN : Hid (RdP B g fl S w (.error e0) 1 e we) := Lib.hid (rd_er L0.out.s he)
      obtain ⟨rfl, o3⟩ := he
      clear o3 C0
      unfold pan at FIN ⊢
      go_wp2
      first | exact FIN.out | exact ⟨rfl, FIN.out⟩
    | ok y0 =>
      obtain ⟨x0, s1, d0⟩ := y0
      rw [bnd_is rfl]
      cases r1 : (must [61] s1 fun s => bnd (grE .E s) fun b s2 d2 => must [59] s2 fun s3 => .ok (b, s3, d2) : Rr) with
      | error e1 =>
        rw [bnd_er rfl]
        go_enter Tryz.func74, Tryz.ntmps74
        have CN := Lib.hid (node_any 7 w)
        go_wp2_with fail
        refine (CN.out).mono ?_; rintro e w1 ⟨rfl, b1⟩
        unfold ndA ndC nd1
        simp only
        obtain ⟨wa9, wl9, ea9, el9, HZ9, L9⟩ := loc_st (HH.out.ofr b1) (Stp.of (g := g) (S := S) b1) HH.out.hB (.int .i64 7) (.int .i64 (-1)) (.int .i64 (-1)) (.int .i64 (-1)) (.string (strB [])) (.int .u32 0) (.slice none 0 0)
        have z0 := HZ9.out.cell 0
        have y0 := HZ9.out.frozen 0
        have z1 := HZ9.out.cell 1
        have y1 := HZ9.out.frozen 1
        have z2 := HZ9.out.cell 2
        have y2 := HZ9.out.frozen 2
        have z3 := HZ9.out.cell 3
        have y3 := HZ9.out.frozen 3
        have z4 := HZ9.out.cell 4
        have y4 := HZ9.out.frozen 4
        have z5 := HZ9.out.cell 5
        have y5 := HZ9.out.frozen 5
        have z6 := HZ9.out.cell 6
        have y6 := HZ9.out.frozen 6
        simp only [ndZ, List.getElem?_cons_zero, List.getElem?_cons_succ] at z0 z1 z2 z3 z4 z5 z6
        clear CN b1
        go_wp2_with fail
        refine ((CK.out _ L9.out.r)).mono ?_; rintro e w3 ⟨rfl, R3, S3⟩
        have L8 := Lib.hid (L9.out.call R3 S3)
        unfold aggP
        simp only
        clear z0 z1 z2 z3 z4 z5 z6 y0 y1 y2 y3 y4 y5 y6
        clear R3 S3 L9 CK HZ9 ea9 el9
        obtain ⟨ws_L7, es_L7, L7⟩ := L8.out.set 4 (.string (strB pt))
        simp only [List.set_cons_zero, List.set_cons_succ] at L7
        have m_L7 := L8.out.h.cell 4
        have p_L7 := L8.out.h.frozen 4
        simp only [List.getElem?_cons_zero, List.getElem?_cons_succ] at m_L7
        go_wp2_with fail
        refine ((CT.out _ L7.out.r)).mono ?_; rintro e w5 ⟨rfl, R5, S5⟩
        have L6 := Lib.hid (L7.out.call R5 S5)
        clear R5 S5 CT L8 L7
        obtain ⟨ws_L0, es_L0, L0⟩ := L6.out.set 0 (.int .i64 8)
        simp only [List.set_cons_zero, List.set_cons_succ] at L0
        have m_L0 := L6.out.h.cell 0
        have p_L0 := L6.out.h.frozen 0
        simp only [List.getElem?_cons_zero, List.getElem?_cons_succ] at m_L0
        have A0 := Lib.hid (Acc.start (w := w) HG.out).up.up
        have W0 : Hid (S.up.up.ws = s0) := Lib.hid (by rw [hup2.out, hq0])
        have C0 := place_any (Lib.hid (exprs_any B g _).2) L0.out.r (A0.out.pre HP.out (b := 2) (by omega))
        rw [W0.out, r0] at C0
        replace C0 := Lib.hid C0
        go_wp2_with fail
        refine (C0.out).mono ?_; rintro e we0 ⟨S1, rfl, R0, hs0⟩
        have M0 := Lib.hid (L0.out.call R0.r R0.s)
        have A1 := Lib.hid (show Acc S w ([] ++ fl S.N.length x0) (0 + Mm.cnt x0) _ _ _ from A0.out.part R0 L0.out.s.fr.size)
        rw [show S.up.up.N.length = S.N.length from rfl]
        have W1 := Lib.hid hs0
        obtain ⟨z0, hz0⟩ : ∃ z, Hid (rt S.N.length x0 = z) := ⟨_, Lib.hid rfl⟩
        rw [hz0.out]
        clear R0 C0
        obtain ⟨ws_L1, es_L1, L1⟩ := M0.out.set 1 (.int .i64 z0)
        simp only [List.set_cons_zero, List.set_cons_succ] at L1
        have m_L1 := M0.out.h.cell 1
        have p_L1 := M0.out.h.frozen 1
        simp only [List.getElem?_cons_zero, List.getElem?_cons_succ] at m_L1
        have C1 := given_any (Lib.hid (exprs_any B g _).2) L1.out.r (A1.out.pre HP.out (b := 2) (by omega))
        rw [W1.out, r1] at C1
        replace C1 := Lib.hid C1
        go_wp2_with fail
        refine (C1.out).mono ?_; rintro e we he
        have FIN : Hid (RdP B g fl S w (.error e1) 1 e we) := Lib.hid (rd_er L1.out.s he)
        obtain ⟨rfl, o3⟩ := he
        clear o3 C1
        unfold pan at FIN ⊢
        go_wp2
        first | exact FIN.out | exact ⟨rfl, FIN.out⟩
      | ok y1 =>
        obtain ⟨x1, s2, d1⟩ := y1
        rw [bnd_is rfl]
        go_enter Tryz.func74, Tryz.ntmps74
        have CN := Lib.hid (node_any 7 w)
        go_wp2_with fail
        refine (CN.out).mono ?_; rintro e w1 ⟨rfl, b1⟩
        unfold ndA ndC nd1
        simp only
        obtain ⟨wa9, wl9, ea9, el9, HZ9, L9⟩ := loc_st (HH.out.ofr b1) (Stp.of (g := g) (S := S) b1) HH.out.hB (.int .i64 7) (.int .i64 (-1)) (.int .i64 (-1)) (.int .i64 (-1)) (.string (strB [])) (.int .u32 0) (.slice none 0 0)
        have z0 := HZ9.out.cell 0
        have y0 := HZ9.out.frozen 0
        have z1 := HZ9.out.cell 1
        have y1 := HZ9.out.frozen 1
        have z2 := HZ9.out.cell 2
        have y2 := HZ9.out.frozen 2
        have z3 := HZ9.out.cell 3
        have y3 := HZ9.out.frozen 3
        have z4 := HZ9.out.cell 4
        have y4 := HZ9.out.frozen 4
        have z5 := HZ9.out.cell 5
        have y5 := HZ9.out.frozen 5
        have z6 := HZ9.out.cell 6
        have y6 := HZ9.out.frozen 6
        simp only [ndZ, List.getElem?_cons_zero, List.getElem?_cons_succ] at z0 z1 z2 z3 z4 z5 z6
        clear CN b1
        go_wp2_with fail
        refine ((CK.out _ L9.out.r)).mono ?_; rintro e w3 ⟨rfl, R3, S3⟩
        have L8 := Lib.hid (L9.out.call R3 S3)
        unfold aggP
        simp only
        clear z0 z1 z2 z3 z4 z5 z6 y0 y1 y2 y3 y4 y5 y6
        clear R3 S3 L9 CK HZ9 ea9 el9
        obtain ⟨ws_L7, es_L7, L7⟩ := L8.out.set 4 (.string (strB pt))
        simp only [List.set_cons_zero, List.set_cons_succ] at L7
        have m_L7 := L8.out.h.cell 4
        have p_L7 := L8.out.h.frozen 4
        simp only [List.getElem?_cons_zero, List.getElem?_cons_succ] at m_L7
        go_wp2_with fail
        refine ((CT.out _ L7.out.r)).mono ?_; rintro e w5 ⟨rfl, R5, S5⟩
        have L6 := Lib.hid (L7.out.call R5 S5)
        clear R5 S5 CT L8 L7
        obtain ⟨ws_L0, es_L0, L0⟩ := L6.out.set 0 (.int .i64 8)
        simp only [List.set_cons_zero, List.set_cons_succ] at L0
        have m_L0 := L6.out.h.cell 0
        have p_L0 := L6.out.h.frozen 0
        simp only [List.getElem?_cons_zero, List.getElem?_cons_succ] at m_L0
        have A0 := Lib.hid (Acc.start (w := w) HG.out).up.up
        have W0 : Hid (S.up.up.ws = s0) := Lib.hid (by rw [hup2.out, hq0])
        have C0 := place_any (Lib.hid (exprs_any B g _).2) L0.out.r (A0.out.pre HP.out (b := 2) (by omega))
        rw [W0.out, r0] at C0
        replace C0 := Lib.hid C0
        go_wp2_with fail
        refine (C0.out).mono ?_; rintro e we0 ⟨S1, rfl, R0, hs0⟩
        have M0 := Lib.hid (L0.out.call R0.r R0.s)
        have A1 := Lib.hid (show Acc S w ([] ++ fl S.N.length x0) (0 + Mm.cnt x0) _ _ _ from A0.out.part R0 L0.out.s.fr.size)
        rw [show S.up.up.N.length = S.N.length from rfl]
        have W1 := Lib.hid hs0
        obtain ⟨z0, hz0⟩ : ∃ z, Hid (rt S.N.length x0 = z) := ⟨_, Lib.hid rfl⟩
        rw [hz0.out]
        clear R0 C0
        obtain ⟨ws_L1, es_L1, L1⟩ := M0.out.set 1 (.int .i64 z0)
        simp only [List.set_cons_zero, List.set_cons_succ] at L1
        have m_L1 := M0.out.h.cell 1
        have p_L1 := M0.out.h.frozen 1
        simp only [List.getElem?_cons_zero, List.getElem?_cons_succ] at m_L1
        have C1 := given_any (Lib.hid (exprs_any B g _).2) L1.out.r (A1.out.pre HP.out (b := 2) (by omega))
        rw [W1.out, r1] at C1
        replace C1 := Lib.hid C1
        go_wp2_with fail
        refine (C1.out).mono ?_; rintro e we1 ⟨S2, rfl, R1, hs1⟩
        have M1 := Lib.hid (L1.out.call R1.r R1.s)
        have A2 := Lib.hid (A1.out.part R1 L1.out.s.fr.size)
        have W2 := Lib.hid hs1
        obtain ⟨z1, hz1⟩ : ∃ z, Hid (rt S1.N.length x1 = z) := ⟨_, Lib.hid rfl⟩
        rw [hz1.out]
        clear R1 C1
        obtain ⟨ws_L2, es_L2, L2⟩ := M1.out.set 2 (.int .i64 z1)
        simp only [List.set_cons_zero, List.set_cons_succ] at L2
        have m_L2 := M1.out.h.cell 2
        have p_L2 := M1.out.h.frozen 2
        simp only [List.getElem?_cons_zero, List.getElem?_cons_succ] at m_L2
        have n0 := L2.out.h.cell 0
        have n1 := L2.out.h.cell 1
        have n2 := L2.out.h.cell 2
        have n3 := L2.out.h.cell 3
        have n4 := L2.out.h.cell 4
        have n5 := L2.out.h.cell 5
        have n6 := L2.out.h.cell 6
        simp only [List.getElem?_cons_zero, List.getElem?_cons_succ] at n0 n1 n2 n3 n4 n5 n6
        have CA := Lib.hid (add_any L2.out.r ⟨8, z0, z1, -1, pt, 0, []⟩ (.slice none 0 0) (ls_nil _ _ _ _ _ _ _ _) (A2.out.few HP.out L2.out.r))
        simp only [ndA, ndC, AddP] at CA
        go_wp2_with fail
        refine (CA.out).mono ?_; rintro e wz ⟨nv, rfl, RZ, SZ⟩
        have a1 : Hid (S1.N.length = S.N.length + cnt x0) := Lib.hid (by have := A1.out.cnt; simp only [Nat.zero_add] at this; first | exact this | omega)
        have hy1 : Hid (rt (S.N.length + cnt x0) x1 = z1) := Lib.hid (by rw [← a1.out]; exact hz1.out)
        have FIN := Lib.hid (Acc.fin (F' := fl) (y := .put pt x0 x1) (d' := (max d0 d1)) A2.out (by omega) RZ (L2.out.s.trans SZ) (by simp only [fl, flB, hz0.out, hz1.out, List.nil_append, List.append_assoc, a1.out, hy1.out]) (by simp only [Mm.cnt]; omega) (by omega))
        have hv := Lib.hid (Acc.rt (y := .put pt x0 x1) A2.out (by simp only [Mm.cnt]; omega))
        clear RZ SZ CA
        go_wp2
        go_ret
        exact ⟨_, by rw [← hv.out]; rfl, FIN.out, W2.out⟩
end Go.Proofs.YtkacplcilkogpaaGreatDoor.Mm
