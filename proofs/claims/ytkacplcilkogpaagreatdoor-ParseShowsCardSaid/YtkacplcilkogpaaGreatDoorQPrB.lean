/- The reader's products, sums and expressions. -/
import Derived.Test.YtkacplcilkogpaaGreatDoorQPrA
namespace Go.Proofs.YtkacplcilkogpaaGreatDoor.Mm
open Go.ChangeShapes Go.WideShapes Go.ChangeAt Go.RowKit
set_option linter.unusedVariables false
set_option linter.unusedSimpArgs false
set_option maxRecDepth 10000

/-- a list's block, if it has one, is new -/
def NewB (w : World) (v : Value) : Prop := v.ownBlock = none ∨ ∃ b, v.ownBlock = some b ∧ w.heap.size ≤ b
theorem NewB.mono {w w' : World} {v : Value} (h : NewB w' v) (hs : w.heap.size ≤ w'.heap.size) : NewB w v := h.imp id (fun ⟨b, e, hb⟩ => ⟨b, e, Nat.le_trans hs hb⟩)
/-- the nodes' lists are those that were there, or new -/
def LsN (w : World) (S S' : Sr) : Prop := ∀ p ∈ S'.N, p ∈ S.N ∨ NewB w p.2
theorem LsN.refl (w : World) (S : Sr) : LsN w S S := fun p hp => .inl hp
theorem LsN.trans {w w' : World} {S S1 S2 : Sr} (a : LsN w S S1) (b : LsN w' S1 S2) (hs : w.heap.size ≤ w'.heap.size) : LsN w S S2 := fun p hp => (b p hp).elim (a p) (fun h => .inr (h.mono hs))
theorem LsN.app {w : World} {S S1 : Sr} {x : NdR} {L nv : Value} (a : LsN w S S1) (h : NewB w L) : LsN w S (S1.app x L nv) := fun p hp => by
  rcases List.mem_append.1 hp with hp | hp
  · exact a p hp
  · rw [List.mem_singleton] at hp; subst hp; exact .inr h
theorem newB_nil (w : World) : NewB w (.slice none 0 0) := .inl rfl
/-- from one state of the reader to another: a part x is read, of this depth -/
structure RdSt (B g : Nat) (F : Nat → Nd → List NdR) (S : Sr) (w : World) (x : Nd) (d : Nat) (S' : Sr) (w' : World) : Prop where
  r : RdAt B g w' S'
  s : Stp g S S' w w'
  deep : S'.deep = S.deep
  great : S'.great = (S.great || decide (100 < S.deep + d))
  N : S'.N.map Prod.fst = S.N.map Prod.fst ++ F S.N.length x
  cnt : S'.N.length = S.N.length + cnt x
  gb : S'.N.length + S.k ≤ S.N.length + S'.k
  ls : LsN w S S'
def RdP (B g : Nat) (F : Nat → Nd → List NdR) (S : Sr) (w : World) (r : Rr) (c : Nat) (e : Ending) (w' : World) : Prop :=
  match r with
  | .ok (x, s, d) => ∃ S', e = .returned (.int .i64 (rt S.N.length x)) ∧ RdSt B g F S w x (d - c) S' w' ∧ S'.ws = s
  | .error k => e = pan (S.W.length - k) ∧ Ofr g S.nv.ownBlock w w'
theorem RdSt.mono {B g : Nat} {F : Nat → Nd → List NdR} {S S' : Sr} {w w' : World} {x : Nd} {d : Nat} (h : RdSt B g F S w x d S' w') : S.k ≤ S'.k := by have := h.gb; have := h.cnt; omega
theorem ws_len {S : Sr} : S.ws.length = S.W.length - S.k := by unfold Sr.ws; rw [List.length_drop]
theorem RdSt.lenW {B g : Nat} {F : Nat → Nd → List NdR} {S S' : Sr} {w w' : World} {x : Nd} {d : Nat} (h : RdSt B g F S w x d S' w') : S'.ws.length ≤ S.ws.length := by
  rw [ws_len, ws_len, h.s.W]; have := h.mono; omega
theorem rd_er {B g : Nat} {F : Nat → Nd → List NdR} {S S1 : Sr} {w w1 w' : World} {k c : Nat} {e : Ending} (s : Stp g S S1 w w1) (he : e = pan (S1.W.length - k) ∧ Ofr g S1.nv.ownBlock w1 w') : RdP B g F S w (.error k) c e w' := ⟨by rw [he.1, s.W], s.fr.trans he.2 s.nw⟩
theorem dV1 {ws : List Pc} {x : Nd} {s : List Pc} {d : Nat} (h : grE .V ws = .ok (x, s, d)) : 1 ≤ d := by
  cases ws with
  | nil => rw [grE_nil_V] at h; cases h
  | cons p r =>
    rw [grE_V] at h
    split at h
    · injection h with h; injection h with _ h; injection h with _ h; omega
    split at h
    · split at h
      · obtain ⟨a, s1, d1, _, h⟩ := bnd_ok h
        obtain ⟨_, _, _, _, h⟩ := must_ok h
        injection h with h; injection h with _ h; injection h with _ h; omega
      · injection h with h; injection h with _ h; injection h with _ h; omega
    split at h
    · injection h with h; injection h with _ h; injection h with _ h; omega
    split at h
    · obtain ⟨a, s1, d1, _, h⟩ := bnd_ok h
      injection h with h; injection h with _ h; injection h with _ h; omega
    split at h
    · obtain ⟨a, s1, d1, _, h⟩ := bnd_ok h
      obtain ⟨_, _, _, _, h⟩ := must_ok h
      injection h with h; injection h with _ h; injection h with _ h; omega
    · cases h
theorem dE1 {ws : List Pc} {x : Nd} {s : List Pc} {d : Nat} (h : grE .E ws = .ok (x, s, d)) : 1 ≤ d := by
  rw [grE_E] at h
  obtain ⟨a, s1, d1, _, h⟩ := bnd_ok h
  split at h
  · injection h with h; injection h with _ h; injection h with _ h; omega
  · obtain ⟨a, s1, d1, _, h⟩ := bnd_ok h
    injection h with h; injection h with _ h; injection h with _ h; omega
theorem dT1 {ws : List Pc} {x : Nd} {s : List Pc} {d : Nat} (h : grE .T ws = .ok (x, s, d)) : 1 ≤ d := by
  cases ws with
  | nil => rw [grE_nil_T] at h; cases h
  | cons p r =>
    rw [grE_T] at h
    split at h
    · obtain ⟨a, s1, d1, _, h⟩ := bnd_ok h
      obtain ⟨a, s1, d1, _, h⟩ := bnd_ok h
      split at h
      · obtain ⟨a, s1, d1, _, h⟩ := bnd_ok h
        injection h with h; injection h with _ h; injection h with _ h; omega
      · injection h with h; injection h with _ h; injection h with _ h; omega
    split at h
    · obtain ⟨a, s1, d1, _, h⟩ := bnd_ok h
      obtain ⟨a, s1, d1, _, h⟩ := bnd_ok h
      injection h with h; injection h with _ h; injection h with _ h; omega
    split at h
    · obtain ⟨a, s1, d1, _, h⟩ := bnd_ok h
      obtain ⟨_, _, _, _, h⟩ := must_ok h
      injection h with h; injection h with _ h; injection h with _ h; omega
    split at h
    · obtain ⟨a, s1, d1, _, h⟩ := bnd_ok h
      obtain ⟨_, _, _, _, h⟩ := must_ok h
      injection h with h; injection h with _ h; injection h with _ h; omega
    split at h
    · split at h
      · obtain ⟨a, s1, d1, _, h⟩ := bnd_ok h
        obtain ⟨_, _, _, _, h⟩ := must_ok h
        obtain ⟨_, _, _, _, h⟩ := must_ok h
        obtain ⟨a, s1, d1, _, h⟩ := bnd_ok h
        obtain ⟨_, _, _, _, h⟩ := must_ok h
        injection h with h; injection h with _ h; injection h with _ h; omega
      · obtain ⟨_, _, _, _, h⟩ := must_ok h
        obtain ⟨a, s1, d1, _, h⟩ := bnd_ok h
        obtain ⟨_, _, _, _, h⟩ := must_ok h
        injection h with h; injection h with _ h; injection h with _ h; omega
    · cases h
/-- one deeper -/
def Sr.dn (S : Sr) : Sr := { S with deep := S.deep + 1, great := S.great || decide (100 < S.deep + 1) }
set_option maxHeartbeats 4000000 in
theorem within_E {B g : Nat} {F : Nat → Nd → List NdR} {w : World} {S : Sr} (h : RdAt B g w S) (hd : S.deep ≤ 20000) (r : Rr) (hr : ∀ x s d, r = .ok (x, s, d) → 1 ≤ d) (C : ∀ w1, RdAt B g w1 S.dn → Calls Tryz.prog 90 #[.pointer (some ⟨g, 0, none⟩)] w1 (RdP B g F S.dn w1 r 1)) :
    Calls Tryz.prog 57 #[.pointer (some ⟨g, 0, none⟩), .func (.func 90) #[.pointer (some ⟨g, 0, none⟩)] #[]] w (RdP B g F S w r 0) := by
  have hdz : (S.deep : Int) ≤ 20000 := by omega
  let S1 : Sr := { S with deep := S.deep + 1 }
  obtain ⟨R1, o1⟩ := h.set (S' := S1) 5 (.int .i64 ((S.deep : Int) + 1)) rfl rfl rfl rfl rfl rfl rfl (Nat.le_refl _) h.le (show S.deep + 1 ≤ 100000 by omega)
  obtain ⟨w1, e1, R1, o1⟩ : ∃ w1, w.setCell ⟨g, 5, none⟩ (.int .i64 ((S.deep : Int) + 1)) = w1 ∧ RdAt B g w1 S1 ∧ Ofr g none w w1 := ⟨_, rfl, R1, o1⟩
  obtain ⟨R2, o2⟩ := R1.set (S' := S.dn) 6 (.bool (S.great || decide (100 < S.deep + 1))) rfl rfl rfl rfl rfl rfl rfl (Nat.le_refl _) R1.le (show S.deep + 1 ≤ 100000 by omega)
  obtain ⟨w2, e2, R2, o2⟩ : ∃ w2, w1.setCell ⟨g, 6, none⟩ (.bool (S.great || decide (100 < S.deep + 1))) = w2 ∧ RdAt B g w2 S.dn ∧ Ofr g none w1 w2 := ⟨_, rfl, R2, o2⟩
  have ST := Lib.hid (show Stp g S S.dn w w2 from ⟨rfl, rfl, rfl, rfl, rfl, .refl _ _, (o1.trans o2 (.refl _ _)).grow⟩)
  have CK := Lib.hid (C w2 R2)
  have a5 := h.c5
  have f5 := h.cells.frozen 5
  have b5 : w1.cell? ⟨g, 5, none⟩ = some (.int .i64 ((S.deep : Int) + 1)) := R1.c5
  have b6 : w1.cell? ⟨g, 6, none⟩ = some (.bool S.great) := R1.c6
  have g6 := R1.cells.frozen 6
  have gd : decide ((100 : Int) < (S.deep : Int) + 1) = decide (100 < S.deep + 1) := by rw [decide_eq_decide]; omega
  have HR := Lib.hid hr
  clear h C R1 R2 o1 o2 hr
  cases hg : S.great
  · rw [hg] at b6 e2
    simp only [Bool.false_or, Bool.true_or] at e2
    have e2' : w1.setCell ⟨g, 6, none⟩ (.bool (decide ((100 : Int) < (S.deep : Int) + 1))) = w2 := by rw [gd]; exact e2
    cases r with
    | error k =>
      go_enter Tryz.func57, Tryz.ntmps57
      go_wp2_with fail
      refine (CK.out).mono ?_; rintro e w3 he
      obtain ⟨rfl, o3⟩ := he
      have FIN : Hid (RdP B g F S w (.error k) 0 (pan (S.W.length - k)) w3) := Lib.hid (rd_er ST.out ⟨rfl, o3⟩)
      have hW := Lib.hid (show S.dn.W = S.W from rfl)
      rw [hW.out]
      clear o3 CK
      unfold pan
      go_wp2
      first | exact FIN.out | exact ⟨rfl, FIN.out⟩
    | ok y =>
      obtain ⟨x, s, d⟩ := y
      have hd1 := HR.out x s d rfl
      go_enter Tryz.func57, Tryz.ntmps57
      go_wp2_with fail
      refine (CK.out).mono ?_; rintro e w3 ⟨S3, rfl, R3, hs⟩
      have hS : S3.deep = S.deep + 1 := R3.deep
      let S4 : Sr := { S3 with deep := S.deep }
      obtain ⟨R4, o4⟩ := R3.r.set (S' := S4) 5 (.int .i64 (S.deep : Int)) rfl rfl rfl rfl rfl rfl rfl (Nat.le_refl _) R3.r.le (show S.deep ≤ 100000 by omega)
      obtain ⟨w4, e4, R4, o4⟩ : ∃ w4, w3.setCell ⟨g, 5, none⟩ (.int .i64 (S.deep : Int)) = w4 ∧ RdAt B g w4 S4 ∧ Ofr g none w3 w4 := ⟨_, rfl, R4, o4⟩
      have c5 : w3.cell? ⟨g, 5, none⟩ = some (.int .i64 ((S.deep : Int) + 1)) := by have := R3.r.c5; rw [hS] at this; simpa using this
      have q5 := R3.r.cells.frozen 5
      have FIN : Hid (RdSt B g F S w x d S4 w4 ∧ S4.ws = s) := Lib.hid ⟨⟨R4, ST.out.trans (R3.s.trans ⟨rfl, rfl, rfl, rfl, rfl, .refl _ _, o4.grow⟩), rfl, by
        show S3.great = _
        rw [R3.great]
        show ((S.great || decide (100 < S.deep + 1)) || decide (100 < S.deep + 1 + (d - 1))) = _
        have e9 : S.deep + 1 + (d - 1) = S.deep + d := by omega
        rw [e9]
        by_cases h1 : 100 < S.deep + 1
        · have : 100 < S.deep + d := by omega
          simp [h1, this]
        · simp [h1], R3.N, R3.cnt, R3.gb, fun p hp => (R3.ls p hp).imp id (fun h => h.mono ST.out.fr.size)⟩, hs⟩
      have hq := Lib.hid (show rt S.dn.N.length x = rt S.N.length x from rfl)
      clear R3 hs R4 o4 CK
      have hw4 : (S.deep : Int) + 1 - 1 = (S.deep : Int) := by omega
      rw [hq.out]
      obtain ⟨z, hz⟩ : ∃ z, Hid (rt S.N.length x = z) := ⟨_, Lib.hid rfl⟩
      rw [hz.out]
      go_wp2
      go_ret
      exact ⟨S4, by rw [hz.out]; rfl, FIN.out⟩
  · rw [hg] at b6 e2
    simp only [Bool.false_or, Bool.true_or] at e2
    cases r with
    | error k =>
      go_enter Tryz.func57, Tryz.ntmps57
      go_wp2_with fail
      refine (CK.out).mono ?_; rintro e w3 he
      obtain ⟨rfl, o3⟩ := he
      have FIN : Hid (RdP B g F S w (.error k) 0 (pan (S.W.length - k)) w3) := Lib.hid (rd_er ST.out ⟨rfl, o3⟩)
      have hW := Lib.hid (show S.dn.W = S.W from rfl)
      rw [hW.out]
      clear o3 CK
      unfold pan
      go_wp2
      first | exact FIN.out | exact ⟨rfl, FIN.out⟩
    | ok y =>
      obtain ⟨x, s, d⟩ := y
      have hd1 := HR.out x s d rfl
      go_enter Tryz.func57, Tryz.ntmps57
      go_wp2_with fail
      refine (CK.out).mono ?_; rintro e w3 ⟨S3, rfl, R3, hs⟩
      have hS : S3.deep = S.deep + 1 := R3.deep
      let S4 : Sr := { S3 with deep := S.deep }
      obtain ⟨R4, o4⟩ := R3.r.set (S' := S4) 5 (.int .i64 (S.deep : Int)) rfl rfl rfl rfl rfl rfl rfl (Nat.le_refl _) R3.r.le (show S.deep ≤ 100000 by omega)
      obtain ⟨w4, e4, R4, o4⟩ : ∃ w4, w3.setCell ⟨g, 5, none⟩ (.int .i64 (S.deep : Int)) = w4 ∧ RdAt B g w4 S4 ∧ Ofr g none w3 w4 := ⟨_, rfl, R4, o4⟩
      have c5 : w3.cell? ⟨g, 5, none⟩ = some (.int .i64 ((S.deep : Int) + 1)) := by have := R3.r.c5; rw [hS] at this; simpa using this
      have q5 := R3.r.cells.frozen 5
      have FIN : Hid (RdSt B g F S w x d S4 w4 ∧ S4.ws = s) := Lib.hid ⟨⟨R4, ST.out.trans (R3.s.trans ⟨rfl, rfl, rfl, rfl, rfl, .refl _ _, o4.grow⟩), rfl, by
        show S3.great = _
        rw [R3.great]
        show ((S.great || decide (100 < S.deep + 1)) || decide (100 < S.deep + 1 + (d - 1))) = _
        have e9 : S.deep + 1 + (d - 1) = S.deep + d := by omega
        rw [e9]
        by_cases h1 : 100 < S.deep + 1
        · have : 100 < S.deep + d := by omega
          simp [h1, this]
        · simp [h1], R3.N, R3.cnt, R3.gb, fun p hp => (R3.ls p hp).imp id (fun h => h.mono ST.out.fr.size)⟩, hs⟩
      have hq := Lib.hid (show rt S.dn.N.length x = rt S.N.length x from rfl)
      clear R3 hs R4 o4 CK
      have hw4 : (S.deep : Int) + 1 - 1 = (S.deep : Int) := by omega
      rw [hq.out]
      obtain ⟨z, hz⟩ : ∃ z, Hid (rt S.N.length x = z) := ⟨_, Lib.hid rfl⟩
      rw [hz.out]
      go_wp2
      go_ret
      exact ⟨S4, by rw [hz.out]; rfl, FIN.out⟩
set_option maxHeartbeats 4000000 in
theorem within_V {B g : Nat} {F : Nat → Nd → List NdR} {w : World} {S : Sr} (h : RdAt B g w S) (hd : S.deep ≤ 20000) (r : Rr) (hr : ∀ x s d, r = .ok (x, s, d) → 1 ≤ d) (C : ∀ w1, RdAt B g w1 S.dn → Calls Tryz.prog 104 #[.pointer (some ⟨g, 0, none⟩)] w1 (RdP B g F S.dn w1 r 1)) :
    Calls Tryz.prog 57 #[.pointer (some ⟨g, 0, none⟩), .func (.func 104) #[.pointer (some ⟨g, 0, none⟩)] #[]] w (RdP B g F S w r 0) := by
  have hdz : (S.deep : Int) ≤ 20000 := by omega
  let S1 : Sr := { S with deep := S.deep + 1 }
  obtain ⟨R1, o1⟩ := h.set (S' := S1) 5 (.int .i64 ((S.deep : Int) + 1)) rfl rfl rfl rfl rfl rfl rfl (Nat.le_refl _) h.le (show S.deep + 1 ≤ 100000 by omega)
  obtain ⟨w1, e1, R1, o1⟩ : ∃ w1, w.setCell ⟨g, 5, none⟩ (.int .i64 ((S.deep : Int) + 1)) = w1 ∧ RdAt B g w1 S1 ∧ Ofr g none w w1 := ⟨_, rfl, R1, o1⟩
  obtain ⟨R2, o2⟩ := R1.set (S' := S.dn) 6 (.bool (S.great || decide (100 < S.deep + 1))) rfl rfl rfl rfl rfl rfl rfl (Nat.le_refl _) R1.le (show S.deep + 1 ≤ 100000 by omega)
  obtain ⟨w2, e2, R2, o2⟩ : ∃ w2, w1.setCell ⟨g, 6, none⟩ (.bool (S.great || decide (100 < S.deep + 1))) = w2 ∧ RdAt B g w2 S.dn ∧ Ofr g none w1 w2 := ⟨_, rfl, R2, o2⟩
  have ST := Lib.hid (show Stp g S S.dn w w2 from ⟨rfl, rfl, rfl, rfl, rfl, .refl _ _, (o1.trans o2 (.refl _ _)).grow⟩)
  have CK := Lib.hid (C w2 R2)
  have a5 := h.c5
  have f5 := h.cells.frozen 5
  have b5 : w1.cell? ⟨g, 5, none⟩ = some (.int .i64 ((S.deep : Int) + 1)) := R1.c5
  have b6 : w1.cell? ⟨g, 6, none⟩ = some (.bool S.great) := R1.c6
  have g6 := R1.cells.frozen 6
  have gd : decide ((100 : Int) < (S.deep : Int) + 1) = decide (100 < S.deep + 1) := by rw [decide_eq_decide]; omega
  have HR := Lib.hid hr
  clear h C R1 R2 o1 o2 hr
  cases hg : S.great
  · rw [hg] at b6 e2
    simp only [Bool.false_or, Bool.true_or] at e2
    have e2' : w1.setCell ⟨g, 6, none⟩ (.bool (decide ((100 : Int) < (S.deep : Int) + 1))) = w2 := by rw [gd]; exact e2
    cases r with
    | error k =>
      go_enter Tryz.func57, Tryz.ntmps57
      go_wp2_with fail
      refine (CK.out).mono ?_; rintro e w3 he
      obtain ⟨rfl, o3⟩ := he
      have FIN : Hid (RdP B g F S w (.error k) 0 (pan (S.W.length - k)) w3) := Lib.hid (rd_er ST.out ⟨rfl, o3⟩)
      have hW := Lib.hid (show S.dn.W = S.W from rfl)
      rw [hW.out]
      clear o3 CK
      unfold pan
      go_wp2
      first | exact FIN.out | exact ⟨rfl, FIN.out⟩
    | ok y =>
      obtain ⟨x, s, d⟩ := y
      have hd1 := HR.out x s d rfl
      go_enter Tryz.func57, Tryz.ntmps57
      go_wp2_with fail
      refine (CK.out).mono ?_; rintro e w3 ⟨S3, rfl, R3, hs⟩
      have hS : S3.deep = S.deep + 1 := R3.deep
      let S4 : Sr := { S3 with deep := S.deep }
      obtain ⟨R4, o4⟩ := R3.r.set (S' := S4) 5 (.int .i64 (S.deep : Int)) rfl rfl rfl rfl rfl rfl rfl (Nat.le_refl _) R3.r.le (show S.deep ≤ 100000 by omega)
      obtain ⟨w4, e4, R4, o4⟩ : ∃ w4, w3.setCell ⟨g, 5, none⟩ (.int .i64 (S.deep : Int)) = w4 ∧ RdAt B g w4 S4 ∧ Ofr g none w3 w4 := ⟨_, rfl, R4, o4⟩
      have c5 : w3.cell? ⟨g, 5, none⟩ = some (.int .i64 ((S.deep : Int) + 1)) := by have := R3.r.c5; rw [hS] at this; simpa using this
      have q5 := R3.r.cells.frozen 5
      have FIN : Hid (RdSt B g F S w x d S4 w4 ∧ S4.ws = s) := Lib.hid ⟨⟨R4, ST.out.trans (R3.s.trans ⟨rfl, rfl, rfl, rfl, rfl, .refl _ _, o4.grow⟩), rfl, by
        show S3.great = _
        rw [R3.great]
        show ((S.great || decide (100 < S.deep + 1)) || decide (100 < S.deep + 1 + (d - 1))) = _
        have e9 : S.deep + 1 + (d - 1) = S.deep + d := by omega
        rw [e9]
        by_cases h1 : 100 < S.deep + 1
        · have : 100 < S.deep + d := by omega
          simp [h1, this]
        · simp [h1], R3.N, R3.cnt, R3.gb, fun p hp => (R3.ls p hp).imp id (fun h => h.mono ST.out.fr.size)⟩, hs⟩
      have hq := Lib.hid (show rt S.dn.N.length x = rt S.N.length x from rfl)
      clear R3 hs R4 o4 CK
      have hw4 : (S.deep : Int) + 1 - 1 = (S.deep : Int) := by omega
      rw [hq.out]
      obtain ⟨z, hz⟩ : ∃ z, Hid (rt S.N.length x = z) := ⟨_, Lib.hid rfl⟩
      rw [hz.out]
      go_wp2
      go_ret
      exact ⟨S4, by rw [hz.out]; rfl, FIN.out⟩
  · rw [hg] at b6 e2
    simp only [Bool.false_or, Bool.true_or] at e2
    cases r with
    | error k =>
      go_enter Tryz.func57, Tryz.ntmps57
      go_wp2_with fail
      refine (CK.out).mono ?_; rintro e w3 he
      obtain ⟨rfl, o3⟩ := he
      have FIN : Hid (RdP B g F S w (.error k) 0 (pan (S.W.length - k)) w3) := Lib.hid (rd_er ST.out ⟨rfl, o3⟩)
      have hW := Lib.hid (show S.dn.W = S.W from rfl)
      rw [hW.out]
      clear o3 CK
      unfold pan
      go_wp2
      first | exact FIN.out | exact ⟨rfl, FIN.out⟩
    | ok y =>
      obtain ⟨x, s, d⟩ := y
      have hd1 := HR.out x s d rfl
      go_enter Tryz.func57, Tryz.ntmps57
      go_wp2_with fail
      refine (CK.out).mono ?_; rintro e w3 ⟨S3, rfl, R3, hs⟩
      have hS : S3.deep = S.deep + 1 := R3.deep
      let S4 : Sr := { S3 with deep := S.deep }
      obtain ⟨R4, o4⟩ := R3.r.set (S' := S4) 5 (.int .i64 (S.deep : Int)) rfl rfl rfl rfl rfl rfl rfl (Nat.le_refl _) R3.r.le (show S.deep ≤ 100000 by omega)
      obtain ⟨w4, e4, R4, o4⟩ : ∃ w4, w3.setCell ⟨g, 5, none⟩ (.int .i64 (S.deep : Int)) = w4 ∧ RdAt B g w4 S4 ∧ Ofr g none w3 w4 := ⟨_, rfl, R4, o4⟩
      have c5 : w3.cell? ⟨g, 5, none⟩ = some (.int .i64 ((S.deep : Int) + 1)) := by have := R3.r.c5; rw [hS] at this; simpa using this
      have q5 := R3.r.cells.frozen 5
      have FIN : Hid (RdSt B g F S w x d S4 w4 ∧ S4.ws = s) := Lib.hid ⟨⟨R4, ST.out.trans (R3.s.trans ⟨rfl, rfl, rfl, rfl, rfl, .refl _ _, o4.grow⟩), rfl, by
        show S3.great = _
        rw [R3.great]
        show ((S.great || decide (100 < S.deep + 1)) || decide (100 < S.deep + 1 + (d - 1))) = _
        have e9 : S.deep + 1 + (d - 1) = S.deep + d := by omega
        rw [e9]
        by_cases h1 : 100 < S.deep + 1
        · have : 100 < S.deep + d := by omega
          simp [h1, this]
        · simp [h1], R3.N, R3.cnt, R3.gb, fun p hp => (R3.ls p hp).imp id (fun h => h.mono ST.out.fr.size)⟩, hs⟩
      have hq := Lib.hid (show rt S.dn.N.length x = rt S.N.length x from rfl)
      clear R3 hs R4 o4 CK
      have hw4 : (S.deep : Int) + 1 - 1 = (S.deep : Int) := by omega
      rw [hq.out]
      obtain ⟨z, hz⟩ : ∃ z, Hid (rt S.N.length x = z) := ⟨_, Lib.hid rfl⟩
      rw [hz.out]
      go_wp2
      go_ret
      exact ⟨S4, by rw [hz.out]; rfl, FIN.out⟩
set_option maxHeartbeats 4000000 in
theorem within_T {B g : Nat} {F : Nat → Nd → List NdR} {w : World} {S : Sr} (h : RdAt B g w S) (hd : S.deep ≤ 20000) (r : Rr) (hr : ∀ x s d, r = .ok (x, s, d) → 1 ≤ d) (C : ∀ w1, RdAt B g w1 S.dn → Calls Tryz.prog 58 #[.pointer (some ⟨g, 0, none⟩)] w1 (RdP B g F S.dn w1 r 1)) :
    Calls Tryz.prog 57 #[.pointer (some ⟨g, 0, none⟩), .func (.func 58) #[.pointer (some ⟨g, 0, none⟩)] #[]] w (RdP B g F S w r 0) := by
  have hdz : (S.deep : Int) ≤ 20000 := by omega
  let S1 : Sr := { S with deep := S.deep + 1 }
  obtain ⟨R1, o1⟩ := h.set (S' := S1) 5 (.int .i64 ((S.deep : Int) + 1)) rfl rfl rfl rfl rfl rfl rfl (Nat.le_refl _) h.le (show S.deep + 1 ≤ 100000 by omega)
  obtain ⟨w1, e1, R1, o1⟩ : ∃ w1, w.setCell ⟨g, 5, none⟩ (.int .i64 ((S.deep : Int) + 1)) = w1 ∧ RdAt B g w1 S1 ∧ Ofr g none w w1 := ⟨_, rfl, R1, o1⟩
  obtain ⟨R2, o2⟩ := R1.set (S' := S.dn) 6 (.bool (S.great || decide (100 < S.deep + 1))) rfl rfl rfl rfl rfl rfl rfl (Nat.le_refl _) R1.le (show S.deep + 1 ≤ 100000 by omega)
  obtain ⟨w2, e2, R2, o2⟩ : ∃ w2, w1.setCell ⟨g, 6, none⟩ (.bool (S.great || decide (100 < S.deep + 1))) = w2 ∧ RdAt B g w2 S.dn ∧ Ofr g none w1 w2 := ⟨_, rfl, R2, o2⟩
  have ST := Lib.hid (show Stp g S S.dn w w2 from ⟨rfl, rfl, rfl, rfl, rfl, .refl _ _, (o1.trans o2 (.refl _ _)).grow⟩)
  have CK := Lib.hid (C w2 R2)
  have a5 := h.c5
  have f5 := h.cells.frozen 5
  have b5 : w1.cell? ⟨g, 5, none⟩ = some (.int .i64 ((S.deep : Int) + 1)) := R1.c5
  have b6 : w1.cell? ⟨g, 6, none⟩ = some (.bool S.great) := R1.c6
  have g6 := R1.cells.frozen 6
  have gd : decide ((100 : Int) < (S.deep : Int) + 1) = decide (100 < S.deep + 1) := by rw [decide_eq_decide]; omega
  have HR := Lib.hid hr
  clear h C R1 R2 o1 o2 hr
  cases hg : S.great
  · rw [hg] at b6 e2
    simp only [Bool.false_or, Bool.true_or] at e2
    have e2' : w1.setCell ⟨g, 6, none⟩ (.bool (decide ((100 : Int) < (S.deep : Int) + 1))) = w2 := by rw [gd]; exact e2
    cases r with
    | error k =>
      go_enter Tryz.func57, Tryz.ntmps57
      go_wp2_with fail
      refine (CK.out).mono ?_; rintro e w3 he
      obtain ⟨rfl, o3⟩ := he
      have FIN : Hid (RdP B g F S w (.error k) 0 (pan (S.W.length - k)) w3) := Lib.hid (rd_er ST.out ⟨rfl, o3⟩)
      have hW := Lib.hid (show S.dn.W = S.W from rfl)
      rw [hW.out]
      clear o3 CK
      unfold pan
      go_wp2
      first | exact FIN.out | exact ⟨rfl, FIN.out⟩
    | ok y =>
      obtain ⟨x, s, d⟩ := y
      have hd1 := HR.out x s d rfl
      go_enter Tryz.func57, Tryz.ntmps57
      go_wp2_with fail
      refine (CK.out).mono ?_; rintro e w3 ⟨S3, rfl, R3, hs⟩
      have hS : S3.deep = S.deep + 1 := R3.deep
      let S4 : Sr := { S3 with deep := S.deep }
      obtain ⟨R4, o4⟩ := R3.r.set (S' := S4) 5 (.int .i64 (S.deep : Int)) rfl rfl rfl rfl rfl rfl rfl (Nat.le_refl _) R3.r.le (show S.deep ≤ 100000 by omega)
      obtain ⟨w4, e4, R4, o4⟩ : ∃ w4, w3.setCell ⟨g, 5, none⟩ (.int .i64 (S.deep : Int)) = w4 ∧ RdAt B g w4 S4 ∧ Ofr g none w3 w4 := ⟨_, rfl, R4, o4⟩
      have c5 : w3.cell? ⟨g, 5, none⟩ = some (.int .i64 ((S.deep : Int) + 1)) := by have := R3.r.c5; rw [hS] at this; simpa using this
      have q5 := R3.r.cells.frozen 5
      have FIN : Hid (RdSt B g F S w x d S4 w4 ∧ S4.ws = s) := Lib.hid ⟨⟨R4, ST.out.trans (R3.s.trans ⟨rfl, rfl, rfl, rfl, rfl, .refl _ _, o4.grow⟩), rfl, by
        show S3.great = _
        rw [R3.great]
        show ((S.great || decide (100 < S.deep + 1)) || decide (100 < S.deep + 1 + (d - 1))) = _
        have e9 : S.deep + 1 + (d - 1) = S.deep + d := by omega
        rw [e9]
        by_cases h1 : 100 < S.deep + 1
        · have : 100 < S.deep + d := by omega
          simp [h1, this]
        · simp [h1], R3.N, R3.cnt, R3.gb, fun p hp => (R3.ls p hp).imp id (fun h => h.mono ST.out.fr.size)⟩, hs⟩
      have hq := Lib.hid (show rt S.dn.N.length x = rt S.N.length x from rfl)
      clear R3 hs R4 o4 CK
      have hw4 : (S.deep : Int) + 1 - 1 = (S.deep : Int) := by omega
      rw [hq.out]
      obtain ⟨z, hz⟩ : ∃ z, Hid (rt S.N.length x = z) := ⟨_, Lib.hid rfl⟩
      rw [hz.out]
      go_wp2
      go_ret
      exact ⟨S4, by rw [hz.out]; rfl, FIN.out⟩
  · rw [hg] at b6 e2
    simp only [Bool.false_or, Bool.true_or] at e2
    cases r with
    | error k =>
      go_enter Tryz.func57, Tryz.ntmps57
      go_wp2_with fail
      refine (CK.out).mono ?_; rintro e w3 he
      obtain ⟨rfl, o3⟩ := he
      have FIN : Hid (RdP B g F S w (.error k) 0 (pan (S.W.length - k)) w3) := Lib.hid (rd_er ST.out ⟨rfl, o3⟩)
      have hW := Lib.hid (show S.dn.W = S.W from rfl)
      rw [hW.out]
      clear o3 CK
      unfold pan
      go_wp2
      first | exact FIN.out | exact ⟨rfl, FIN.out⟩
    | ok y =>
      obtain ⟨x, s, d⟩ := y
      have hd1 := HR.out x s d rfl
      go_enter Tryz.func57, Tryz.ntmps57
      go_wp2_with fail
      refine (CK.out).mono ?_; rintro e w3 ⟨S3, rfl, R3, hs⟩
      have hS : S3.deep = S.deep + 1 := R3.deep
      let S4 : Sr := { S3 with deep := S.deep }
      obtain ⟨R4, o4⟩ := R3.r.set (S' := S4) 5 (.int .i64 (S.deep : Int)) rfl rfl rfl rfl rfl rfl rfl (Nat.le_refl _) R3.r.le (show S.deep ≤ 100000 by omega)
      obtain ⟨w4, e4, R4, o4⟩ : ∃ w4, w3.setCell ⟨g, 5, none⟩ (.int .i64 (S.deep : Int)) = w4 ∧ RdAt B g w4 S4 ∧ Ofr g none w3 w4 := ⟨_, rfl, R4, o4⟩
      have c5 : w3.cell? ⟨g, 5, none⟩ = some (.int .i64 ((S.deep : Int) + 1)) := by have := R3.r.c5; rw [hS] at this; simpa using this
      have q5 := R3.r.cells.frozen 5
      have FIN : Hid (RdSt B g F S w x d S4 w4 ∧ S4.ws = s) := Lib.hid ⟨⟨R4, ST.out.trans (R3.s.trans ⟨rfl, rfl, rfl, rfl, rfl, .refl _ _, o4.grow⟩), rfl, by
        show S3.great = _
        rw [R3.great]
        show ((S.great || decide (100 < S.deep + 1)) || decide (100 < S.deep + 1 + (d - 1))) = _
        have e9 : S.deep + 1 + (d - 1) = S.deep + d := by omega
        rw [e9]
        by_cases h1 : 100 < S.deep + 1
        · have : 100 < S.deep + d := by omega
          simp [h1, this]
        · simp [h1], R3.N, R3.cnt, R3.gb, fun p hp => (R3.ls p hp).imp id (fun h => h.mono ST.out.fr.size)⟩, hs⟩
      have hq := Lib.hid (show rt S.dn.N.length x = rt S.N.length x from rfl)
      clear R3 hs R4 o4 CK
      have hw4 : (S.deep : Int) + 1 - 1 = (S.deep : Int) := by omega
      rw [hq.out]
      obtain ⟨z, hz⟩ : ∃ z, Hid (rt S.N.length x = z) := ⟨_, Lib.hid rfl⟩
      rw [hz.out]
      go_wp2
      go_ret
      exact ⟨S4, by rw [hz.out]; rfl, FIN.out⟩
/-- what a part asks of the reader's state -/
structure Pre (n m : Nat) (S : Sr) : Prop where
  n : S.ws.length < n
  N : S.N.length ≤ S.k
  d : S.deep ≤ 2 * S.k + m
theorem Pre.st {B g : Nat} {F : Nat → Nd → List NdR} {S S' : Sr} {w w' : World} {x : Nd} {d n m : Nat} (p : Pre n m S) (h : RdSt B g F S w x d S' w') : Pre n m S' :=
  ⟨Nat.lt_of_le_of_lt h.lenW p.n, by have := h.gb; have := p.N; omega, by rw [h.deep]; have := p.d; have := h.mono; omega⟩
theorem Pre.up {S : Sr} {n m : Nat} (p : Pre n m S) : Pre n m S.up :=
  ⟨by have := p.n; rw [ws_len] at this ⊢; show S.W.length - (S.k + 1) < n; omega, by have := p.N; show S.N.length ≤ S.k + 1; omega, by have := p.d; show S.deep ≤ 2 * (S.k + 1) + m; omega⟩
/-- behind a word that is taken there are fewer -/
theorem Pre.up1 {S : Sr} {n m : Nat} (p : Pre (n + 1) m S) (h : S.k < S.W.length) (m' : Nat) (hm : m ≤ m' + 2) : Pre n m' S.up :=
  ⟨by have := p.n; rw [ws_len] at this ⊢; show S.W.length - (S.k + 1) < n; omega, by have := p.N; show S.N.length ≤ S.k + 1; omega, by have := p.d; show S.deep ≤ 2 * (S.k + 1) + m'; omega⟩
theorem Pre.dn {S : Sr} {n m : Nat} (p : Pre n m S) (m' : Nat) (hm : m + 1 ≤ m') : Pre n m' S.dn := ⟨p.n, p.N, by have := p.d; show S.deep + 1 ≤ 2 * S.k + m'; omega⟩
theorem Pre.deep {S : Sr} {n m : Nat} (p : Pre n m S) {B g : Nat} {w : World} (h : RdAt B g w S) (hm : m ≤ 10) : S.deep ≤ 20000 := by have := p.d; have := few_of h; omega
theorem RdSt.of_up {B g : Nat} {F : Nat → Nd → List NdR} {S S' : Sr} {w w1 w' : World} {x : Nd} {d : Nat} (s : Stp g S S.up w w1) (h : RdSt B g F S.up w1 x d S' w') : RdSt B g F S w x d S' w' :=
  ⟨h.r, s.trans h.s, h.deep, h.great, h.N, h.cnt, by have := h.gb; have e : S.up.k = S.k + 1 := rfl; have e2 : S.up.N = S.N := rfl; rw [e, e2] at this; omega, fun p hp => (h.ls p hp).imp id (fun h => h.mono s.fr.size)⟩
theorem rt_z (n : Nat) (x : Nd) : rt n x = ((n + cnt x - 1 : Nat) : Int) := rfl
/-- two parts, an operation between: its node behind them -/
theorem RdSt.bin {B g : Nat} {S S1 S2 : Sr} {w w1 w2 w3 : World} {x y : Nd} {d d2 : Nat} {nv : Value} (o : Int) (h1 : RdSt B g fl S w x d S1 w1) (su : Stp g S1 S1.up w1 w2) (h2 : RdSt B g fl S1.up w2 y d2 S2 w3) {w4 : World}
    (R : RdAt B g w4 (S2.app ⟨6, rt S.N.length x, rt S1.N.length y, -1, [], o, []⟩ (.slice none 0 0) nv)) (T : Stp g S2 (S2.app ⟨6, rt S.N.length x, rt S1.N.length y, -1, [], o, []⟩ (.slice none 0 0) nv) w3 w4) :
    RdSt B g fl S w (.bin o x y) (max d d2) (S2.app ⟨6, rt S.N.length x, rt S1.N.length y, -1, [], o, []⟩ (.slice none 0 0) nv) w4 := by
  have e1 : S1.up.N = S1.N := rfl
  have e2 : S1.up.k = S1.k + 1 := rfl
  have e3 : S1.up.deep = S1.deep := rfl
  have e4 : S1.up.great = S1.great := rfl
  refine ⟨R, (h1.s.trans su).trans (h2.s.trans T), ?_, ?_, ?_, ?_, ?_, ((h1.ls.trans (S2 := S2) h2.ls ((h1.s.trans su).fr.size)).app (newB_nil w))⟩
  · show S2.deep = _
    rw [h2.deep, e3, h1.deep]
  · show S2.great = _
    rw [h2.great, e4, h1.great, e3, h1.deep]
    by_cases a : 100 < S.deep + d <;> by_cases b : 100 < S.deep + d2 <;> simp [a, b] <;> omega
  · show (S2.N ++ [_]).map Prod.fst = _
    rw [List.map_append, h2.N, e1, h1.N, h1.cnt]
    simp [fl]
  · show (S2.N ++ [_]).length = _
    rw [List.length_append, h2.cnt, e1, h1.cnt]
    simp only [Mm.cnt, List.length_cons, List.length_nil]
    omega
  · show (S2.N ++ [_]).length + _ ≤ _ + S2.k
    have g1 := h1.gb
    have g2 := h2.gb
    rw [e1, e2] at g2
    simp
    omega
theorem rt_bin {S S1 S2 : Sr} {B g : Nat} {w w1 w2 w3 : World} {x y : Nd} {d d2 : Nat} (o : Int) (h1 : RdSt B g fl S w x d S1 w1) (h2 : RdSt B g fl S1.up w2 y d2 S2 w3) : (S2.N.length : Int) = rt S.N.length (.bin o x y) := by
  have e1 : S1.up.N = S1.N := rfl
  rw [rt_z, h2.cnt, e1, h1.cnt]
  simp only [cnt]
  omega
set_option maxHeartbeats 8000000 in
theorem chain_S {B g n : Nat} (I : World → Prop) (hI : ∀ w w' r, I w → Ofr g r w w' → (∀ k, r = some k → ∃ S, RdAt B g w S ∧ S.nv.ownBlock = some k) → I w')
    (CF : ∀ S w, RdAt B g w S → I w → Pre n 3 S → Calls Tryz.prog 102 #[(.pointer (some ⟨g, 0, none⟩))] w (RdP B g fl S w (grE .P S.ws) 0))
    {S : Sr} {w : World} (h : RdAt B g w S) (hi : I w) (p : Pre n 3 S) : Calls Tryz.prog 101 #[.pointer (some ⟨g, 0, none⟩), (.func (.func 102) #[.pointer (some ⟨g, 0, none⟩)] #[]), .int .i64 1] w (RdP B g fl S w (grE .S S.ws) 0) := by
  have hII : ∀ (S : Sr) (w w' : World), RdAt B g w S → I w → Ofr g S.nv.ownBlock w w' → I w' := fun S w w' r i o => hI w w' _ i o (fun k hk => ⟨S, r, hk⟩)
  have CP := Lib.hid (CF S w h hi p)
  have HH := Lib.hid h
  have HI := Lib.hid hi
  have HP := Lib.hid p
  have HIf := Lib.hid hII
  have CFh := Lib.hid CF
  clear h hi p hI CF hII
  have EQ : Hid (grE .S S.ws = bnd (grE .P S.ws) fun a s d => grE (.Sl a d) s) := Lib.hid (grE_S _)
  rw [EQ.out]
  clear EQ
  cases hr : grE .P S.ws with
  | error k =>
    rw [hr] at CP
    rw [bnd_er rfl]
    go_enter Tryz.func101, Tryz.ntmps101
    go_wp2_with fail
    refine (CP.out).mono ?_; rintro e w3 he
    obtain ⟨rfl, o3⟩ := he
    have FIN : Hid (RdP B g fl S w (.error k) 0 (pan (S.W.length - k)) w3) := Lib.hid ⟨rfl, o3⟩
    clear o3 CP
    unfold pan
    go_wp2
    first | exact FIN.out | exact ⟨rfl, FIN.out⟩
  | ok y =>
    obtain ⟨x, s, d⟩ := y
    rw [hr] at CP
    rw [bnd_is rfl]
    go_enter Tryz.func101, Tryz.ntmps101
    go_wp2_with fail
    refine (CP.out).mono ?_; rintro e w1 ⟨S1, rfl, R1, hs⟩
    replace R1 := Lib.hid R1
    have I1 := Lib.hid (HIf.out _ _ _ HH.out HI.out R1.out.s.fr)
    clear CP HI
    go_wp2_with fail
    go_loopw [7] (fun v wr => ∃ (x1 : Nd) (d1 : Nat) (S1 : Sr), v = .int .i64 (rt S.N.length x1) ∧ Hid (grE (.Sl x1 d1) S1.ws = grE (.Sl x d) s) ∧ Hid (RdSt B g fl S w x1 d1 S1 wr) ∧ Hid (I wr)) (fun _ wr => 4000 - (intOf ((wr.cell? ⟨g, 1, none⟩).getD undef)).toNat)
    case atStart => exact ⟨x, d, S1, rfl, Lib.hid (by rw [hs]), by simpa using R1, I1⟩
    case round =>
      obtain ⟨x1, d1, S1', rfl, HE, HR, HIr⟩ := hrel
      clear R1 I1 hs
      have CO := Lib.hid (oper_any HR.out.r 1)
      rw [opF_1] at CO
      rw [← HE.out, grE_Sl]
      clear HE
      obtain ⟨z, hz⟩ : ∃ z, Hid (rt S.N.length x1 = z) := ⟨_, Lib.hid rfl⟩
      rw [hz.out]
      have hk1 := Lib.hid (few_of HR.out.r)
      have hm : intOf ((wr.cell? ⟨g, 1, none⟩).getD undef) = (S1'.k : Int) := by rw [HR.out.r.c1]; rfl
      rw [hm]
      clear hm
      cases ho : opS S1'.ws with
      | none =>
        rw [ho] at CO
        go_wp2_with fail
        refine (CO.out).mono ?_; rintro e w2 ⟨rfl, R2, S2⟩
        have FIN : Hid (RdSt B g fl S w x1 d1 S1' w2) := Lib.hid ⟨R2, HR.out.s.trans S2, HR.out.deep, HR.out.great, HR.out.N, HR.out.cnt, HR.out.gb, HR.out.ls⟩
        clear R2 S2 CO
        go_wp2
        go_ret
        exact ⟨S1', by rw [hz.out]; rfl, FIN.out, rfl⟩
      | some o =>
        rw [ho] at CO
        have P1 := HP.out.st HR.out
        simp only
        cases hr2 : grE .P S1'.ws.tail with
        | error k =>
          rw [bnd_er rfl]
          go_wp2_with fail
          refine (CO.out).mono ?_; rintro e w2 ⟨rfl, R2, S2, hup, hlt⟩
          have I2 := HIf.out _ _ _ HR.out.r HIr.out S2.fr
          have C2 := Lib.hid (CFh.out S1'.up w2 R2 I2 P1.up)
          rw [hup] at C2
          have R2 := Lib.hid R2
          have S2 := Lib.hid S2
          have I2 := Lib.hid I2
          clear CO HIr P1
          rw [hr2] at C2
          go_wp2_with fail
          refine (C2.out).mono ?_; rintro e w3 he
          have FIN : Hid (RdP B g fl S w (.error k) 0 e w3) := Lib.hid (rd_er (HR.out.s.trans S2.out) he)
          obtain ⟨rfl, o3⟩ := he
          clear o3 C2
          unfold pan at FIN ⊢
          go_wp2
          first | exact FIN.out | exact ⟨rfl, FIN.out⟩
        | ok y =>
          obtain ⟨y, s2, d2⟩ := y
          rw [bnd_is rfl]
          go_wp2_with fail
          refine (CO.out).mono ?_; rintro e w2 ⟨rfl, R2, S2, hup, hlt⟩
          have I2 := HIf.out _ _ _ HR.out.r HIr.out S2.fr
          have C2 := Lib.hid (CFh.out S1'.up w2 R2 I2 P1.up)
          rw [hup] at C2
          have R2 := Lib.hid R2
          have S2 := Lib.hid S2
          have I2 := Lib.hid I2
          clear CO HIr P1
          rw [hr2] at C2
          go_wp2_with fail
          refine (C2.out).mono ?_; rintro e w3 ⟨S3, rfl, R3, hs3⟩
          have R3 := Lib.hid R3
          have I3 := Lib.hid (HIf.out _ _ _ R2.out I2.out R3.out.s.fr)
          have hN : S3.N.length < 5000 := by
            have a := (HP.out.st HR.out).N
            have b := R3.out.gb
            have e1 : S1'.up.N = S1'.N := rfl
            have e2 : S1'.up.k = S1'.k + 1 := rfl
            rw [e1, e2] at b
            have := few_of R3.out.r
            omega
          have CB := Lib.hid (both_any R3.out.r o z (rt S1'.N.length y) hN)
          have hup2 : S1'.up.N.length = S1'.N.length := rfl
          rw [hup2]
          obtain ⟨z2, hz2⟩ : ∃ z2, Hid (rt S1'.N.length y = z2) := ⟨_, Lib.hid rfl⟩
          rw [hz2.out] at CB ⊢
          clear hup2 C2 hN
          go_wp2_with fail
          refine (CB.out).mono ?_; rintro e w4 ⟨nv, rfl, R4, S4⟩
          have HX := Lib.hid (RdSt.bin o HR.out S2.out R3.out (nv := nv) (w4 := w4) (by rw [hz.out, hz2.out]; exact R4) (by rw [hz.out, hz2.out]; exact S4))
          have I4 := Lib.hid (HIf.out _ _ _ R3.out.r I3.out S4.fr)
          have hv := Lib.hid (rt_bin o HR.out R3.out)
          have hk4 : S1'.k + 1 ≤ S3.k := R3.out.mono
          have hk5 := Lib.hid (few_of R4)
          clear R4 S4 CB
          go_wp2
          refine ⟨⟨.bin o x1 y, max d1 d2, _, by rw [hv.out], Lib.hid (by rw [← hs3]; rfl), HX, I4⟩, ?_⟩
          have hm : intOf ((w4.cell? ⟨g, 1, none⟩).getD undef) = (S3.k : Int) := by rw [HX.out.r.c1]; rfl
          rw [hm]
          have a5 : S3.k ≤ 4000 := hk5.out
          have a1 := hk1.out
          omega
set_option maxHeartbeats 8000000 in
theorem chain_P {B g n : Nat} {pb : Nat} (I : World → Prop) (hI : ∀ w w' r, I w → Ofr g r w w' → (∀ k, r = some k → ∃ S, RdAt B g w S ∧ S.nv.ownBlock = some k) → I w')
    (CF : ∀ S w, RdAt B g w S → I w → Pre n 3 S → Calls Tryz.prog 103 #[(.pointer (some ⟨pb, 0, none⟩))] w (RdP B g fl S w (grE .V S.ws) 0))
    {S : Sr} {w : World} (h : RdAt B g w S) (hi : I w) (p : Pre n 3 S) : Calls Tryz.prog 101 #[.pointer (some ⟨g, 0, none⟩), (.func (.func 103) #[] #[.pointer (some ⟨pb, 0, none⟩)]), .int .i64 2] w (RdP B g fl S w (grE .P S.ws) 0) := by
  have hII : ∀ (S : Sr) (w w' : World), RdAt B g w S → I w → Ofr g S.nv.ownBlock w w' → I w' := fun S w w' r i o => hI w w' _ i o (fun k hk => ⟨S, r, hk⟩)
  have CP := Lib.hid (CF S w h hi p)
  have HH := Lib.hid h
  have HI := Lib.hid hi
  have HP := Lib.hid p
  have HIf := Lib.hid hII
  have CFh := Lib.hid CF
  clear h hi p hI CF hII
  have EQ : Hid (grE .P S.ws = bnd (grE .V S.ws) fun a s d => grE (.Pl a d) s) := Lib.hid (grE_P _)
  rw [EQ.out]
  clear EQ
  cases hr : grE .V S.ws with
  | error k =>
    rw [hr] at CP
    rw [bnd_er rfl]
    go_enter Tryz.func101, Tryz.ntmps101
    go_wp2_with fail
    refine (CP.out).mono ?_; rintro e w3 he
    obtain ⟨rfl, o3⟩ := he
    have FIN : Hid (RdP B g fl S w (.error k) 0 (pan (S.W.length - k)) w3) := Lib.hid ⟨rfl, o3⟩
    clear o3 CP
    unfold pan
    go_wp2
    first | exact FIN.out | exact ⟨rfl, FIN.out⟩
  | ok y =>
    obtain ⟨x, s, d⟩ := y
    rw [hr] at CP
    rw [bnd_is rfl]
    go_enter Tryz.func101, Tryz.ntmps101
    go_wp2_with fail
    refine (CP.out).mono ?_; rintro e w1 ⟨S1, rfl, R1, hs⟩
    replace R1 := Lib.hid R1
    have I1 := Lib.hid (HIf.out _ _ _ HH.out HI.out R1.out.s.fr)
    clear CP HI
    go_wp2_with fail
    go_loopw [7] (fun v wr => ∃ (x1 : Nd) (d1 : Nat) (S1 : Sr), v = .int .i64 (rt S.N.length x1) ∧ Hid (grE (.Pl x1 d1) S1.ws = grE (.Pl x d) s) ∧ Hid (RdSt B g fl S w x1 d1 S1 wr) ∧ Hid (I wr)) (fun _ wr => 4000 - (intOf ((wr.cell? ⟨g, 1, none⟩).getD undef)).toNat)
    case atStart => exact ⟨x, d, S1, rfl, Lib.hid (by rw [hs]), by simpa using R1, I1⟩
    case round =>
      obtain ⟨x1, d1, S1', rfl, HE, HR, HIr⟩ := hrel
      clear R1 I1 hs
      have CO := Lib.hid (oper_any HR.out.r 2)
      rw [opF_2] at CO
      rw [← HE.out, grE_Pl]
      clear HE
      obtain ⟨z, hz⟩ : ∃ z, Hid (rt S.N.length x1 = z) := ⟨_, Lib.hid rfl⟩
      rw [hz.out]
      have hk1 := Lib.hid (few_of HR.out.r)
      have hm : intOf ((wr.cell? ⟨g, 1, none⟩).getD undef) = (S1'.k : Int) := by rw [HR.out.r.c1]; rfl
      rw [hm]
      clear hm
      cases ho : opP S1'.ws with
      | none =>
        rw [ho] at CO
        go_wp2_with fail
        refine (CO.out).mono ?_; rintro e w2 ⟨rfl, R2, S2⟩
        have FIN : Hid (RdSt B g fl S w x1 d1 S1' w2) := Lib.hid ⟨R2, HR.out.s.trans S2, HR.out.deep, HR.out.great, HR.out.N, HR.out.cnt, HR.out.gb, HR.out.ls⟩
        clear R2 S2 CO
        go_wp2
        go_ret
        exact ⟨S1', by rw [hz.out]; rfl, FIN.out, rfl⟩
      | some o =>
        rw [ho] at CO
        have P1 := HP.out.st HR.out
        simp only
        cases hr2 : grE .V S1'.ws.tail with
        | error k =>
          rw [bnd_er rfl]
          go_wp2_with fail
          refine (CO.out).mono ?_; rintro e w2 ⟨rfl, R2, S2, hup, hlt⟩
          have I2 := HIf.out _ _ _ HR.out.r HIr.out S2.fr
          have C2 := Lib.hid (CFh.out S1'.up w2 R2 I2 P1.up)
          rw [hup] at C2
          have R2 := Lib.hid R2
          have S2 := Lib.hid S2
          have I2 := Lib.hid I2
          clear CO HIr P1
          rw [hr2] at C2
          go_wp2_with fail
          refine (C2.out).mono ?_; rintro e w3 he
          have FIN : Hid (RdP B g fl S w (.error k) 0 e w3) := Lib.hid (rd_er (HR.out.s.trans S2.out) he)
          obtain ⟨rfl, o3⟩ := he
          clear o3 C2
          unfold pan at FIN ⊢
          go_wp2
          first | exact FIN.out | exact ⟨rfl, FIN.out⟩
        | ok y =>
          obtain ⟨y, s2, d2⟩ := y
          rw [bnd_is rfl]
          go_wp2_with fail
          refine (CO.out).mono ?_; rintro e w2 ⟨rfl, R2, S2, hup, hlt⟩
          have I2 := HIf.out _ _ _ HR.out.r HIr.out S2.fr
          have C2 := Lib.hid (CFh.out S1'.up w2 R2 I2 P1.up)
          rw [hup] at C2
          have R2 := Lib.hid R2
          have S2 := Lib.hid S2
          have I2 := Lib.hid I2
          clear CO HIr P1
          rw [hr2] at C2
          go_wp2_with fail
          refine (C2.out).mono ?_; rintro e w3 ⟨S3, rfl, R3, hs3⟩
          have R3 := Lib.hid R3
          have I3 := Lib.hid (HIf.out _ _ _ R2.out I2.out R3.out.s.fr)
          have hN : S3.N.length < 5000 := by
            have a := (HP.out.st HR.out).N
            have b := R3.out.gb
            have e1 : S1'.up.N = S1'.N := rfl
            have e2 : S1'.up.k = S1'.k + 1 := rfl
            rw [e1, e2] at b
            have := few_of R3.out.r
            omega
          have CB := Lib.hid (both_any R3.out.r o z (rt S1'.N.length y) hN)
          have hup2 : S1'.up.N.length = S1'.N.length := rfl
          rw [hup2]
          obtain ⟨z2, hz2⟩ : ∃ z2, Hid (rt S1'.N.length y = z2) := ⟨_, Lib.hid rfl⟩
          rw [hz2.out] at CB ⊢
          clear hup2 C2 hN
          go_wp2_with fail
          refine (CB.out).mono ?_; rintro e w4 ⟨nv, rfl, R4, S4⟩
          have HX := Lib.hid (RdSt.bin o HR.out S2.out R3.out (nv := nv) (w4 := w4) (by rw [hz.out, hz2.out]; exact R4) (by rw [hz.out, hz2.out]; exact S4))
          have I4 := Lib.hid (HIf.out _ _ _ R3.out.r I3.out S4.fr)
          have hv := Lib.hid (rt_bin o HR.out R3.out)
          have hk4 : S1'.k + 1 ≤ S3.k := R3.out.mono
          have hk5 := Lib.hid (few_of R4)
          clear R4 S4 CB
          go_wp2
          refine ⟨⟨.bin o x1 y, max d1 d2, _, by rw [hv.out], Lib.hid (by rw [← hs3]; rfl), HX, I4⟩, ?_⟩
          have hm : intOf ((w4.cell? ⟨g, 1, none⟩).getD undef) = (S3.k : Int) := by rw [HX.out.r.c1]; rfl
          rw [hm]
          have a5 : S3.k ≤ 4000 := hk5.out
          have a1 := hk1.out
          omega
theorem RdSt.pre {B g : Nat} {F : Nat → Nd → List NdR} {S S1 S' : Sr} {w w1 w' : World} {x : Nd} {d : Nat} (s : Stp g S S1 w w1) (e1 : S1.N = S.N) (e2 : S.k ≤ S1.k) (e3 : S1.deep = S.deep) (e4 : S1.great = S.great) (h : RdSt B g F S1 w1 x d S' w') : RdSt B g F S w x d S' w' :=
  ⟨h.r, s.trans h.s, h.deep.trans e3, by rw [h.great, e3, e4], by rw [h.N, e1], by rw [h.cnt, e1], by have := h.gb; rw [e1] at this; omega, fun p hp => (h.ls p hp).imp (fun h => by rw [e1] at h; exact h) (fun h => h.mono s.fr.size)⟩
theorem RdP.of {B g : Nat} {F : Nat → Nd → List NdR} {S : Sr} {w w1 w' : World} {r : Rr} {c : Nat} {e : Ending} (b : Below w.heap.size w w1) (h : RdP B g F S w1 r c e w') : RdP B g F S w r c e w' := by
  unfold RdP at h ⊢
  cases r with
  | error k => exact ⟨h.1, (Ofr.of b).trans h.2 (.refl _ _)⟩
  | ok y =>
    obtain ⟨S', h1, h2, h3⟩ := h
    exact ⟨S', h1, h2.pre (.of b) rfl (Nat.le_refl _) rfl rfl, h3⟩
theorem dn_gr (S : Sr) : S.dn.deep ≤ 100 ∨ S.dn.great = true := by
  show S.deep + 1 ≤ 100 ∨ (S.great || decide (100 < S.deep + 1)) = true
  by_cases h : 100 < S.deep + 1
  · right; simp [h]
  · left; omega
def CalV (B g n : Nat) : Prop := ∀ (S : Sr) (w : World), RdAt B g w S → Pre n 4 S → (S.deep ≤ 100 ∨ S.great = true) → Calls Tryz.prog 104 #[.pointer (some ⟨g, 0, none⟩)] w (RdP B g fl S w (grE .V S.ws) 1)
def CalE (B g n : Nat) : Prop := ∀ (S : Sr) (w : World), RdAt B g w S → Pre n 3 S → Calls Tryz.prog 90 #[.pointer (some ⟨g, 0, none⟩)] w (RdP B g fl S w (grE .E S.ws) 1)
/-- a cell that holds the reader -/
def PbI (g pb : Nat) (w : World) : Prop := HasB w pb 41 [.pointer (some ⟨g, 0, none⟩)] ∧ pb ≠ g
theorem PbI.keep {B g pb : Nat} : ∀ w w' r, PbI g pb w → Ofr g r w w' → (∀ k, r = some k → ∃ S, RdAt B g w S ∧ S.nv.ownBlock = some k) → PbI g pb w' := fun w w' r i o hr => by
  refine ⟨i.1.ofr o i.2 ?_, i.2⟩
  intro e
  obtain ⟨S, R, hS⟩ := hr pb e.symm
  exact own_neB R.nodes i.1 (by decide) hS.symm
theorem pb_new (g : Nat) (w : World) (hg : g < w.heap.size) : ∃ w1, w.alloc (.cells #[.pointer (some ⟨g, 0, none⟩)] 41) = w1 ∧ Hid (PbI g w.heap.size w1) ∧ Hid (Below w.heap.size w w1) :=
  ⟨_, rfl, Lib.hid ⟨HasB.new w _ _, by omega⟩, Lib.hid (bel_al (Below.refl _ _) _)⟩
set_option maxHeartbeats 2000000 in
theorem prod1_any {B g n pb : Nat} (CV : Hid (CalV B g n)) {S : Sr} {w : World} (h : RdAt B g w S) (i : PbI g pb w) (p : Pre n 3 S) : Calls Tryz.prog 103 #[.pointer (some ⟨pb, 0, none⟩)] w (RdP B g fl S w (grE .V S.ws) 0) := by
  have hmf : ∀ (fn : Fn) (first cap : Array Value) (w : World), (Instr.makeFunc fn first cap).run Tryz.prog w = .ok (.func fn first cap) w := fun _ _ _ _ => rfl
  have CW := Lib.hid (within_V (F := fl) h (p.deep h (by omega)) (grE .V S.ws) (fun x s d e => dV1 e) (fun w1 r1 => CV.out S.dn w1 r1 (p.dn 4 (by omega)) (dn_gr S)))
  have c0 := i.1.cell 0
  simp only [List.getElem?_cons_zero] at c0
  clear h i p CV
  cases hr : grE .V S.ws with
  | error k =>
    rw [hr] at CW
    go_enter Tryz.func103, Tryz.ntmps103
    go_wp2_with fail
    refine (CW.out).mono ?_; rintro e w3 he
    obtain ⟨rfl, o3⟩ := he
    have FIN : Hid (RdP B g fl S w (.error k) 0 (pan (S.W.length - k)) w3) := Lib.hid ⟨rfl, o3⟩
    clear o3 CW
    unfold pan at FIN ⊢
    go_wp2
    first | exact FIN.out | exact ⟨rfl, FIN.out⟩
  | ok y =>
    obtain ⟨x, s, d⟩ := y
    rw [hr] at CW
    go_enter Tryz.func103, Tryz.ntmps103
    go_wp2_with fail
    refine (CW.out).mono ?_; rintro e w3 ⟨S3, rfl, R3, hs⟩
    have FIN := Lib.hid (And.intro R3 hs)
    clear R3 hs CW
    go_wp2
    go_ret
    exact ⟨S3, rfl, FIN.out⟩
set_option maxHeartbeats 2000000 in
theorem prod_any {B g n : Nat} (CV : Hid (CalV B g n)) {S : Sr} {w : World} (h : RdAt B g w S) (p : Pre n 3 S) : Calls Tryz.prog 102 #[.pointer (some ⟨g, 0, none⟩)] w (RdP B g fl S w (grE .P S.ws) 0) := by
  have hmf : ∀ (fn : Fn) (first cap : Array Value) (w : World), (Instr.makeFunc fn first cap).run Tryz.prog w = .ok (.func fn first cap) w := fun _ _ _ _ => rfl
  obtain ⟨w1, e1, I1, B1⟩ := pb_new g w h.cells.lt
  have CC := Lib.hid (chain_P (n := n) (pb := w.heap.size) (PbI g w.heap.size) (PbI.keep (B := B)) (fun S w h i p => prod1_any CV h i p) (h.ofr B1.out) I1.out p)
  have c0 := I1.out.1.cell 0
  simp only [List.getElem?_cons_zero] at c0
  clear h p CV I1
  cases hr : grE .P S.ws with
  | error k =>
    rw [hr] at CC
    go_enter Tryz.func102, Tryz.ntmps102
    go_wp2_with fail
    refine (CC.out).mono ?_; rintro e w3 he
    have FIN := Lib.hid (RdP.of B1.out he)
    obtain ⟨rfl, o3⟩ := he
    clear o3 CC
    unfold pan at FIN ⊢
    go_wp2
    first | exact FIN.out | exact ⟨rfl, FIN.out⟩
  | ok y =>
    obtain ⟨x, s, d⟩ := y
    rw [hr] at CC
    go_enter Tryz.func102, Tryz.ntmps102
    go_wp2_with fail
    refine (CC.out).mono ?_; rintro e w3 ⟨S3, rfl, R3, hs⟩
    have FIN := Lib.hid (And.intro (R3.pre (.of B1.out) rfl (Nat.le_refl _) rfl rfl) hs)
    clear R3 hs CC
    go_wp2
    go_ret
    exact ⟨S3, rfl, FIN.out⟩
set_option maxHeartbeats 2000000 in
theorem sum_any' {B g n : Nat} (CV : Hid (CalV B g n)) {S : Sr} {w : World} (h : RdAt B g w S) (p : Pre n 3 S) : Calls Tryz.prog 97 #[.pointer (some ⟨g, 0, none⟩)] w (RdP B g fl S w (grE .S S.ws) 0) := by
  have hmf : ∀ (fn : Fn) (first cap : Array Value) (w : World), (Instr.makeFunc fn first cap).run Tryz.prog w = .ok (.func fn first cap) w := fun _ _ _ _ => rfl
  have CC := Lib.hid (chain_S (n := n) (fun _ => True) (fun _ _ _ _ _ _ => trivial) (fun S w h i p => prod_any CV h p) h trivial p)
  clear h p CV
  cases hr : grE .S S.ws with
  | error k =>
    rw [hr] at CC
    go_enter Tryz.func97, Tryz.ntmps97
    go_wp2_with fail
    refine (CC.out).mono ?_; rintro e w3 he
    have FIN := Lib.hid he
    obtain ⟨rfl, o3⟩ := he
    clear o3 CC
    unfold pan at FIN ⊢
    go_wp2
    first | exact FIN.out | exact ⟨rfl, FIN.out⟩
  | ok y =>
    obtain ⟨x, s, d⟩ := y
    rw [hr] at CC
    go_enter Tryz.func97, Tryz.ntmps97
    go_wp2_with fail
    refine (CC.out).mono ?_; rintro e w3 ⟨S3, rfl, R3, hs⟩
    have FIN := Lib.hid (And.intro R3 hs)
    clear R3 hs CC
    go_wp2
    go_ret
    exact ⟨S3, rfl, FIN.out⟩
set_option maxHeartbeats 4000000 in
theorem expr_any {B g n : Nat} (CV : Hid (CalV B g n)) : CalE B g n := by
  intro S w h p
  have CC := Lib.hid (sum_any' CV h p)
  have HH := Lib.hid h
  have HP := Lib.hid p
  clear h p
  rw [grE_E]
  cases hr : grE .S S.ws with
  | error k =>
    rw [hr] at CC
    rw [bnd_er rfl]
    go_enter Tryz.func90, Tryz.ntmps90
    go_wp2_with fail
    refine (CC.out).mono ?_; rintro e w3 he
    have FIN : Hid (RdP B g fl S w (.error k) 1 e w3) := Lib.hid he
    obtain ⟨rfl, o3⟩ := he
    clear o3 CC
    unfold pan at FIN ⊢
    go_wp2
    first | exact FIN.out | exact ⟨rfl, FIN.out⟩
  | ok y =>
    obtain ⟨x, s, d⟩ := y
    rw [hr] at CC
    rw [bnd_is rfl]
    have CO := Lib.hid (fun w1 (S1 : Sr) (R : RdAt B g w1 S1) => oper_any R 0)
    simp only [opF_0] at CO
    cases ho : opE s with
    | none =>
      simp only
      go_enter Tryz.func90, Tryz.ntmps90
      go_wp2_with fail
      refine (CC.out).mono ?_; rintro e w1 ⟨S1, rfl, R1, hs⟩
      have C2 := CO.out _ S1 R1.r
      rw [hs, ho] at C2
      have C2 := Lib.hid C2
      have R1 := Lib.hid R1
      clear CC CO
      obtain ⟨z, hz⟩ : ∃ z, Hid (rt S.N.length x = z) := ⟨_, Lib.hid rfl⟩
      rw [hz.out]
      go_wp2_with fail
      refine (C2.out).mono ?_; rintro e w2 ⟨rfl, R2, S2⟩
      have FIN : Hid (RdSt B g fl S w x d S1 w2) := Lib.hid ⟨R2, R1.out.s.trans S2, R1.out.deep, R1.out.great, R1.out.N, R1.out.cnt, R1.out.gb, R1.out.ls⟩
      clear R2 S2 C2
      go_wp2
      go_ret
      exact ⟨S1, by rw [hz.out]; rfl, FIN.out, hs⟩
    | some o =>
      simp only
      cases hr2 : grE .S s.tail with
      | error k =>
        rw [bnd_er rfl]
        go_enter Tryz.func90, Tryz.ntmps90
        go_wp2_with fail
        refine (CC.out).mono ?_; rintro e w1 ⟨S1, rfl, R1, hs⟩
        have C2 := CO.out _ S1 R1.r
        rw [hs, ho] at C2
        have C2 := Lib.hid C2
        have R1 := Lib.hid R1
        clear CC CO
        go_wp2_with fail
        refine (C2.out).mono ?_; rintro e w2 ⟨rfl, R2, S2, hup, hlt⟩
        have C3 := sum_any' CV R2 (HP.out.st R1.out).up
        rw [hup, hs, hr2] at C3
        have C3 := Lib.hid C3
        have S2 := Lib.hid S2
        clear C2
        go_wp2_with fail
        refine (C3.out).mono ?_; rintro e w3 he
        have FIN : Hid (RdP B g fl S w (.error k) 1 e w3) := Lib.hid (rd_er (R1.out.s.trans S2.out) he)
        obtain ⟨rfl, o3⟩ := he
        clear o3 C3
        unfold pan at FIN ⊢
        go_wp2
        first | exact FIN.out | exact ⟨rfl, FIN.out⟩
      | ok y =>
        obtain ⟨y, s2, d2⟩ := y
        rw [bnd_is rfl]
        go_enter Tryz.func90, Tryz.ntmps90
        go_wp2_with fail
        refine (CC.out).mono ?_; rintro e w1 ⟨S1, rfl, R1, hs⟩
        have C2 := CO.out _ S1 R1.r
        rw [hs, ho] at C2
        have C2 := Lib.hid C2
        have R1 := Lib.hid R1
        clear CC CO
        obtain ⟨z, hz⟩ : ∃ z, Hid (rt S.N.length x = z) := ⟨_, Lib.hid rfl⟩
        rw [hz.out]
        go_wp2_with fail
        refine (C2.out).mono ?_; rintro e w2 ⟨rfl, R2, S2, hup, hlt⟩
        have C3 := sum_any' CV R2 (HP.out.st R1.out).up
        rw [hup, hs, hr2] at C3
        have C3 := Lib.hid C3
        have S2 := Lib.hid S2
        clear C2
        go_wp2_with fail
        refine (C3.out).mono ?_; rintro e w3 ⟨S3, rfl, R3, hs3⟩
        have R3 := Lib.hid R3
        have hN : S3.N.length < 5000 := by
          have a := (HP.out.st R1.out).N
          have b := R3.out.gb
          have e1 : S1.up.N = S1.N := rfl
          have e2 : S1.up.k = S1.k + 1 := rfl
          rw [e1, e2] at b
          have := few_of R3.out.r
          omega
        have CB := Lib.hid (both_any R3.out.r o z (rt S1.N.length y) hN)
        have hup2 : S1.up.N.length = S1.N.length := rfl
        rw [hup2]
        obtain ⟨z2, hz2⟩ : ∃ z2, Hid (rt S1.N.length y = z2) := ⟨_, Lib.hid rfl⟩
        rw [hz2.out] at CB ⊢
        clear hup2 C3 hN
        go_wp2_with fail
        refine (CB.out).mono ?_; rintro e w4 ⟨nv, rfl, R4, S4⟩
        have HX := Lib.hid (RdSt.bin o R1.out S2.out R3.out (nv := nv) (w4 := w4) (by rw [hz.out, hz2.out]; exact R4) (by rw [hz.out, hz2.out]; exact S4))
        have hv := Lib.hid (rt_bin o R1.out R3.out)
        clear R4 S4 CB
        go_wp2
        go_ret
        exact ⟨_, by rw [← hv.out]; rfl, HX.out, hs3⟩
end Go.Proofs.YtkacplcilkogpaaGreatDoor.Mm
