/- A block's list of places, while it is made. -/
import Derived.Test.YtkacplcilkogpaaGreatDoorQPrsStm
namespace Go.Proofs.YtkacplcilkogpaaGreatDoor.Mm
open Go.ChangeShapes Go.WideShapes Go.ChangeAt Go.RowKit
set_option linter.unusedVariables false
set_option linter.unusedSimpArgs false
set_option maxRecDepth 10000

theorem RdP.of_up {B g : Nat} {F : Nat → Nd → List NdR} {S : Sr} {w w1 w' : World} {r : Rr} {c : Nat} {e : Ending} (s : Stp g S S.up w w1) (h : RdP B g F S.up w1 r c e w') : RdP B g F S w r c e w' := by
  unfold RdP at h ⊢
  cases r with
  | error k => exact ⟨h.1, s.fr.trans h.2 s.nw⟩
  | ok y =>
    obtain ⟨S', h1, h2, h3⟩ := h
    exact ⟨S', h1, h2.of_up s, h3⟩
theorem RdP.of_st {B g : Nat} {F : Nat → Nd → List NdR} {S : Sr} {w w1 w' : World} {r : Rr} {c : Nat} {e : Ending} (s : Stp g S S w w1) (h : RdP B g F S w1 r c e w') : RdP B g F S w r c e w' := by
  unfold RdP at h ⊢
  cases r with
  | error k => exact ⟨h.1, s.fr.trans h.2 s.nw⟩
  | ok y =>
    obtain ⟨S', h1, h2, h3⟩ := h
    exact ⟨S', h1, h2.pre s rfl (Nat.le_refl _) rfl rfl, h3⟩
theorem chg_eq1 (r : List Pc) (t : Bs) : (bnd (grE .E r) fun a s d => must [93] s fun s => must [61] s fun s => bnd (grE .E s) fun b s2 d2 => must [59] s2 fun s3 => .ok (.put t a b, s3, max d d2 + 1)) = (bnd (plaE r) fun a s d => bnd (givE s) fun b s2 d2 => .ok (.put t a b, s2, max d d2 + 1) : Rr) := by
  rw [bnd_must]
  unfold plaE givE
  congr 1
  funext a s d
  rw [must_bnd]
theorem chg_eq2 (r : List Pc) (t : Bs) : (must [61] r fun s => bnd (grE .E s) fun b s2 d2 => must [59] s2 fun s3 => .ok (.set t b, s3, d2 + 1)) = (bnd (givE r) fun b s2 d2 => .ok (.set t b, s2, d2 + 1) : Rr) := by
  unfold givE
  rw [must_bnd]
def CalT (B g n : Nat) : Prop := ∀ (S : Sr) (w : World), RdAt B g w S → Pre n 3 S → (S.deep ≤ 100 ∨ S.great = true) → Calls Tryz.prog 58 #[.pointer (some ⟨g, 0, none⟩)] w (RdP B g fl S w (grE .T S.ws) 1)
set_option maxHeartbeats 16000000 in
theorem stat_any {B g n : Nat} (CB : Hid (CalB B g n)) : CalT B g (n + 1) := by
  intro S w h p hgr
  have HH := Lib.hid h
  have HP := Lib.hid p
  have HG := Lib.hid hgr
  cases hws : S.ws with
  | nil =>
    have h1 : Hid (hdW [105, 102] S.ws = false) := Lib.hid (by rw [hws]; rfl)
    have h2 : Hid (hdW [119, 104, 105, 108, 101] S.ws = false) := Lib.hid (by rw [hws]; rfl)
    have h3 : Hid (hdW [111, 117, 116] S.ws = false) := Lib.hid (by rw [hws]; rfl)
    have h4 : Hid (hdW [101, 120, 105, 116] S.ws = false) := Lib.hid (by rw [hws]; rfl)
    have CC := Lib.hid (fun w' (r' : RdAt B g w' S) => change_no r' (by rw [hws]; rfl))
    rw [hws] at CC
    rw [grE_nil_T]
    clear h p hgr hws
    go_enter Tryz.func58, Tryz.ntmps58
    go_wp2_with fail
    have C1 := take_any HH.out [105, 102] ks_of
    rw [show hdW [105, 102] S.ws = false from h1.out] at C1
    simp only [Bool.false_eq_true, if_false, if_true] at C1
    replace C1 := Lib.hid C1
    go_wp2_with fail
    refine (C1.out).mono ?_; rintro e u1 ⟨rfl, R, T⟩
    have K1 := Lib.hid (And.intro R T)
    clear R T C1
    have C2 := take_any K1.out.1 [119, 104, 105, 108, 101] ks_of
    rw [show hdW [119, 104, 105, 108, 101] S.ws = false from h2.out] at C2
    simp only [Bool.false_eq_true, if_false, if_true] at C2
    replace C2 := Lib.hid C2
    go_wp2_with fail
    refine (C2.out).mono ?_; rintro e u2 ⟨rfl, R, T⟩
    have K2 := Lib.hid (And.intro R (K1.out.2.trans T))
    clear R T C2
    have C3 := take_any K2.out.1 [111, 117, 116] ks_of
    rw [show hdW [111, 117, 116] S.ws = false from h3.out] at C3
    simp only [Bool.false_eq_true, if_false, if_true] at C3
    replace C3 := Lib.hid C3
    go_wp2_with fail
    refine (C3.out).mono ?_; rintro e u3 ⟨rfl, R, T⟩
    have K3 := Lib.hid (And.intro R (K2.out.2.trans T))
    clear R T C3
    have C4 := take_any K3.out.1 [101, 120, 105, 116] ks_of
    rw [show hdW [101, 120, 105, 116] S.ws = false from h4.out] at C4
    simp only [Bool.false_eq_true, if_false, if_true] at C4
    replace C4 := Lib.hid C4
    go_wp2_with fail
    refine (C4.out).mono ?_; rintro e u4 ⟨rfl, R, T⟩
    have K4 := Lib.hid (And.intro R (K3.out.2.trans T))
    clear R T C4
    have CX := Lib.hid (CC.out _ K4.out.1)
    go_wp2_with fail
    refine (CX.out).mono ?_; rintro e w7 he
    have FIN : Hid (RdP B g fl S w (.error ([] : List Pc).length) 1 e w7) := Lib.hid (RdP.of_st K4.out.2 he)
    obtain ⟨rfl, o3⟩ := he
    clear o3 CX
    simp only [List.length_nil, List.length_cons] at FIN ⊢
    unfold pan at FIN ⊢
    go_wp2
    first | exact FIN.out | exact ⟨rfl, FIN.out⟩
  | cons q r =>
    have ok := h.wok1 hws
    obtain ⟨hlt, hup⟩ := up_cons hws h.le
    have hlt := Lib.hid hlt
    have hup := Lib.hid hup
    rw [grE_T]
    by_cases qi : isW [105, 102] q = true
    · rw [if_pos qi]
      have h1 : Hid (hdW [105, 102] S.ws = true) := Lib.hid (by rw [hdw_cons hws]; exact qi)
      have CC := Lib.hid (fun w' (r' : RdAt B g w' S.up) => branch_any CB r' (p.up1 hlt.out 1 (by omega)) (show S.up.deep ≤ 100 ∨ S.up.great = true from hgr))
      rw [hup.out] at CC
      clear h p hgr hws ok qi
      cases hr : (bnd (grE .E r) fun a s d => bnd (grE .B s) fun b s2 d2 => if hdW [101, 108, 115, 101] s2 then bnd (grE .B s2.tail) fun c s3 d3 => .ok (.ifel a b c, s3, max (max d d2) d3 + 1) else .ok (.ife a b, s2, max d d2 + 1) : Rr) with
      | error k =>
        go_enter Tryz.func58, Tryz.ntmps58
        go_wp2_with fail
        have C1 := take_any HH.out [105, 102] ks_of
        rw [show hdW [105, 102] S.ws = true from h1.out] at C1
        simp only [Bool.false_eq_true, if_false, if_true] at C1
        replace C1 := Lib.hid C1
        go_wp2_with fail
        refine (C1.out).mono ?_; rintro e u1 ⟨rfl, R, T⟩
        have K1 := Lib.hid (And.intro R T)
        clear R T C1
        have CX := Lib.hid (CC.out _ K1.out.1)
        rw [hr] at CX
        go_wp2_with fail
        refine (CX.out).mono ?_; rintro e w7 he
        have FIN : Hid (RdP B g fl S w (.error k) 1 e w7) := Lib.hid (RdP.of_up K1.out.2 he)
        obtain ⟨rfl, o3⟩ := he
        clear o3 CX
        unfold pan at FIN ⊢
        go_wp2
        first | exact FIN.out | exact ⟨rfl, FIN.out⟩
      | ok y =>
        obtain ⟨x, s, d⟩ := y
        go_enter Tryz.func58, Tryz.ntmps58
        go_wp2_with fail
        have C1 := take_any HH.out [105, 102] ks_of
        rw [show hdW [105, 102] S.ws = true from h1.out] at C1
        simp only [Bool.false_eq_true, if_false, if_true] at C1
        replace C1 := Lib.hid C1
        go_wp2_with fail
        refine (C1.out).mono ?_; rintro e u1 ⟨rfl, R, T⟩
        have K1 := Lib.hid (And.intro R T)
        clear R T C1
        have CX := Lib.hid (CC.out _ K1.out.1)
        rw [hr] at CX
        go_wp2_with fail
        refine (CX.out).mono ?_; rintro e w7 he
        have FIN := Lib.hid (RdP.of_up K1.out.2 he)
        obtain ⟨S7, rfl, R7, hs7⟩ := he
        clear R7 hs7 CX
        go_wp2
        go_ret
        exact FIN.out
    rw [if_neg qi]
    have h1 : Hid (hdW [105, 102] S.ws = false) := Lib.hid (by rw [hdw_cons hws]; simpa using qi)
    by_cases qw : isW [119, 104, 105, 108, 101] q = true
    · rw [if_pos qw]
      have h2 : Hid (hdW [119, 104, 105, 108, 101] S.ws = true) := Lib.hid (by rw [hdw_cons hws]; exact qw)
      have CC := Lib.hid (fun w' (r' : RdAt B g w' S.up) => loop_any CB r' (p.up1 hlt.out 1 (by omega)) (show S.up.deep ≤ 100 ∨ S.up.great = true from hgr))
      rw [hup.out] at CC
      clear h p hgr hws ok qi qw
      cases hr : (bnd (grE .E r) fun a s d => bnd (grE .B s) fun b s2 d2 => .ok (.whi a b, s2, max d d2 + 1) : Rr) with
      | error k =>
        go_enter Tryz.func58, Tryz.ntmps58
        go_wp2_with fail
        have C1 := take_any HH.out [105, 102] ks_of
        rw [show hdW [105, 102] S.ws = false from h1.out] at C1
        simp only [Bool.false_eq_true, if_false, if_true] at C1
        replace C1 := Lib.hid C1
        go_wp2_with fail
        refine (C1.out).mono ?_; rintro e u1 ⟨rfl, R, T⟩
        have K1 := Lib.hid (And.intro R T)
        clear R T C1
        have C2 := take_any K1.out.1 [119, 104, 105, 108, 101] ks_of
        rw [show hdW [119, 104, 105, 108, 101] S.ws = true from h2.out] at C2
        simp only [Bool.false_eq_true, if_false, if_true] at C2
        replace C2 := Lib.hid C2
        go_wp2_with fail
        refine (C2.out).mono ?_; rintro e u2 ⟨rfl, R, T⟩
        have K2 := Lib.hid (And.intro R (K1.out.2.trans T))
        clear R T C2
        have CX := Lib.hid (CC.out _ K2.out.1)
        rw [hr] at CX
        go_wp2_with fail
        refine (CX.out).mono ?_; rintro e w7 he
        have FIN : Hid (RdP B g fl S w (.error k) 1 e w7) := Lib.hid (RdP.of_up K2.out.2 he)
        obtain ⟨rfl, o3⟩ := he
        clear o3 CX
        unfold pan at FIN ⊢
        go_wp2
        first | exact FIN.out | exact ⟨rfl, FIN.out⟩
      | ok y =>
        obtain ⟨x, s, d⟩ := y
        go_enter Tryz.func58, Tryz.ntmps58
        go_wp2_with fail
        have C1 := take_any HH.out [105, 102] ks_of
        rw [show hdW [105, 102] S.ws = false from h1.out] at C1
        simp only [Bool.false_eq_true, if_false, if_true] at C1
        replace C1 := Lib.hid C1
        go_wp2_with fail
        refine (C1.out).mono ?_; rintro e u1 ⟨rfl, R, T⟩
        have K1 := Lib.hid (And.intro R T)
        clear R T C1
        have C2 := take_any K1.out.1 [119, 104, 105, 108, 101] ks_of
        rw [show hdW [119, 104, 105, 108, 101] S.ws = true from h2.out] at C2
        simp only [Bool.false_eq_true, if_false, if_true] at C2
        replace C2 := Lib.hid C2
        go_wp2_with fail
        refine (C2.out).mono ?_; rintro e u2 ⟨rfl, R, T⟩
        have K2 := Lib.hid (And.intro R (K1.out.2.trans T))
        clear R T C2
        have CX := Lib.hid (CC.out _ K2.out.1)
        rw [hr] at CX
        go_wp2_with fail
        refine (CX.out).mono ?_; rintro e w7 he
        have FIN := Lib.hid (RdP.of_up K2.out.2 he)
        obtain ⟨S7, rfl, R7, hs7⟩ := he
        clear R7 hs7 CX
        go_wp2
        go_ret
        exact FIN.out
    rw [if_neg qw]
    have h2 : Hid (hdW [119, 104, 105, 108, 101] S.ws = false) := Lib.hid (by rw [hdw_cons hws]; simpa using qw)
    by_cases qo : isW [111, 117, 116] q = true
    · rw [if_pos qo]
      have h3 : Hid (hdW [111, 117, 116] S.ws = true) := Lib.hid (by rw [hdw_cons hws]; exact qo)
      have CC := Lib.hid (fun w' (r' : RdAt B g w' S.up) => tell_out r' (p.up1 hlt.out 1 (by omega)) (show S.up.deep ≤ 100 ∨ S.up.great = true from hgr))
      rw [hup.out] at CC
      clear h p hgr hws ok qi qw qo
      cases hr : (bnd (grE .E r) fun a s d => must [59] s fun s => .ok (.out a, s, d + 1) : Rr) with
      | error k =>
        go_enter Tryz.func58, Tryz.ntmps58
        go_wp2_with fail
        have C1 := take_any HH.out [105, 102] ks_of
        rw [show hdW [105, 102] S.ws = false from h1.out] at C1
        simp only [Bool.false_eq_true, if_false, if_true] at C1
        replace C1 := Lib.hid C1
        go_wp2_with fail
        refine (C1.out).mono ?_; rintro e u1 ⟨rfl, R, T⟩
        have K1 := Lib.hid (And.intro R T)
        clear R T C1
        have C2 := take_any K1.out.1 [119, 104, 105, 108, 101] ks_of
        rw [show hdW [119, 104, 105, 108, 101] S.ws = false from h2.out] at C2
        simp only [Bool.false_eq_true, if_false, if_true] at C2
        replace C2 := Lib.hid C2
        go_wp2_with fail
        refine (C2.out).mono ?_; rintro e u2 ⟨rfl, R, T⟩
        have K2 := Lib.hid (And.intro R (K1.out.2.trans T))
        clear R T C2
        have C3 := take_any K2.out.1 [111, 117, 116] ks_of
        rw [show hdW [111, 117, 116] S.ws = true from h3.out] at C3
        simp only [Bool.false_eq_true, if_false, if_true] at C3
        replace C3 := Lib.hid C3
        go_wp2_with fail
        refine (C3.out).mono ?_; rintro e u3 ⟨rfl, R, T⟩
        have K3 := Lib.hid (And.intro R (K2.out.2.trans T))
        clear R T C3
        have CX := Lib.hid (CC.out _ K3.out.1)
        rw [hr] at CX
        go_wp2_with fail
        refine (CX.out).mono ?_; rintro e w7 he
        have FIN : Hid (RdP B g fl S w (.error k) 1 e w7) := Lib.hid (RdP.of_up K3.out.2 he)
        obtain ⟨rfl, o3⟩ := he
        clear o3 CX
        unfold pan at FIN ⊢
        go_wp2
        first | exact FIN.out | exact ⟨rfl, FIN.out⟩
      | ok y =>
        obtain ⟨x, s, d⟩ := y
        go_enter Tryz.func58, Tryz.ntmps58
        go_wp2_with fail
        have C1 := take_any HH.out [105, 102] ks_of
        rw [show hdW [105, 102] S.ws = false from h1.out] at C1
        simp only [Bool.false_eq_true, if_false, if_true] at C1
        replace C1 := Lib.hid C1
        go_wp2_with fail
        refine (C1.out).mono ?_; rintro e u1 ⟨rfl, R, T⟩
        have K1 := Lib.hid (And.intro R T)
        clear R T C1
        have C2 := take_any K1.out.1 [119, 104, 105, 108, 101] ks_of
        rw [show hdW [119, 104, 105, 108, 101] S.ws = false from h2.out] at C2
        simp only [Bool.false_eq_true, if_false, if_true] at C2
        replace C2 := Lib.hid C2
        go_wp2_with fail
        refine (C2.out).mono ?_; rintro e u2 ⟨rfl, R, T⟩
        have K2 := Lib.hid (And.intro R (K1.out.2.trans T))
        clear R T C2
        have C3 := take_any K2.out.1 [111, 117, 116] ks_of
        rw [show hdW [111, 117, 116] S.ws = true from h3.out] at C3
        simp only [Bool.false_eq_true, if_false, if_true] at C3
        replace C3 := Lib.hid C3
        go_wp2_with fail
        refine (C3.out).mono ?_; rintro e u3 ⟨rfl, R, T⟩
        have K3 := Lib.hid (And.intro R (K2.out.2.trans T))
        clear R T C3
        have CX := Lib.hid (CC.out _ K3.out.1)
        rw [hr] at CX
        go_wp2_with fail
        refine (CX.out).mono ?_; rintro e w7 he
        have FIN := Lib.hid (RdP.of_up K3.out.2 he)
        obtain ⟨S7, rfl, R7, hs7⟩ := he
        clear R7 hs7 CX
        go_wp2
        go_ret
        exact FIN.out
    rw [if_neg qo]
    have h3 : Hid (hdW [111, 117, 116] S.ws = false) := Lib.hid (by rw [hdw_cons hws]; simpa using qo)
    by_cases qx : isW [101, 120, 105, 116] q = true
    · rw [if_pos qx]
      have h4 : Hid (hdW [101, 120, 105, 116] S.ws = true) := Lib.hid (by rw [hdw_cons hws]; exact qx)
      have CC := Lib.hid (fun w' (r' : RdAt B g w' S.up) => tell_exit r' (p.up1 hlt.out 1 (by omega)) (show S.up.deep ≤ 100 ∨ S.up.great = true from hgr))
      rw [hup.out] at CC
      clear h p hgr hws ok qi qw qo qx
      cases hr : (bnd (grE .E r) fun a s d => must [59] s fun s => .ok (.exi a, s, d + 1) : Rr) with
      | error k =>
        go_enter Tryz.func58, Tryz.ntmps58
        go_wp2_with fail
        have C1 := take_any HH.out [105, 102] ks_of
        rw [show hdW [105, 102] S.ws = false from h1.out] at C1
        simp only [Bool.false_eq_true, if_false, if_true] at C1
        replace C1 := Lib.hid C1
        go_wp2_with fail
        refine (C1.out).mono ?_; rintro e u1 ⟨rfl, R, T⟩
        have K1 := Lib.hid (And.intro R T)
        clear R T C1
        have C2 := take_any K1.out.1 [119, 104, 105, 108, 101] ks_of
        rw [show hdW [119, 104, 105, 108, 101] S.ws = false from h2.out] at C2
        simp only [Bool.false_eq_true, if_false, if_true] at C2
        replace C2 := Lib.hid C2
        go_wp2_with fail
        refine (C2.out).mono ?_; rintro e u2 ⟨rfl, R, T⟩
        have K2 := Lib.hid (And.intro R (K1.out.2.trans T))
        clear R T C2
        have C3 := take_any K2.out.1 [111, 117, 116] ks_of
        rw [show hdW [111, 117, 116] S.ws = false from h3.out] at C3
        simp only [Bool.false_eq_true, if_false, if_true] at C3
        replace C3 := Lib.hid C3
        go_wp2_with fail
        refine (C3.out).mono ?_; rintro e u3 ⟨rfl, R, T⟩
        have K3 := Lib.hid (And.intro R (K2.out.2.trans T))
        clear R T C3
        have C4 := take_any K3.out.1 [101, 120, 105, 116] ks_of
        rw [show hdW [101, 120, 105, 116] S.ws = true from h4.out] at C4
        simp only [Bool.false_eq_true, if_false, if_true] at C4
        replace C4 := Lib.hid C4
        go_wp2_with fail
        refine (C4.out).mono ?_; rintro e u4 ⟨rfl, R, T⟩
        have K4 := Lib.hid (And.intro R (K3.out.2.trans T))
        clear R T C4
        have CX := Lib.hid (CC.out _ K4.out.1)
        rw [hr] at CX
        go_wp2_with fail
        refine (CX.out).mono ?_; rintro e w7 he
        have FIN : Hid (RdP B g fl S w (.error k) 1 e w7) := Lib.hid (RdP.of_up K4.out.2 he)
        obtain ⟨rfl, o3⟩ := he
        clear o3 CX
        unfold pan at FIN ⊢
        go_wp2
        first | exact FIN.out | exact ⟨rfl, FIN.out⟩
      | ok y =>
        obtain ⟨x, s, d⟩ := y
        go_enter Tryz.func58, Tryz.ntmps58
        go_wp2_with fail
        have C1 := take_any HH.out [105, 102] ks_of
        rw [show hdW [105, 102] S.ws = false from h1.out] at C1
        simp only [Bool.false_eq_true, if_false, if_true] at C1
        replace C1 := Lib.hid C1
        go_wp2_with fail
        refine (C1.out).mono ?_; rintro e u1 ⟨rfl, R, T⟩
        have K1 := Lib.hid (And.intro R T)
        clear R T C1
        have C2 := take_any K1.out.1 [119, 104, 105, 108, 101] ks_of
        rw [show hdW [119, 104, 105, 108, 101] S.ws = false from h2.out] at C2
        simp only [Bool.false_eq_true, if_false, if_true] at C2
        replace C2 := Lib.hid C2
        go_wp2_with fail
        refine (C2.out).mono ?_; rintro e u2 ⟨rfl, R, T⟩
        have K2 := Lib.hid (And.intro R (K1.out.2.trans T))
        clear R T C2
        have C3 := take_any K2.out.1 [111, 117, 116] ks_of
        rw [show hdW [111, 117, 116] S.ws = false from h3.out] at C3
        simp only [Bool.false_eq_true, if_false, if_true] at C3
        replace C3 := Lib.hid C3
        go_wp2_with fail
        refine (C3.out).mono ?_; rintro e u3 ⟨rfl, R, T⟩
        have K3 := Lib.hid (And.intro R (K2.out.2.trans T))
        clear R T C3
        have C4 := take_any K3.out.1 [101, 120, 105, 116] ks_of
        rw [show hdW [101, 120, 105, 116] S.ws = true from h4.out] at C4
        simp only [Bool.false_eq_true, if_false, if_true] at C4
        replace C4 := Lib.hid C4
        go_wp2_with fail
        refine (C4.out).mono ?_; rintro e u4 ⟨rfl, R, T⟩
        have K4 := Lib.hid (And.intro R (K3.out.2.trans T))
        clear R T C4
        have CX := Lib.hid (CC.out _ K4.out.1)
        rw [hr] at CX
        go_wp2_with fail
        refine (CX.out).mono ?_; rintro e w7 he
        have FIN := Lib.hid (RdP.of_up K4.out.2 he)
        obtain ⟨S7, rfl, R7, hs7⟩ := he
        clear R7 hs7 CX
        go_wp2
        go_ret
        exact FIN.out
    rw [if_neg qx]
    have h4 : Hid (hdW [101, 120, 105, 116] S.ws = false) := Lib.hid (by rw [hdw_cons hws]; simpa using qx)
    by_cases q110 : q.1 = 110
    · rw [if_pos q110, chg_eq1, chg_eq2]
      have CC := Lib.hid (fun w' (r' : RdAt B g w' S) => change_any r' p hgr hws q110)
      clear h p hgr hws ok qi qw qo qx q110
      cases hr : (if hdW [91] r then bnd (plaE r.tail) fun a s d => bnd (givE s) fun b s2 d2 => .ok (.put q.2.1 a b, s2, max d d2 + 1) else bnd (givE r) fun b s2 d2 => .ok (.set q.2.1 b, s2, d2 + 1) : Rr) with
      | error k =>
        go_enter Tryz.func58, Tryz.ntmps58
        go_wp2_with fail
        have C1 := take_any HH.out [105, 102] ks_of
        rw [show hdW [105, 102] S.ws = false from h1.out] at C1
        simp only [Bool.false_eq_true, if_false, if_true] at C1
        replace C1 := Lib.hid C1
        go_wp2_with fail
        refine (C1.out).mono ?_; rintro e u1 ⟨rfl, R, T⟩
        have K1 := Lib.hid (And.intro R T)
        clear R T C1
        have C2 := take_any K1.out.1 [119, 104, 105, 108, 101] ks_of
        rw [show hdW [119, 104, 105, 108, 101] S.ws = false from h2.out] at C2
        simp only [Bool.false_eq_true, if_false, if_true] at C2
        replace C2 := Lib.hid C2
        go_wp2_with fail
        refine (C2.out).mono ?_; rintro e u2 ⟨rfl, R, T⟩
        have K2 := Lib.hid (And.intro R (K1.out.2.trans T))
        clear R T C2
        have C3 := take_any K2.out.1 [111, 117, 116] ks_of
        rw [show hdW [111, 117, 116] S.ws = false from h3.out] at C3
        simp only [Bool.false_eq_true, if_false, if_true] at C3
        replace C3 := Lib.hid C3
        go_wp2_with fail
        refine (C3.out).mono ?_; rintro e u3 ⟨rfl, R, T⟩
        have K3 := Lib.hid (And.intro R (K2.out.2.trans T))
        clear R T C3
        have C4 := take_any K3.out.1 [101, 120, 105, 116] ks_of
        rw [show hdW [101, 120, 105, 116] S.ws = false from h4.out] at C4
        simp only [Bool.false_eq_true, if_false, if_true] at C4
        replace C4 := Lib.hid C4
        go_wp2_with fail
        refine (C4.out).mono ?_; rintro e u4 ⟨rfl, R, T⟩
        have K4 := Lib.hid (And.intro R (K3.out.2.trans T))
        clear R T C4
        have CX := Lib.hid (CC.out _ K4.out.1)
        rw [hr] at CX
        go_wp2_with fail
        refine (CX.out).mono ?_; rintro e w7 he
        have FIN : Hid (RdP B g fl S w (.error k) 1 e w7) := Lib.hid (RdP.of_st K4.out.2 he)
        obtain ⟨rfl, o3⟩ := he
        clear o3 CX
        unfold pan at FIN ⊢
        go_wp2
        first | exact FIN.out | exact ⟨rfl, FIN.out⟩
      | ok y =>
        obtain ⟨x, s, d⟩ := y
        go_enter Tryz.func58, Tryz.ntmps58
        go_wp2_with fail
        have C1 := take_any HH.out [105, 102] ks_of
        rw [show hdW [105, 102] S.ws = false from h1.out] at C1
        simp only [Bool.false_eq_true, if_false, if_true] at C1
        replace C1 := Lib.hid C1
        go_wp2_with fail
        refine (C1.out).mono ?_; rintro e u1 ⟨rfl, R, T⟩
        have K1 := Lib.hid (And.intro R T)
        clear R T C1
        have C2 := take_any K1.out.1 [119, 104, 105, 108, 101] ks_of
        rw [show hdW [119, 104, 105, 108, 101] S.ws = false from h2.out] at C2
        simp only [Bool.false_eq_true, if_false, if_true] at C2
        replace C2 := Lib.hid C2
        go_wp2_with fail
        refine (C2.out).mono ?_; rintro e u2 ⟨rfl, R, T⟩
        have K2 := Lib.hid (And.intro R (K1.out.2.trans T))
        clear R T C2
        have C3 := take_any K2.out.1 [111, 117, 116] ks_of
        rw [show hdW [111, 117, 116] S.ws = false from h3.out] at C3
        simp only [Bool.false_eq_true, if_false, if_true] at C3
        replace C3 := Lib.hid C3
        go_wp2_with fail
        refine (C3.out).mono ?_; rintro e u3 ⟨rfl, R, T⟩
        have K3 := Lib.hid (And.intro R (K2.out.2.trans T))
        clear R T C3
        have C4 := take_any K3.out.1 [101, 120, 105, 116] ks_of
        rw [show hdW [101, 120, 105, 116] S.ws = false from h4.out] at C4
        simp only [Bool.false_eq_true, if_false, if_true] at C4
        replace C4 := Lib.hid C4
        go_wp2_with fail
        refine (C4.out).mono ?_; rintro e u4 ⟨rfl, R, T⟩
        have K4 := Lib.hid (And.intro R (K3.out.2.trans T))
        clear R T C4
        have CX := Lib.hid (CC.out _ K4.out.1)
        rw [hr] at CX
        go_wp2_with fail
        refine (CX.out).mono ?_; rintro e w7 he
        have FIN := Lib.hid (RdP.of_st K4.out.2 he)
        obtain ⟨S7, rfl, R7, hs7⟩ := he
        clear R7 hs7 CX
        go_wp2
        go_ret
        exact FIN.out
    rw [if_neg q110]
    have CC := Lib.hid (fun w' (r' : RdAt B g w' S) => change_no r' (hdk_no hws q110))
    rw [hws] at CC
    clear h p hgr hws ok qi qw qo qx q110
    go_enter Tryz.func58, Tryz.ntmps58
    go_wp2_with fail
    have C1 := take_any HH.out [105, 102] ks_of
    rw [show hdW [105, 102] S.ws = false from h1.out] at C1
    simp only [Bool.false_eq_true, if_false, if_true] at C1
    replace C1 := Lib.hid C1
    go_wp2_with fail
    refine (C1.out).mono ?_; rintro e u1 ⟨rfl, R, T⟩
    have K1 := Lib.hid (And.intro R T)
    clear R T C1
    have C2 := take_any K1.out.1 [119, 104, 105, 108, 101] ks_of
    rw [show hdW [119, 104, 105, 108, 101] S.ws = false from h2.out] at C2
    simp only [Bool.false_eq_true, if_false, if_true] at C2
    replace C2 := Lib.hid C2
    go_wp2_with fail
    refine (C2.out).mono ?_; rintro e u2 ⟨rfl, R, T⟩
    have K2 := Lib.hid (And.intro R (K1.out.2.trans T))
    clear R T C2
    have C3 := take_any K2.out.1 [111, 117, 116] ks_of
    rw [show hdW [111, 117, 116] S.ws = false from h3.out] at C3
    simp only [Bool.false_eq_true, if_false, if_true] at C3
    replace C3 := Lib.hid C3
    go_wp2_with fail
    refine (C3.out).mono ?_; rintro e u3 ⟨rfl, R, T⟩
    have K3 := Lib.hid (And.intro R (K2.out.2.trans T))
    clear R T C3
    have C4 := take_any K3.out.1 [101, 120, 105, 116] ks_of
    rw [show hdW [101, 120, 105, 116] S.ws = false from h4.out] at C4
    simp only [Bool.false_eq_true, if_false, if_true] at C4
    replace C4 := Lib.hid C4
    go_wp2_with fail
    refine (C4.out).mono ?_; rintro e u4 ⟨rfl, R, T⟩
    have K4 := Lib.hid (And.intro R (K3.out.2.trans T))
    clear R T C4
    have CX := Lib.hid (CC.out _ K4.out.1)
    go_wp2_with fail
    refine (CX.out).mono ?_; rintro e w7 he
    have FIN : Hid (RdP B g fl S w (.error (q :: r).length) 1 e w7) := Lib.hid (RdP.of_st K4.out.2 he)
    obtain ⟨rfl, o3⟩ := he
    clear o3 CX
    simp only [List.length_nil, List.length_cons] at FIN ⊢
    unfold pan at FIN ⊢
    go_wp2
    first | exact FIN.out | exact ⟨rfl, FIN.out⟩
structure LsI (B : Nat) (w0 w : World) (S : Sr) (l : List Int) (lv : Value) : Prop where
  own : w.ownsRow B 3 1 lv l.length (l.map (Value.int .i64))
  new : NewB w0 lv
  dis : ∀ p ∈ S.N, lv.ownBlock = none ∨ p.2.ownBlock ≠ lv.ownBlock
theorem LsI.nil (B : Nat) (w0 w : World) (S : Sr) : LsI B w0 w S [] (.slice none 0 0) := ⟨World.ownsRow_nil _ _ _ _, .inl rfl, fun p hp => .inl rfl⟩
theorem LsI.call {B g : Nat} {w0 w w' : World} {S S' : Sr} {l : List Int} {lv : Value} (x : LsI B w0 w S l lv) (r : RdAt B g w S) (s : Stp g S S' w w') (ls : LsN w S S') : LsI B w0 w' S' l lv := by
  refine ⟨own_ofr x.own s.fr r.hg (own_ne x.own r.nodes (by decide)), x.new, fun p hp => ?_⟩
  rcases ls p hp with h | h
  · exact x.dis p h
  · cases hv : lv.ownBlock with
    | none => exact .inl rfl
    | some b =>
      right
      have hb := (x.own.lt b hv).2
      rcases h with h | ⟨b', h, hb'⟩
      · rw [h]; simp
      · rw [h]; intro e; injection e with e; omega
theorem LsI.bel {B : Nat} {w0 w w' : World} {S : Sr} {l : List Int} {lv : Value} (x : LsI B w0 w S l lv) (b : Below w.heap.size w w') : LsI B w0 w' S l lv := ⟨own_belowP x.own b, x.new, x.dis⟩
theorem Loc.grown {B g : Nat} {S0 S : Sr} {w0 w w' : World} {j : Nat} {cs : List Value} {l : List Int} {lv : Value} (L : Loc B g S0 w0 S w j cs) (x : LsI B w0 w S l lv) (hg : w.grownBy w' lv.ownBlock) : Loc B g S0 w0 S w' j cs := by
  cases hv : lv.ownBlock with
  | none =>
    rw [hv] at hg
    exact L.bel ⟨hg.os, hg.tape, hg.output, hg.size, fun k hk => hg.block k hk (by simp)⟩
  | some b =>
    rw [hv] at hg
    have o : Ofr b none w w' := ⟨hg.os, hg.tape, hg.output, hg.size, fun k hk h1 _ => hg.block k hk (by simp; exact h1)⟩
    have hb := x.own.lt b hv
    have hgB := L.r.hg
    have hn : w0.heap.size ≤ b := by
      rcases x.new with h | ⟨b', h, hb'⟩
      · rw [h] at hv; cases hv
      · rw [h] at hv; injection hv with hv; omega
    have hne : some b ≠ S.nv.ownBlock := fun e => by
      rcases own_ne x.own L.r.nodes (by decide) with h | h
      · rw [h] at hv; cases hv
      · exact h (by rw [hv, e])
    have hnd : some b ≠ S.dv.ownBlock := fun e => by
      rcases own_ne x.own L.r.decls (by decide) with h | h
      · rw [h] at hv; cases hv
      · exact h (by rw [hv, e])
    have hj : b ≠ j := fun e => by
      subst e
      exact own_neB x.own L.h (by decide) hv.symm
    refine ⟨L.r.oth o (by omega) hne hnd (fun p hp e => ?_), L.s.oth o hn, L.h.ofr o (Ne.symm hj) (by simp), L.n, L.l, L.b⟩
    rcases x.dis p hp with h | h
    · rw [h] at hv; cases hv
    · exact h (by rw [hv, ← e])
/-- a place is appended to it -/
theorem app_ls {B g : Nat} {S0 S : Sr} {w0 w : World} {j : Nat} {cs : List Value} {l : List Int} {lv : Value} {o : Oper} {a : Act} {K : Act → World → Prop} {Q : Exit → Act → World → Prop} (s x : Operand)
    (ho : o.op = .call { callee := .builtin .append, args := #[s, x], argTypes := #[33, 33] })
    (L : Loc B g S0 w0 S w j cs) (I : LsI B w0 w S l lv) (hs : a.eval s = lv) (z : Int) (q : Nat) (hx : a.eval x = .slice (some ⟨q, 0, none⟩) 1 1) (hq : HasB w q 3 [.int .i64 z]) (hl : l.length ≤ 10000)
    (h : ∀ A cap w', Loc B g S0 w0 S w' j cs → LsI B w0 w' S (l ++ [z]) (.slice A (l.length + 1) cap) → w.heap.size ≤ w'.heap.size → w.grownBy w' lv.ownBlock → K (a.put o.dst (.slice A (l.length + 1) cap)) w') : o.wp Tryz.prog a w K Q := by
  obtain ⟨u0, hu0, hz0, hz1, hz2⟩ := info_parts in_info
  obtain ⟨v', w', hrun, r1, r2, _, r4⟩ := run_append_own_at (P := Tryz.prog) w B 33 o.type 3 u0 _ 1 8 Tryz.underlying33 hu0 hz0 hz1 hz2 rfl (by decide) lv l.length _ I.own ⟨q, 0, none⟩ 1 1 [.int .i64 z] rfl
    (cellsN hq) (by intro u hu; rw [List.mem_singleton] at hu; subst hu; rfl) (by unfold maxLen; omega) (by omega) L.r.hB
  unfold Oper.wp
  simp [execOp, ho, resolve, invoke, builtin, hs, hx, hrun, Result.andThen]
  have L' := L.grown I r2
  have nw : NewB w0 v' := by
    rcases r4 with e | e
    · rcases I.new with h | h
      · exact .inl (by rw [e, h])
      · obtain ⟨b, h1, h2⟩ := h; exact .inr ⟨b, by rw [e, h1], h2⟩
    · exact .inr ⟨_, e, L.s.fr.size⟩
  have dis : ∀ p ∈ S.N, v'.ownBlock = none ∨ p.2.ownBlock ≠ v'.ownBlock := fun p hp => by
    rcases r4 with e | e
    · rw [e]; exact I.dis p hp
    · right
      rw [e]
      intro e2
      have := ((L.r.lists p hp).lt _ e2).2
      omega
  have r1' : w'.ownsRow B 3 1 v' (l ++ [z]).length ((l ++ [z]).map (Value.int .i64)) := by
    rw [List.map_append, List.length_append]; exact r1
  obtain ⟨A, cap, rfl⟩ : ∃ A cap, v' = .slice A (l.length + 1) cap := by
    rcases r1.2 with ⟨_, hz⟩ | ⟨b, cap, cur, rfl, _⟩
    · omega
    · exact ⟨_, cap, rfl⟩
  exact h A cap w' L' ⟨r1', nw, dis⟩ r2.size r2
end Go.Proofs.YtkacplcilkogpaaGreatDoor.Mm
