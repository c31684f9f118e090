/- Package parse as it landed: Read. -/
import Derived.Test.YtkacplcilkogpaaGreatDoorQPrA
import Derived.Test.YtkacplcilkogpaaGreatDoorQPrsStats
import Derived.Test.YtkacplcilkogpaaGreatDoorQPrD
import Derived.Recover
import Derived.Defers
import Derived.WalkMore
namespace Go.Proofs.YtkacplcilkogpaaGreatDoor.Mm
open Go.ChangeShapes Go.WideShapes Go.ChangeAt Go.RowKit
set_option linter.unusedVariables false
set_option linter.unusedSimpArgs false
set_option maxRecDepth 10000

set_option maxHeartbeats 4000000 in
theorem catch_pan (a b k : Nat) (x : Int) (y : Bool) (older : List PanicEntry) (w : World) (hab : a ≠ b) (ha : HasB w a 3 [.int .i64 x]) (hb : HasB w b 4 [.bool y]) :
    CallsD Tryz.prog 20 #[.pointer (some ⟨a, 0, none⟩), .pointer (some ⟨b, 0, none⟩)] (.panicking ({ v := .iface 66 (.int .i64 k), recovered := false } :: older)) w fun e u' w' =>
      e = .returned (.tuple #[]) ∧ u' = .panicking ({ v := .iface 66 (.int .i64 k), recovered := true } :: older) ∧ w' = (w.setCell ⟨a, 0, none⟩ (.int .i64 k)).setCell ⟨b, 0, none⟩ (.bool false) := by
  have a0 := ha.cell 0
  have b0 := hb.cell 0
  have fa := ha.frozen 0
  have fb := hb.frozen 0
  simp only [List.getElem?_cons_zero] at a0 b0
  have h1 : ∀ w : World, (binOp BinOp.eql 20 (.iface 66 (.int .i64 k)) .nilIface).run Tryz.prog w = .ok (.bool false) w := fun _ => by kernel_rfl
  have h2 : ∀ w : World, (Instr.typeAssert (.iface 66 (.int .i64 k)) 20 66 true).run Tryz.prog w = .ok (.tuple #[.int .i64 k, .bool true]) w := fun _ => by kernel_rfl
  refine callsD_of_wpS Tryz.func20 rfl fun c₀ cs hu => ?_
  apply wpS_seq
  apply wpS_region
  simp [wpOpsS, go_sem, recoverD, hu, Tryz.ntmps20, Exit.thenS, Array.replicate, List.replicate]
  refine wpS_of_wp ?_
  refine Code.wp_mono (Q := fun e a' w' => e = .normal ∧ a'.defers = [] ∧ w' = (w.setCell ⟨a, 0, none⟩ (.int .i64 k)).setCell ⟨b, 0, none⟩ (.bool false)) ?_ ?_
  · rintro e a' w' ⟨rfl, hd, rfl⟩
    cases c₀
    simp_all [bodyPostS, results, Tryz.results20]
  · clear hu
    go_wp2
theorem catch_idle (a b : Nat) (w : World) :
    CallsD Tryz.prog 20 #[.pointer (some ⟨a, 0, none⟩), .pointer (some ⟨b, 0, none⟩)] .returning w fun e u' w' => e = .returned (.tuple #[]) ∧ u' = .returning ∧ w' = w := by
  have h1 : ∀ w : World, (binOp BinOp.eql 20 .nilIface .nilIface).run Tryz.prog w = .ok (.bool true) w := fun _ => by kernel_rfl
  refine callsD_of_wpS Tryz.func20 rfl fun c₀ cs hu => ?_
  apply wpS_seq
  apply wpS_region
  simp [wpOpsS, go_sem, recoverD, hu, Tryz.ntmps20, Exit.thenS, Array.replicate, List.replicate]
  refine wpS_of_wp ?_
  go_wp2
  cases c₀
  simp_all [bodyPostS, results, Tryz.results20]
def bindD {α : Type} (r : Except Nat (Dc × List Pc)) (k : Dc → List Pc → Except Nat α) : Except Nat α := match r with | .ok (x, s) => k x s | .error e => .error e
theorem decV_bind (ws : List Pc) (K : Dc → List Pc → Rd) : (nmP ws fun t r => must [59] r fun r => K (t, -1) r) = bindD (decV ws) K := by
  unfold decV
  cases h : hdK 110 ws
  · rw [nm_no h, nm_no h]; rfl
  · rw [nm_yes h, nm_yes h]
    cases h2 : hdW [59] ws.tail
    · rw [must_no h2, must_no h2]; rfl
    · rw [must_yes h2, must_yes h2]; rfl
theorem decA_bind (ws : List Pc) (K : Dc → List Pc → Rd) : (nmP ws fun t r => must [91] r fun r => nbP r fun v r => must [93] r fun r => must [59] r fun r => K (t, v) r) = bindD (decA ws) K := by
  unfold decA
  cases h : hdK 110 ws
  · rw [nm_no h, nm_no h]; rfl
  · rw [nm_yes h, nm_yes h]
    unfold celE
    cases h1 : hdW [91] ws.tail
    · rw [must_no h1, must_no h1]; rfl
    · rw [must_yes h1, must_yes h1]
      cases h2 : hdK 48 ws.tail.tail
      · rw [nb_no h2, nb_no h2]; rfl
      · rw [nb_yes h2, nb_yes h2]
        cases h3 : hdW [93] ws.tail.tail.tail
        · rw [must_no h3, must_no h3]; rfl
        · rw [must_yes h3, must_yes h3]
          show must [59] _ _ = bindD (must [59] _ _) K
          cases h4 : hdW [59] ws.tail.tail.tail.tail
          · rw [must_no h4, must_no h4]; rfl
          · rw [must_yes h4, must_yes h4]; rfl
theorem dcE_V {D : List Dc} {ws : List Pc} (h : hdW [118, 97, 114] ws = true) : dcE D ws = bindD (decV ws.tail) fun x r => dcE (D ++ [x]) r := by
  rw [dcE_eq, if_pos h]; exact decV_bind _ (fun x r => dcE (D ++ [x]) r)
theorem dcE_A {D : List Dc} {ws : List Pc} (h0 : hdW [118, 97, 114] ws = false) (h : hdW [97, 114, 114] ws = true) : dcE D ws = bindD (decA ws.tail) fun x r => dcE (D ++ [x]) r := by
  rw [dcE_eq, if_neg (by rw [h0]; simp), if_pos h]; exact decA_bind _ (fun x r => dcE (D ++ [x]) r)
def bigD (D : List Dc) : Bool := D.any fun x => decide (1000 < x.2)
theorem bigD_app (D : List Dc) (x : Dc) : bigD (D ++ [x]) = (bigD D || decide (1000 < x.2)) := by unfold bigD; simp
/-- declarations are read, and nothing else -/
structure PgI (B g : Nat) (S : Sr) (w : World) (S1 : Sr) (w1 : World) : Prop where
  r : RdAt B g w1 S1
  V : S1.V = S.V
  W : S1.W = S.W
  N : S1.N = []
  nv : S1.nv = .slice none 0 0
  deep : S1.deep = 0
  great : S1.great = bigD S1.D
  fr : Ofr g none w w1
  dn : Nw w none S1.dv.ownBlock
theorem PgI.stp {B g : Nat} {S S1 S2 : Sr} {w w1 w2 : World} (h : PgI B g S w S1 w1) (r : RdAt B g w2 S2) (s : Stp g S1 S2 w1 w2) (hN : S2.N = S1.N) (hv : S2.nv = S1.nv) (hd : S2.deep = S1.deep) (hg : S2.great = S1.great) : PgI B g S w S2 w2 :=
  ⟨r, s.V.trans h.V, s.W.trans h.W, hN.trans h.N, hv.trans h.nv, hd.trans h.deep, by rw [hg, s.D]; exact h.great, by have := s.fr; rw [h.nv] at this; exact h.fr.trans this (.refl _ _), by rw [s.dv]; exact h.dn⟩
theorem PgI.dec {B g : Nat} {S S1 S2 : Sr} {w w1 w2 : World} {x : Dc} (h : PgI B g S w S1 w1) (s : DcS B g S1 w1 S2 w2) (hD : S2.D = S1.D ++ [x]) (hg : S2.great = (S1.great || decide (1000 < x.2))) : PgI B g S w S2 w2 :=
  ⟨s.r, s.V.trans h.V, s.W.trans h.W, s.N.trans h.N, s.nv.trans h.nv, s.deep.trans h.deep, by rw [hg, hD, bigD_app, h.great], h.fr.trans s.fr h.dn, h.dn.trans s.nw h.fr.size⟩
theorem PbI.dec {B g pb : Nat} {S1 S2 : Sr} {w1 w2 : World} (h : PbI g pb w1) (r : RdAt B g w1 S1) (s : DcS B g S1 w1 S2 w2) : PbI g pb w2 := ⟨h.1.ofr s.fr h.2 (own_neB r.decls h.1 (by decide)), h.2⟩
def PrgP (B g : Nat) (S : Sr) (w : World) (r : Except Nat (List Dc × Nd × Nat)) (e : Ending) (w' : World) : Prop :=
  match r with
  | .error k => e = pan (S.W.length - k) ∧ Ofr g none w w'
  | .ok (D, b, d) => ∃ S', e = .returned (.tuple #[]) ∧ RdAt B g w' S' ∧ S'.D = D ∧ S'.N.map Prod.fst = flB 0 b ∧ S'.N.length = Mm.cnt b ∧ S'.body = rt 0 b ∧ S'.great = (bigD D || decide (100 < d)) ∧ Ofr g none w w' ∧ ∀ p ∈ S'.N, NewB w p.2
theorem PgI.err {B g : Nat} {S S1 : Sr} {w w1 w2 : World} {k : Nat} {r : Option Nat} {e : Ending} (h : PgI B g S w S1 w1) (he : e = pan (S1.W.length - k) ∧ Ofr g r w1 w2) (hr : Nw w none r) : PrgP B g S w (.error k) e w2 := ⟨by rw [he.1, h.W], h.fr.trans he.2 hr⟩
theorem PgI.pre {B g : Nat} {S S1 : Sr} {w w1 : World} (h : PgI B g S w S1 w1) : Pre (S1.ws.length + 1) 2 S1 := ⟨by omega, by rw [h.N]; simp, by rw [h.deep]; omega⟩
/-- where the program's block is -/
theorem PgI.fin {B g : Nat} {S S1 S2 : Sr} {w w1 w2 w3 : World} {b : Nd} {d : Nat} (h : PgI B g S w S1 w1) (r : RdBl B g S1 w1 b d S2 w2) (S3 : Sr) (h3 : S3 = { S2 with body := rt 0 b }) (r3 : RdAt B g w3 S3) (o3 : Ofr g none w2 w3) :
    PrgP B g S w (.ok (S1.D, b, d)) (.returned (.tuple #[])) w3 := by
  subst h3
  refine ⟨_, rfl, r3, r.s.D, ?_, ?_, rfl, ?_, (h.fr.trans (by have := r.s.fr; rw [h.nv] at this; exact this) (.refl _ _)).trans o3 (.refl _ _), fun p hp => ?_⟩
  · show S2.N.map Prod.fst = _
    rw [r.N, h.N]; rfl
  · show S2.N.length = _
    rw [r.cnt, h.N]; simp
  · show S2.great = _
    rw [r.great, h.great, h.deep]; simp
  · rcases r.ls p hp with h' | h'
    · rw [h.N] at h'; cases h'
    · exact h'.mono h.fr.size
set_option maxHeartbeats 16000000 in
theorem prog_any {B g : Nat} {S : Sr} {w : World} (h : RdAt B g w S) (hk0 : S.k = 0) (hD0 : S.D = []) (hdv0 : S.dv = .slice none 0 0) (hN0 : S.N = []) (hnv0 : S.nv = .slice none 0 0) (hd0 : S.deep = 0) (hg0 : S.great = false) :
    Calls Tryz.prog 21 #[.pointer (some ⟨g, 0, none⟩)] w (PrgP B g S w (prg S.W)) := by
  have hmf : ∀ (fn : Fn) (first cap : Array Value) (w : World), (Instr.makeFunc fn first cap).run Tryz.prog w = .ok (.func fn first cap) w := fun _ _ _ _ => rfl
  have HH := Lib.hid h
  obtain ⟨w1, e1, I1, B1⟩ := pb_new g w h.cells.lt
  obtain ⟨RES, hR⟩ : ∃ RES, Hid (prg S.W = RES) := ⟨_, Lib.hid rfl⟩
  rw [hR.out]
  have G0 : Hid (PgI B g S w S w1) := Lib.hid ⟨h.ofr B1.out, rfl, rfl, hN0, hnv0, hd0, by rw [hg0, hD0]; rfl, .of B1.out, .inl (by rw [hdv0]; rfl)⟩
  have E0 : Hid (dcE S.D S.ws = dcE [] S.W) := Lib.hid (by unfold Sr.ws; rw [hk0, hD0]; rfl)
  obtain ⟨pb, hpb⟩ : ∃ pb, w.heap.size = pb := ⟨_, rfl⟩
  rw [hpb] at I1
  clear h hk0 hD0 hdv0 hN0 hnv0 hd0 hg0
  go_enter Tryz.func21, Tryz.ntmps21
  go_wp2_with fail
  (try rw [hpb])
  go_loopw [9] (fun _ wr => ∃ S1 : Sr, Hid (PgI B g S w S1 wr) ∧ Hid (PbI g pb wr) ∧ Hid (dcE S1.D S1.ws = dcE [] S.W)) (fun _ wr => 4000 - (intOf ((wr.cell? ⟨g, 1, none⟩).getD undef)).toNat)
  case atStart => exact ⟨S, G0, I1, E0⟩
  case round =>
    obtain ⟨S1, G1, P1, E1⟩ := hrel
    clear G0 I1 E0 hpb B1 e1
    have hm : intOf ((wr.cell? ⟨g, 1, none⟩).getD undef) = (S1.k : Int) := by rw [G1.out.r.c1]; rfl
    rw [hm]
    clear hm
    have hk4 := few_of G1.out.r
    have c0 := P1.out.1.cell 0
    simp only [List.getElem?_cons_zero] at c0
    have CT1 := take_any G1.out.r [118, 97, 114] ks_of
    cases hb1 : hdW [118, 97, 114] S1.ws with
    | true =>
      rw [hb1] at CT1
      simp only [if_true] at CT1
      have CT1 := Lib.hid CT1
      have hu := Lib.hid (up_ws (t := [118, 97, 114]) G1.out.r.le hb1)
      cases hd : decV S1.ws.tail with
      | error k =>
        have hX : RES = .error k := by rw [← hR.out]; unfold prg; rw [← E1.out, dcE_V hb1, hd]; rfl
        replace hX := Lib.hid hX
        go_wp2_with fail
        refine (CT1.out).mono ?_; rintro e w2 ⟨rfl, R2, T2⟩
        have G2 := Lib.hid (G1.out.stp R2 T2 rfl rfl rfl rfl)
        have P2 := Lib.hid (P1.out.call G1.out.r T2)
        have c2 := P2.out.1.cell 0
        simp only [List.getElem?_cons_zero] at c2
        have CD := decl_V R2 G2.out.nv
        rw [hu.out, hd] at CD
        have CD := Lib.hid CD
        clear R2 T2 CT1
        go_wp2_with fail
        refine (CD.out).mono ?_; rintro e w3 he
        have FIN : Hid (PrgP B g S w RES e w3) := Lib.hid (by rw [hX.out]; exact G2.out.err he G2.out.dn)
        obtain ⟨rfl, o3⟩ := he
        clear o3 CD
        unfold pan at FIN ⊢
        go_wp2
        first | exact FIN.out | exact ⟨rfl, FIN.out⟩
      | ok y =>
        obtain ⟨x, r⟩ := y
        go_wp2_with fail
        refine (CT1.out).mono ?_; rintro e w2 ⟨rfl, R2, T2⟩
        have G2 := Lib.hid (G1.out.stp R2 T2 rfl rfl rfl rfl)
        have P2 := Lib.hid (P1.out.call G1.out.r T2)
        have c2 := P2.out.1.cell 0
        simp only [List.getElem?_cons_zero] at c2
        have CD := decl_V R2 G2.out.nv
        rw [hu.out, hd] at CD
        have CD := Lib.hid CD
        clear R2 T2 CT1
        go_wp2_with fail
        refine (CD.out).mono ?_; rintro e w3 ⟨S3, rfl, R3, hw3, hD3, hg3, hk3⟩
        have G3 := Lib.hid (G2.out.dec R3 hD3 hg3)
        have P3 := Lib.hid (P2.out.dec G2.out.r R3)
        have E3 := Lib.hid (show dcE S3.D S3.ws = dcE [] S.W by rw [hD3, hw3, ← E1.out, dcE_V hb1, hd]; rfl)
        have hk5 : S1.k + 1 < S3.k := hk3
        clear R3 hw3 hD3 hg3 CD
        go_wp2
        refine ⟨⟨S3, G3, P3, E3⟩, ?_⟩
        have hm : intOf ((w3.cell? ⟨g, 1, none⟩).getD undef) = (S3.k : Int) := by rw [G3.out.r.c1]; rfl
        have := few_of G3.out.r
        rw [hm]
        omega
    | false =>
      rw [hb1] at CT1
      simp only [Bool.false_eq_true, if_false] at CT1
      have CT1 := Lib.hid CT1
      have CT2 := Lib.hid (fun w' (r : RdAt B g w' S1) => take_any r [97, 114, 114] ks_of)
      cases hb2 : hdW [97, 114, 114] S1.ws with
      | true =>
        rw [hb2] at CT2
        simp only [if_true] at CT2
        have hu := Lib.hid (up_ws (t := [97, 114, 114]) G1.out.r.le hb2)
        cases hd : decA S1.ws.tail with
        | error k =>
          have hX : RES = .error k := by rw [← hR.out]; unfold prg; rw [← E1.out, dcE_A hb1 hb2, hd]; rfl
          replace hX := Lib.hid hX
          go_wp2_with fail
          refine (CT1.out).mono ?_; rintro e w2 ⟨rfl, R2, T2⟩
          have G2 := Lib.hid (G1.out.stp R2 T2 rfl rfl rfl rfl)
          have P2 := Lib.hid (P1.out.call G1.out.r T2)
          have c2 := P2.out.1.cell 0
          simp only [List.getElem?_cons_zero] at c2
          have CT3 := Lib.hid (CT2.out _ R2)
          clear R2 T2 CT1 CT2
          go_wp2_with fail
          refine (CT3.out).mono ?_; rintro e w4 ⟨rfl, R4, T4⟩
          have G4 := Lib.hid (G2.out.stp R4 T4 rfl rfl rfl rfl)
          have P4 := Lib.hid (P2.out.call G2.out.r T4)
          have c4 := P4.out.1.cell 0
          simp only [List.getElem?_cons_zero] at c4
          have CD := decl_A R4 G4.out.nv
          rw [hu.out, hd] at CD
          have CD := Lib.hid CD
          clear R4 T4 CT3
          go_wp2_with fail
          refine (CD.out).mono ?_; rintro e w3 he
          have FIN : Hid (PrgP B g S w RES e w3) := Lib.hid (by rw [hX.out]; exact G4.out.err he G4.out.dn)
          obtain ⟨rfl, o3⟩ := he
          clear o3 CD
          unfold pan at FIN ⊢
          go_wp2
          first | exact FIN.out | exact ⟨rfl, FIN.out⟩
        | ok y =>
          obtain ⟨x, r⟩ := y
          go_wp2_with fail
          refine (CT1.out).mono ?_; rintro e w2 ⟨rfl, R2, T2⟩
          have G2 := Lib.hid (G1.out.stp R2 T2 rfl rfl rfl rfl)
          have P2 := Lib.hid (P1.out.call G1.out.r T2)
          have c2 := P2.out.1.cell 0
          simp only [List.getElem?_cons_zero] at c2
          have CT3 := Lib.hid (CT2.out _ R2)
          clear R2 T2 CT1 CT2
          go_wp2_with fail
          refine (CT3.out).mono ?_; rintro e w4 ⟨rfl, R4, T4⟩
          have G4 := Lib.hid (G2.out.stp R4 T4 rfl rfl rfl rfl)
          have P4 := Lib.hid (P2.out.call G2.out.r T4)
          have c4 := P4.out.1.cell 0
          simp only [List.getElem?_cons_zero] at c4
          have CD := decl_A R4 G4.out.nv
          rw [hu.out, hd] at CD
          have CD := Lib.hid CD
          clear R4 T4 CT3
          go_wp2_with fail
          refine (CD.out).mono ?_; rintro e w3 ⟨S3, rfl, R3, hw3, hD3, hg3, hk3⟩
          have G3 := Lib.hid (G4.out.dec R3 hD3 hg3)
          have P3 := Lib.hid (P4.out.dec G4.out.r R3)
          have E3 := Lib.hid (show dcE S3.D S3.ws = dcE [] S.W by rw [hD3, hw3, ← E1.out, dcE_A hb1 hb2, hd]; rfl)
          have hk5 : S1.k + 1 < S3.k := hk3
          clear R3 hw3 hD3 hg3 CD
          go_wp2
          refine ⟨⟨S3, G3, P3, E3⟩, ?_⟩
          have hm : intOf ((w3.cell? ⟨g, 1, none⟩).getD undef) = (S3.k : Int) := by rw [G3.out.r.c1]; rfl
          have := few_of G3.out.r
          rw [hm]
          omega
      | false =>
        rw [hb2] at CT2
        simp only [Bool.false_eq_true, if_false] at CT2
        have hdc := Lib.hid (show dcE [] S.W = .ok (S1.D, S1.ws) by rw [← E1.out]; exact dcE_no ⟨hb1, hb2⟩)
        cases hr : grE (.L .nil 0 false) S1.ws with
        | error k =>
          have hX := Lib.hid (show RES = .error k by rw [← hR.out]; exact prg_er hdc.out hr)
          go_wp2_with fail
          refine (CT1.out).mono ?_; rintro e w2 ⟨rfl, R2, T2⟩
          have G2 := Lib.hid (G1.out.stp R2 T2 rfl rfl rfl rfl)
          have P2 := Lib.hid (P1.out.call G1.out.r T2)
          have c2 := P2.out.1.cell 0
          simp only [List.getElem?_cons_zero] at c2
          have CT3 := Lib.hid (CT2.out _ R2)
          clear R2 T2 CT1 CT2
          go_wp2_with fail
          refine (CT3.out).mono ?_; rintro e w4 ⟨rfl, R4, T4⟩
          have G4 := Lib.hid (G2.out.stp R4 T4 rfl rfl rfl rfl)
          have P4 := Lib.hid (P2.out.call G2.out.r T4)
          have c4 := P4.out.1.cell 0
          simp only [List.getElem?_cons_zero] at c4
          have BD := below_drewP (Below.refl w4.heap.size w4)
          have G5 : Hid (PgI B g S w S1 w4.drew) := Lib.hid (G4.out.stp (G4.out.r.ofr BD) (.of BD) rfl rfl rfl rfl)
          have CD := stats_P (Lib.hid (stmts_any B g _).1) G5.out.r (show PbI g pb w4.drew from P4.out) G5.out.pre (.inl (by rw [G5.out.deep]; omega))
          rw [hr] at CD
          have CD := Lib.hid CD
          have KP := Lib.hid (fun w' (h : PbI g pb w') => (h.1.cell 0 : w'.cell? ⟨pb, 0, none⟩ = _))
          simp only [List.getElem?_cons_zero] at KP
          clear R4 T4 CT3 BD
          go_wp2_with fail
          refine wp_region_held_drew (S := (fun w' => w'.cell? ⟨pb, 0, none⟩ = some (.pointer (some ⟨g, 0, none⟩)))) (by kernel_rfl) ?_ (fun hHeld => ?_)
          · (try dsimp only)
            first | exact c4 | exact KP.out _ P4.out
          refine wpAnyH_take (i := 0) (oi := { dst := some 2, op := Op.load 41 (Operand.tmp 1), type := 41, pos := "read.go:73", after := #[], guard := none }) (v := ?_) rfl (by kernel_rfl) (by kernel_rfl) (by kernel_rfl) (fun _ _ _ h => h) (Or.inl ⟨by rfl, ?_⟩) (by assumption) ?_
          rotate_left
          · intro w hSw; (try dsimp only at hSw); go_simp <;> (with_reducible rfl)
          (try simp only [Act.put, List.setIfInBounds_toArray, List.set_cons_zero, List.set_cons_succ])
          refine wpAnyH_take (i := 1) (oi := { dst := some 3, op := Op.load 41 (Operand.tmp 1), type := 41, pos := "read.go:73", after := #[], guard := none }) (v := ?_) rfl (by kernel_rfl) (by kernel_rfl) (by kernel_rfl) (fun _ _ _ h => h) (Or.inl ⟨by rfl, ?_⟩) (by assumption) ?_
          rotate_left
          · intro w hSw; (try dsimp only at hSw); go_simp <;> (with_reducible rfl)
          (try simp only [Act.put, List.setIfInBounds_toArray, List.set_cons_zero, List.set_cons_succ])
          refine wpAnyH_take (i := 2) (oi := { dst := some 4, op := Op.makeFunc (Fn.func 40) #[] #[Operand.tmp 1], type := 22, pos := "read.go:73", after := #[], guard := none }) (v := ?_) rfl (by kernel_rfl) (by kernel_rfl) (by kernel_rfl) (fun _ _ _ h => h) (Or.inl ⟨by rfl, ?_⟩) (by assumption) ?_
          rotate_left
          · intro w hSw; (try dsimp only at hSw); go_simp <;> (with_reducible rfl)
          (try simp only [Act.put, List.setIfInBounds_toArray, List.set_cons_zero, List.set_cons_succ])
          refine wpAnyH_ready (rs := [3]) (by kernel_rfl) (by simp) ?_
          refine AllReadyH.cons (o := { dst := some 5, op := Op.call { callee := Callee.value (Operand.func 39), args := #[Operand.tmp 3, Operand.tmp 4], argTypes := #[41, 22] }, type := 3, pos := "read.go:73", after := #[{ on := 1, ground := Ground.data }, { on := 2, ground := Ground.data }], guard := none }) rfl (fun K hK => ?_) ?_
          · go_simp
            (with_reducible refine (CD.out).mono ?_); rintro e w6 he
            have FIN : Hid (PrgP B g S w RES e w6) := Lib.hid (by rw [hX.out]; exact G5.out.err he (by rw [G5.out.nv]; exact .inl rfl))
            obtain ⟨rfl, o3⟩ := he
            clear o3 CD
            unfold pan at FIN ⊢
            go_wp2
            first | exact FIN.out | exact ⟨rfl, FIN.out⟩
          exact AllReadyH.nil
        | ok y =>
          obtain ⟨b, s, d⟩ := y
          have hX := Lib.hid (show RES = .ok (S1.D, b, d) by rw [← hR.out]; exact prg_is hdc.out hr)
          go_wp2_with fail
          refine (CT1.out).mono ?_; rintro e w2 ⟨rfl, R2, T2⟩
          have G2 := Lib.hid (G1.out.stp R2 T2 rfl rfl rfl rfl)
          have P2 := Lib.hid (P1.out.call G1.out.r T2)
          have c2 := P2.out.1.cell 0
          simp only [List.getElem?_cons_zero] at c2
          have CT3 := Lib.hid (CT2.out _ R2)
          clear R2 T2 CT1 CT2
          go_wp2_with fail
          refine (CT3.out).mono ?_; rintro e w4 ⟨rfl, R4, T4⟩
          have G4 := Lib.hid (G2.out.stp R4 T4 rfl rfl rfl rfl)
          have P4 := Lib.hid (P2.out.call G2.out.r T4)
          have c4 := P4.out.1.cell 0
          simp only [List.getElem?_cons_zero] at c4
          have BD := below_drewP (Below.refl w4.heap.size w4)
          have G5 : Hid (PgI B g S w S1 w4.drew) := Lib.hid (G4.out.stp (G4.out.r.ofr BD) (.of BD) rfl rfl rfl rfl)
          have CD := stats_P (Lib.hid (stmts_any B g _).1) G5.out.r (show PbI g pb w4.drew from P4.out) G5.out.pre (.inl (by rw [G5.out.deep]; omega))
          rw [hr] at CD
          have CD := Lib.hid CD
          have KP := Lib.hid (fun w' (h : PbI g pb w') => (h.1.cell 0 : w'.cell? ⟨pb, 0, none⟩ = _))
          simp only [List.getElem?_cons_zero] at KP
          clear R4 T4 CT3 BD
          go_wp2_with fail
          refine wp_region_noPanic ?_
          refine wp_region_held_drew (S := (fun w' => w'.cell? ⟨pb, 0, none⟩ = some (.pointer (some ⟨g, 0, none⟩)))) (by kernel_rfl) ?_ (fun hHeld => ?_)
          · (try dsimp only)
            first | exact c4 | exact KP.out _ P4.out
          refine wpAnyH_take (i := 0) (oi := { dst := some 2, op := Op.load 41 (Operand.tmp 1), type := 41, pos := "read.go:73", after := #[], guard := none }) (v := ?_) rfl (by kernel_rfl) (by kernel_rfl) (by kernel_rfl) (fun _ _ _ h => h) (Or.inl ⟨by rfl, ?_⟩) (by assumption) ?_
          rotate_left
          · intro w hSw; (try dsimp only at hSw); go_simp <;> (with_reducible rfl)
          (try simp only [Act.put, List.setIfInBounds_toArray, List.set_cons_zero, List.set_cons_succ])
          refine wpAnyH_take (i := 1) (oi := { dst := some 3, op := Op.load 41 (Operand.tmp 1), type := 41, pos := "read.go:73", after := #[], guard := none }) (v := ?_) rfl (by kernel_rfl) (by kernel_rfl) (by kernel_rfl) (fun _ _ _ h => h) (Or.inl ⟨by rfl, ?_⟩) (by assumption) ?_
          rotate_left
          · intro w hSw; (try dsimp only at hSw); go_simp <;> (with_reducible rfl)
          (try simp only [Act.put, List.setIfInBounds_toArray, List.set_cons_zero, List.set_cons_succ])
          refine wpAnyH_take (i := 2) (oi := { dst := some 4, op := Op.makeFunc (Fn.func 40) #[] #[Operand.tmp 1], type := 22, pos := "read.go:73", after := #[], guard := none }) (v := ?_) rfl (by kernel_rfl) (by kernel_rfl) (by kernel_rfl) (fun _ _ _ h => h) (Or.inl ⟨by rfl, ?_⟩) (by assumption) ?_
          rotate_left
          · intro w hSw; (try dsimp only at hSw); go_simp <;> (with_reducible rfl)
          (try simp only [Act.put, List.setIfInBounds_toArray, List.set_cons_zero, List.set_cons_succ])
          refine wpAnyH_ready (rs := [3]) (by kernel_rfl) (by simp) ?_
          refine AllReadyH.cons (o := { dst := some 5, op := Op.call { callee := Callee.value (Operand.func 39), args := #[Operand.tmp 3, Operand.tmp 4], argTypes := #[41, 22] }, type := 3, pos := "read.go:73", after := #[{ on := 1, ground := Ground.data }, { on := 2, ground := Ground.data }], guard := none }) rfl (fun K hK => ?_) ?_
          · go_simp
            (with_reducible refine (CD.out).mono ?_); rintro e w6 ⟨S6, rfl, R6, hs6⟩
            go_wp2_with fail
            have R6 := Lib.hid R6
            have P6 := Lib.hid ((show PbI g pb w4.drew from P4.out).call G5.out.r R6.out.s)
            have b4 := R6.out.r.c4
            have q4 := R6.out.r.cells.frozen 4
            rw [show S1.N.length = 0 by rw [G5.out.N]; rfl]
            obtain ⟨R7, o7⟩ := R6.out.r.set (S' := { S6 with body := rt 0 b }) 4 (.int .i64 (rt 0 b)) rfl rfl rfl rfl rfl rfl rfl (Nat.le_refl _) R6.out.r.le R6.out.r.deepS
            obtain ⟨w7, e7, R7, o7⟩ : ∃ w7, w6.setCell ⟨g, 4, none⟩ (.int .i64 (rt 0 b)) = w7 ∧ Hid (RdAt B g w7 { S6 with body := rt 0 b }) ∧ Hid (Ofr g none w6 w7) := ⟨_, rfl, Lib.hid R7, Lib.hid o7⟩
            have P7 := Lib.hid (show PbI g pb w7 from ⟨P6.out.1.ofr o7.out P6.out.2 (by simp), P6.out.2⟩)
            have FIN : Hid (PrgP B g S w RES (.returned (.tuple #[])) w7) := Lib.hid (by rw [hX.out]; exact G5.out.fin R6.out _ rfl R7.out o7.out)
            obtain ⟨z, hz⟩ : ∃ z, rt 0 b = z := ⟨_, rfl⟩
            rw [hz] at e7 ⊢
            refine hK.out _ _ ?_ (fun hHeld => ?_)
            · (try dsimp only)
              exact KP.out _ P6.out
            clear hK K
            (try simp only [Act.put, List.setIfInBounds_toArray, List.set_cons_zero, List.set_cons_succ])
            refine wpAnyH_take (i := 4) (oi := { dst := some 6, op := Op.nilCheck (Operand.tmp 2), type := 0, pos := "read.go:73", after := #[{ on := 0, ground := Ground.data }, { on := 0, ground := Ground.phase }, { on := 1, ground := Ground.phase }, { on := 2, ground := Ground.phase }, { on := 3, ground := Ground.phase }], guard := none }) (v := ?_) rfl (by kernel_rfl) (by kernel_rfl) (by kernel_rfl) (fun _ _ _ h => h) (Or.inl ⟨by rfl, ?_⟩) (by assumption) ?_
            rotate_left
            · intro w hSw; (try dsimp only at hSw); go_simp <;> (with_reducible rfl)
            (try simp only [Act.put, List.setIfInBounds_toArray, List.set_cons_zero, List.set_cons_succ])
            refine wpAnyH_take (i := 5) (oi := { dst := some 7, op := Op.fieldAddr 43 (Operand.tmp 6) 2, type := 0, pos := "read.go:73", after := #[{ on := 4, ground := Ground.data }, { on := 0, ground := Ground.phase }, { on := 1, ground := Ground.phase }, { on := 2, ground := Ground.phase }, { on := 3, ground := Ground.phase }], guard := none }) (v := ?_) rfl (by kernel_rfl) (by kernel_rfl) (by kernel_rfl) (fun _ _ _ h => h) (Or.inl ⟨by rfl, ?_⟩) (by assumption) ?_
            rotate_left
            · intro w hSw; (try dsimp only at hSw); go_simp <;> (with_reducible rfl)
            (try simp only [Act.put, List.setIfInBounds_toArray, List.set_cons_zero, List.set_cons_succ])
            refine wpAnyH_take (i := 6) (oi := { dst := some 8, op := Op.fieldAddr 26 (Operand.tmp 7) 2, type := 0, pos := "read.go:73", after := #[{ on := 5, ground := Ground.data }, { on := 0, ground := Ground.phase }, { on := 1, ground := Ground.phase }, { on := 2, ground := Ground.phase }, { on := 3, ground := Ground.phase }], guard := none }) (v := ?_) rfl (by kernel_rfl) (by kernel_rfl) (by kernel_rfl) (fun _ _ _ h => h) (Or.inl ⟨by rfl, ?_⟩) (by assumption) ?_
            rotate_left
            · intro w hSw; (try dsimp only at hSw); go_simp <;> (with_reducible rfl)
            (try simp only [Act.put, List.setIfInBounds_toArray, List.set_cons_zero, List.set_cons_succ])
            refine wpAnyH_ready (rs := [7]) (by kernel_rfl) (by simp) ?_
            refine AllReadyH.cons (o := { dst := none, op := Op.store 3 (Operand.tmp 8) (Operand.tmp 5), type := 0, pos := "read.go:73", after := #[{ on := 6, ground := Ground.data }, { on := 3, ground := Ground.data }, { on := 3, ground := Ground.chain }, { on := 0, ground := Ground.phase }, { on := 1, ground := Ground.phase }, { on := 2, ground := Ground.phase }, { on := 3, ground := Ground.phase }], guard := none }) rfl (fun K hK => ?_) ?_
            · go_simp
              refine hK.out _ _ ?_ (fun hHeld => ?_)
              · (try dsimp only)
                first | (rw [e7]; exact KP.out _ P7.out) | exact KP.out _ P7.out
              clear hK K
              (try simp only [Act.put, List.setIfInBounds_toArray, List.set_cons_zero, List.set_cons_succ])
              refine wpAnyH_done (by kernel_rfl) ?_ _
              refine NoPanic.normal ?_
              go_wp2
              first | (refine bodyPost_ret (results_none rfl _ _ _) rfl ?_; rw [e7]; exact FIN.out) | (refine bodyPost_ret (results_none rfl _ _ _) rfl ?_; exact FIN.out) | (go_end0; exact FIN.out)
            exact AllReadyH.nil
          exact AllReadyH.nil
def AllP (B g : Nat) (S : Sr) (w : World) (r : Except Nat (List Dc × Nd × Nat)) (e : Ending) (w' : World) : Prop :=
  match r with
  | .error k => e = .returned (.tuple #[.int .i64 (S.W.length - k : Nat), .bool false]) ∧ Ofr g none w w'
  | .ok (D, b, d) => ∃ S', e = .returned (.tuple #[.int .i64 0, .bool true]) ∧ RdAt B g w' S' ∧ S'.D = D ∧ S'.N.map Prod.fst = flB 0 b ∧ S'.N.length = Mm.cnt b ∧ S'.body = rt 0 b ∧ S'.great = (bigD D || decide (100 < d)) ∧ Ofr g none w w'
set_option maxHeartbeats 8000000 in
theorem all_any {B g : Nat} {S : Sr} {w : World} (h : RdAt B g w S) (hk0 : S.k = 0) (hD0 : S.D = []) (hdv0 : S.dv = .slice none 0 0) (hN0 : S.N = []) (hnv0 : S.nv = .slice none 0 0) (hd0 : S.deep = 0) (hg0 : S.great = false) :
    Calls Tryz.prog 12 #[.pointer (some ⟨g, 0, none⟩)] w (AllP B g S w (prg S.W)) := by
  have hmf : ∀ (fn : Fn) (first cap : Array Value) (w : World), (Instr.makeFunc fn first cap).run Tryz.prog w = .ok (.func fn first cap) w := fun _ _ _ _ => rfl
  have gl := h.cells.lt
  have hB := h.hB
  have hgB := h.hg
  obtain ⟨w1, e1, A1, B1, s1⟩ : ∃ w1, w.alloc (.cells #[.int .i64 0] 3) = w1 ∧ HasB w1 w.heap.size 3 [.int .i64 0] ∧ Below w.heap.size w w1 ∧ w1.heap.size = w.heap.size + 1 := ⟨_, rfl, HasB.new w _ _, bel_al (Below.refl _ _) _, by simp⟩
  obtain ⟨w2, e2, A2, Q2, B2⟩ : ∃ w2, w1.alloc (.cells #[.bool false] 4) = w2 ∧ Hid (HasB w2 w.heap.size 3 [.int .i64 0]) ∧ Hid (HasB w2 w1.heap.size 4 [.bool false]) ∧ Hid (Below w.heap.size w w2) := by
    have b2 := bel_al (Below.refl _ w1) (.cells #[.bool false] 4)
    exact ⟨_, rfl, Lib.hid (A1.below b2), Lib.hid (HasB.new w1 _ _), Lib.hid (bel_then B1 b2)⟩
  have CP := Lib.hid (prog_any (h.ofr B2.out) hk0 hD0 hdv0 hN0 hnv0 hd0 hg0)
  have nab : w.heap.size ≠ w1.heap.size := by omega
  have nga : w.heap.size ≠ g := by omega
  have ngb : w1.heap.size ≠ g := by omega
  obtain ⟨a, ha⟩ : ∃ a, w.heap.size = a := ⟨_, rfl⟩
  obtain ⟨b, hb⟩ : ∃ b, w1.heap.size = b := ⟨_, rfl⟩
  have hab : a ≤ b := by omega
  have hgab := Lib.hid (show g < a ∧ B ≤ a by omega)
  have hlo := Lib.hid (show w.heap.size ≤ a by omega)
  rw [ha] at A2 nab nga
  rw [hb] at Q2 nab ngb
  clear h hk0 hD0 hdv0 hN0 hnv0 hd0 hg0 A1 B1 s1 gl hB hgB
  -- the two results' cells, behind what is read
  have KEY : Hid (∀ w3, Ofr g none w2 w3 → HasB w3 a 3 [.int .i64 0] ∧ HasB w3 b 4 [.bool false]) := Lib.hid (fun w3 o => ⟨A2.out.ofr o nga (by simp), Q2.out.ofr o ngb (by simp)⟩)
  cases hr : prg S.W with
  | error k =>
    rw [hr] at CP
    go_enter_defers Tryz.func12, Tryz.ntmps12
    go_wp2_with fail
    refine (CP.out).mono ?_; rintro e w3 he
    obtain ⟨rfl, o3⟩ := he
    obtain ⟨H3, G3⟩ := KEY.out w3 o3
    have o3 := Lib.hid o3
    clear CP
    have FIN : Hid (Ofr g none w ((w3.setCell ⟨a, 0, none⟩ (.int .i64 (S.W.length - k : Nat))).setCell ⟨b, 0, none⟩ (.bool false))) := Lib.hid (((Ofr.of B2.out).trans o3.out (.refl _ _)).ne_oth ((Ofr.refl a none _).set 0 _) hlo.out |>.ne_oth ((Ofr.refl b none _).set 0 _) (by have := hlo.out; omega))
    unfold pan
    go_wp2
    refine leaves_cons (f := 20) (args := #[.pointer (some ⟨a, 0, none⟩), .pointer (some ⟨b, 0, none⟩)]) (by simp) (by simp [go_sem]) ?_
    refine (catch_pan a b (S.W.length - k) 0 false [] _ nab H3 G3).mono ?_
    rintro e u' w'' ⟨rfl, rfl, rfl⟩
    have K1 := has_set H3 0 (.int .i64 (S.W.length - k : Nat))
    have K2 := K1.ofr (w' := (w3.setCell ⟨a, 0, none⟩ (.int .i64 (S.W.length - k : Nat))).setCell ⟨b, 0, none⟩ (.bool false)) ((Ofr.refl b none _).set 0 _) nab (by simp)
    have K3 := has_set (G3.ofr (w' := w3.setCell ⟨a, 0, none⟩ (.int .i64 (S.W.length - k : Nat))) ((Ofr.refl a none _).set 0 _) (Ne.symm nab) (by simp)) 0 (.bool false)
    have q0 := K2.cell 0
    have q1 := K3.cell 0
    simp only [List.set_cons_zero, List.getElem?_cons_zero] at q0 q1
    clear K1 K2 K3 H3 G3
    generalize (w3.setCell ⟨a, 0, none⟩ (.int .i64 (S.W.length - k : Nat))).setCell ⟨b, 0, none⟩ (.bool false) = w4 at *
    simp [Leaves, settle, results, Tryz.results12, go_sem, q0, q1]
    exact ⟨rfl, FIN.out⟩
  | ok y =>
    obtain ⟨D, bb, d⟩ := y
    rw [hr] at CP
    go_enter_defers Tryz.func12, Tryz.ntmps12
    go_wp2_with fail
    refine (CP.out).mono ?_; rintro e w3 ⟨S3, rfl, R3, hD3, hN3, hc3, hb3, hg3, o3, hls⟩
    obtain ⟨H3, G3⟩ := KEY.out w3 o3
    have a0 := H3.cell 0
    have f0 := H3.frozen 0
    have b0 := G3.cell 0
    have f1 := G3.frozen 0
    simp only [List.getElem?_cons_zero] at a0 b0
    have o3 := Lib.hid o3
    have R3 := Lib.hid R3
    have oA : Ofr a none w3 (w3.setCell ⟨a, 0, none⟩ (.int .i64 0)) := (Ofr.refl a none _).set 0 _
    have alt : a < w2.heap.size := A2.out.lt
    have R4 := R3.out.oth oA hgab.out.1 (own_neB R3.out.nodes H3 (by decide)) (own_neB R3.out.decls H3 (by decide)) (fun p hp e => by
      rcases hls p hp with h | ⟨x, h, hx⟩
      · rw [h] at e; cases e
      · rw [h] at e; injection e with e; omega)
    have G4 := G3.ofr oA (Ne.symm nab) (by simp)
    have oB : Ofr b none (w3.setCell ⟨a, 0, none⟩ (.int .i64 0)) ((w3.setCell ⟨a, 0, none⟩ (.int .i64 0)).setCell ⟨b, 0, none⟩ (.bool true)) := (Ofr.refl b none _).set 0 _
    have R5 := Lib.hid (R4.othB oB (by have := hgab.out; omega) G4 (by decide) (by decide) (by decide))
    have FIN : Hid (Ofr g none w ((w3.setCell ⟨a, 0, none⟩ (.int .i64 0)).setCell ⟨b, 0, none⟩ (.bool true))) := Lib.hid (((Ofr.of B2.out).trans o3.out (.refl _ _)).ne_oth oA hlo.out |>.ne_oth oB (by have := hlo.out; omega))
    have K2 := (has_set H3 0 (.int .i64 0)).ofr oB nab (by simp)
    have K3 := has_set G4 0 (.bool true)
    have q0 := K2.cell 0
    have q1 := K3.cell 0
    simp only [List.set_cons_zero, List.getElem?_cons_zero] at q0 q1
    clear CP K2 K3 R4 hls
    go_wp2
    refine leaves_cons (f := 20) (args := #[.pointer (some ⟨a, 0, none⟩), .pointer (some ⟨b, 0, none⟩)]) (by simp) (by simp [go_sem]) ?_
    refine (catch_idle a b _).mono ?_
    rintro e u' w'' ⟨rfl, rfl, rfl⟩
    generalize (w3.setCell ⟨a, 0, none⟩ (.int .i64 0)).setCell ⟨b, 0, none⟩ (.bool true) = w4 at *
    simp [Leaves, settle, results, Tryz.results12, go_sem, q0, q1]
    exact ⟨S3, rfl, R5.out, hD3, hN3, hc3, hb3, hg3, FIN.out⟩
/-- what Read answers -/
def bigP (D : List Dc) (b : Nd) (d : Nat) : Bool := (bigD D || decide (100 < d)) || decide (1000 < Mm.cnt b)
def parE (l : Bs) : Except (Nat × Int) (List Dc × Nd) :=
  match readE l with
  | .error y => .error y
  | .ok ws => match prg ws with
    | .error k => .error (ws.length - k, 2)
    | .ok (D, b, d) => if bigP D b d then .error (0, 4) else .ok (D, b)
/-- a tree in the memory: its declarations, its nodes, each with its list -/
structure TreeAt (w : World) (dv : Value) (D : List Dc) (nv : Value) (N : List (NdR × Value)) : Prop where
  decls : w.ownsRow 0 54 2 dv D.length (D.flatMap dcC)
  nodes : w.ownsRow 0 35 7 nv N.length (N.flatMap ndP)
  lists : ∀ p ∈ N, w.ownsRow 0 3 1 p.2 p.1.l.length (p.1.l.map (Value.int .i64))
theorem own_base {w : World} {b size n : Nat} {e : TypeId} {v : Value} {xs : List Value} (h : w.ownsRow b e size v n xs) : w.ownsRow 0 e size v n xs := by
  refine ⟨h.1, ?_⟩
  rcases h.2 with hn | ⟨g, cap, cur, e1, _, rest⟩
  · exact .inl hn
  · exact .inr ⟨g, cap, cur, e1, Nat.zero_le _, rest⟩
theorem TreeAt.below {w w' : World} {dv nv : Value} {D : List Dc} {N : List (NdR × Value)} (t : TreeAt w dv D nv N) (b : Below w.heap.size w w') : TreeAt w' dv D nv N :=
  ⟨own_belowP t.decls b, own_belowP t.nodes b, fun p hp => own_belowP (t.lists p hp) b⟩
theorem TreeAt.of {B g : Nat} {w : World} {S : Sr} (r : RdAt B g w S) : TreeAt w S.dv S.D S.nv S.N := ⟨own_base r.decls, own_base r.nodes, fun p hp => own_base (r.lists p hp)⟩
/-- another block is changed -/
theorem TreeAt.oth {w w' : World} {j : Nat} {dv nv : Value} {D : List Dc} {N : List (NdR × Value)} {t : TypeId} {cs : List Value} (x : TreeAt w dv D nv N) (o : Ofr j none w w') (h : HasB w j t cs) (h1 : 35 ≠ t) (h2 : 54 ≠ t) (h3 : 3 ≠ t) : TreeAt w' dv D nv N := by
  have key : ∀ {e : TypeId} {size n : Nat} {v : Value} {xs : List Value}, w.ownsRow 0 e size v n xs → e ≠ t → w'.ownsRow 0 e size v n xs := fun {e size n v xs} ho hne => by
    refine ⟨ho.1, ?_⟩
    rcases ho.2 with hx | ⟨b, cap, cur, rfl, hb, hgg, rest⟩
    · exact .inl hx
    · refine .inr ⟨b, cap, cur, rfl, hb, ?_, rest⟩
      rw [o.block b (Array.getElem?_eq_some_iff.1 hgg).1 (by intro e; subst e; exact own_neB ho h hne rfl) (by simp)]
      exact hgg
  exact ⟨key x.decls h2, key x.nodes h1, fun p hp => key (x.lists p hp) h3⟩
def treeV (dv nv : Value) (b : Int) : Value := .agg #[dv, nv, .int .i64 b]
def ParP (w : World) (l : Bs) (e : Ending) (w' : World) : Prop :=
  match parE l with
  | .error (k, x) => e = .returned (.tuple #[treeV (.slice none 0 0) (.slice none 0 0) 0, .int .i64 k, .int .i64 x]) ∧ Below w.heap.size w w'
  | .ok (D, b) => ∃ A B ca cb N, e = .returned (.tuple #[treeV (.slice A D.length ca) (.slice B N.length cb) (rt 0 b), .int .i64 0, .int .i64 0]) ∧ TreeAt w' (.slice A D.length ca) D (.slice B N.length cb) N ∧ N.map Prod.fst = flB 0 b ∧ N.length = Mm.cnt b ∧ Below w.heap.size w w'
theorem tr_new (w : World) : ∃ w1, w.alloc (.cells #[.slice none 0 0, .slice none 0 0, .int .i64 0] 26) = w1 ∧ HasB w1 w.heap.size 26 [.slice none 0 0, .slice none 0 0, .int .i64 0] ∧ Below w.heap.size w w1 :=
  ⟨_, rfl, HasB.new w _ _, bel_al (Below.refl _ _) _⟩
theorem SgV.lt {w : World} (h : SgV w) : 1 < w.heap.size := by
  have := h 0 _ rfl
  exact World.block_lt_of_cell? _ _ this
def S0 (V : Value) (ws : List Pc) : Sr := ⟨V, ws, 0, [], .slice none 0 0, [], .slice none 0 0, 0, 0, false⟩
theorem sl_form {B n size : Nat} {T : TypeId} {w : World} {lv : Value} {xs : List Value} (h : w.ownsRow B T size lv n xs) : ∃ A c, lv = .slice A n c := by
  rcases h.2 with ⟨e, e2⟩ | ⟨b, cap, cur, e, _⟩
  · exact ⟨none, 0, by rw [e, e2]⟩
  · exact ⟨_, cap, e⟩
theorem rd_new {w w1 : World} {A : Option Addr} {cap : Nat} {ws : List Pc} (r : PcRow w A cap ws) (hl : ws.length ≤ 4000) (sg : SgV w) (hw : w.alloc (.cells #[.slice A ws.length cap, .int .i64 0, .slice none 0 0, .slice none 0 0, .int .i64 0, .int .i64 0, .bool false] 43) = w1) : RdAt (w.heap.size + 1) w.heap.size w1 (S0 (.slice A ws.length cap) ws) := by
  subst hw
  have b1 := bel_al (Below.refl _ w) (.cells #[.slice A ws.length cap, .int .i64 0, .slice none 0 0, .slice none 0 0, .int .i64 0, .int .i64 0, .bool false] 43)
  exact ⟨by omega, by simp, HasB.new w _ _, ⟨A, cap, w, rfl, r, Nat.le_refl _, b1⟩, hl, Nat.zero_le _, World.ownsRow_nil _ _ _ _, Nat.le_refl _, World.ownsRow_nil _ _ _ _, fun p hp => (by cases hp), Nat.zero_le _, Nat.zero_le _, sg.below b1 sg.lt, sg.lt⟩
theorem readL_few {l : Bs} {ws : List Pc} (h : readE l = .ok ws) : ws.length ≤ 4000 := by
  unfold readE at h
  split at h
  · cases h
  · rename_i hl
    cases hr : readL l with
    | error k => rw [hr] at h; cases h
    | ok ps =>
      rw [hr] at h
      injection h with h
      subst h
      have := read_count hr
      omega
theorem readE_er {l : Bs} {k : Nat} {x : Int} (h : readE l = .error (k, x)) : x = 4 ∨ x = 2 := by
  unfold readE at h
  split at h
  · injection h with h; injection h with _ h; exact .inl h.symm
  · split at h
    · cases h
    · injection h with h; injection h with _ h; exact .inr h.symm
/-- the result, stored into the cells of the tree that is handed out -/
theorem tr_st {w W : World} {j : Nat} {t0 t1 t2 : Value} (h : HasB W j 26 [t0, t1, t2]) (u0 u1 u2 : Value) : ∃ W', ((W.setCell ⟨j, 0, none⟩ u0).setCell ⟨j, 1, none⟩ u1).setCell ⟨j, 2, none⟩ u2 = W' ∧ HasB W' j 26 [u0, u1, u2] ∧ Ofr j none W W' :=
  ⟨_, rfl, has_set (has_set (has_set h 0 u0) 1 u1) 2 u2, (((Ofr.refl j none W).set 0 u0).set 1 u1).set 2 u2⟩
set_option maxHeartbeats 16000000 in
theorem parse_any (s : ByteArray) (hs : s.size ≤ 100000) (w : World) (hE : ErrV w) (sg : SgV w) : Calls Tryz.prog 9 #[.string s] w (ParP w s.data.toList) := by
  obtain ⟨w1, e1, N1, B1⟩ := tr_new w
  have CR := Lib.hid (read_any s hs w1 (hE.below B1))
  have sg1 := Lib.hid (sg.below B1 sg.lt)
  have N1 := Lib.hid N1
  have B1 := Lib.hid B1
  obtain ⟨PE, hPE⟩ : ∃ PE, Hid (parE s.data.toList = PE) := ⟨_, Lib.hid rfl⟩
  have hPP : Hid (∀ e w', (match PE with | .error (k, x) => e = Ending.returned (.tuple #[treeV (.slice none 0 0) (.slice none 0 0) 0, .int .i64 (k : Nat), .int .i64 x]) ∧ Below w.heap.size w w' | .ok (D, b) => ∃ A B ca cb N, e = .returned (.tuple #[treeV (.slice A D.length ca) (.slice B N.length cb) (rt 0 b), .int .i64 0, .int .i64 0]) ∧ TreeAt w' (.slice A D.length ca) D (.slice B N.length cb) N ∧ N.map Prod.fst = flB 0 b ∧ N.length = Mm.cnt b ∧ Below w.heap.size w w') → ParP w s.data.toList e w') := Lib.hid (fun e w' h => by unfold ParP; rw [hPE.out]; exact h)
  have n0 := N1.out.cell 0
  have n1 := N1.out.cell 1
  have n2 := N1.out.cell 2
  have f0 := N1.out.frozen 0
  have f1 := N1.out.frozen 1
  have f2 := N1.out.frozen 2
  simp only [List.getElem?_cons_zero, List.getElem?_cons_succ] at n0 n1 n2
  clear hE sg
  cases hre : readE s.data.toList with
  | error y =>
    obtain ⟨k, x⟩ := y
    have hX := Lib.hid (show PE = .error (k, x) by rw [← hPE.out]; unfold parE; rw [hre])
    unfold ReadP at CR
    rw [hre] at CR
    simp only at CR
    have hx0 : ¬ x = 0 := by have := readE_er hre; omega
    go_enter Tryz.func9, Tryz.ntmps9
    go_wp2_with fail
    refine (CR.out).mono ?_; rintro e w2 ⟨rfl, b2⟩
    have N2 := N1.out.below b2
    have B2 := Lib.hid (bel_then B1.out b2)
    have t0 := N2.cell 0
    have t1 := N2.cell 1
    have t2 := N2.cell 2
    have g0 := N2.frozen 0
    have g1 := N2.frozen 1
    have g2 := N2.frozen 2
    simp only [List.getElem?_cons_zero, List.getElem?_cons_succ] at t0 t1 t2
    obtain ⟨w3, e3, N3, o3⟩ := tr_st (w := w) N2 (.slice none 0 0) (.slice none 0 0) (.int .i64 0)
    have q0 := N3.cell 0
    have q1 := N3.cell 1
    have q2 := N3.cell 2
    simp only [List.getElem?_cons_zero, List.getElem?_cons_succ] at q0 q1 q2
    have B3 := Lib.hid (o3.below B2.out (Nat.le_trans B1.out.size b2.size) (Nat.le_refl _) (by intro k e; cases e))
    clear CR b2 N2 N3 o3
    go_wp2
    exact bodyPost_ret (v := .tuple #[treeV (.slice none 0 0) (.slice none 0 0) 0, .int .i64 k, .int .i64 x]) (by simp [results, Tryz.results9, go_sem, treeV, q0, q1, q2]) rfl (hPP.out _ _ (by rw [hX.out]; exact ⟨rfl, B3.out⟩))
  | ok ws =>
    have hl := Lib.hid (readL_few hre)
    unfold ReadP at CR
    rw [hre] at CR
    simp only at CR
    cases hp : prg ws with
    | error k =>
      have hX := Lib.hid (show PE = .error (ws.length - k, 2) by rw [← hPE.out]; unfold parE; rw [hre]; simp only [hp])
      go_enter Tryz.func9, Tryz.ntmps9
      go_wp2_with fail
      refine (CR.out).mono ?_; rintro e w2 ⟨A, cap, rfl, r2, b2⟩
      have N2 := N1.out.below b2
      have sg2 := sg1.out.below b2 sg1.out.lt
      have B2 := Lib.hid (bel_then B1.out b2)
      obtain ⟨w3, e3, R3, B3⟩ : ∃ w3, w2.alloc (.cells #[.slice A ws.length cap, .int .i64 0, .slice none 0 0, .slice none 0 0, .int .i64 0, .int .i64 0, .bool false] 43) = w3 ∧ RdAt (w2.heap.size + 1) w2.heap.size w3 (S0 (.slice A ws.length cap) ws) ∧ Below w2.heap.size w2 w3 := ⟨_, rfl, rd_new r2 hl.out sg2 rfl, bel_al (Below.refl _ _) _⟩
      have N3 := Lib.hid (N2.below B3)
      have sz2 := Lib.hid (Nat.le_trans B1.out.size b2.size)
      have CA := all_any R3 rfl rfl rfl rfl rfl rfl rfl
      have B3 := Lib.hid (B2.out.trans (B3.mono sz2.out))
      have ltN := Lib.hid (show w.heap.size < w2.heap.size from Nat.lt_of_lt_of_le N1.out.lt b2.size)
      have r3 := R3.cells
      clear CR b2 N2 sg2 r2
      unfold AllP at CA
      rw [show (S0 (.slice A ws.length cap) ws).W = ws from rfl, hp] at CA
      simp only at CA
      replace CA := Lib.hid CA
      go_wp2_with fail
      refine (CA.out).mono ?_; rintro e w4 ⟨rfl, o4⟩
      have N4 := N3.out.ofr o4 (by have := ltN.out; omega) (by simp)
      have B4 := Lib.hid (o4.below B3.out (Nat.le_trans sz2.out (by rw [← e3]; simp)) sz2.out (by intro k e; cases e))
      have sz4 := Lib.hid (Nat.le_trans (Nat.le_trans sz2.out (show w2.heap.size ≤ w3.heap.size by rw [← e3]; simp)) o4.size)
      have t0 := N4.cell 0
      have t1 := N4.cell 1
      have t2 := N4.cell 2
      have g0 := N4.frozen 0
      have g1 := N4.frozen 1
      have g2 := N4.frozen 2
      simp only [List.getElem?_cons_zero, List.getElem?_cons_succ] at t0 t1 t2
      clear o4 N3
      obtain ⟨w5, e5, N5, o5⟩ := tr_st (w := w) N4 (.slice none 0 0) (.slice none 0 0) (.int .i64 0)
      have q0 := N5.cell 0
      have q1 := N5.cell 1
      have q2 := N5.cell 2
      simp only [List.getElem?_cons_zero, List.getElem?_cons_succ] at q0 q1 q2
      have B5 := Lib.hid (o5.below B4.out sz4.out (Nat.le_refl _) (by intro k e; cases e))
      clear CA N4 N5 o5
      go_wp2
      exact bodyPost_ret (v := .tuple #[treeV (.slice none 0 0) (.slice none 0 0) 0, .int .i64 (ws.length - k : Nat), .int .i64 2]) (by simp [results, Tryz.results9, go_sem, treeV, q0, q1, q2]) rfl (hPP.out _ _ (by rw [hX.out]; exact ⟨rfl, B5.out⟩))
    | ok y =>
      obtain ⟨D, b, d⟩ := y
      cases hg : (bigD D || decide (100 < d)) with
      | true =>
        have hX := Lib.hid (show PE = .error (0, 4) by rw [← hPE.out]; unfold parE; rw [hre]; simp only [hp]; rw [if_pos (by unfold bigP; rw [hg]; rfl)])
        go_enter Tryz.func9, Tryz.ntmps9
        go_wp2_with fail
        refine (CR.out).mono ?_; rintro e w2 ⟨A, cap, rfl, r2, b2⟩
        have N2 := N1.out.below b2
        have sg2 := sg1.out.below b2 sg1.out.lt
        have B2 := Lib.hid (bel_then B1.out b2)
        obtain ⟨w3, e3, R3, B3⟩ : ∃ w3, w2.alloc (.cells #[.slice A ws.length cap, .int .i64 0, .slice none 0 0, .slice none 0 0, .int .i64 0, .int .i64 0, .bool false] 43) = w3 ∧ RdAt (w2.heap.size + 1) w2.heap.size w3 (S0 (.slice A ws.length cap) ws) ∧ Below w2.heap.size w2 w3 := ⟨_, rfl, rd_new r2 hl.out sg2 rfl, bel_al (Below.refl _ _) _⟩
        have N3 := Lib.hid (N2.below B3)
        have sz2 := Lib.hid (Nat.le_trans B1.out.size b2.size)
        have CA := all_any R3 rfl rfl rfl rfl rfl rfl rfl
        have B3 := Lib.hid (B2.out.trans (B3.mono sz2.out))
        have ltN := Lib.hid (show w.heap.size < w2.heap.size from Nat.lt_of_lt_of_le N1.out.lt b2.size)
        have r3 := R3.cells
        clear CR b2 N2 sg2 r2
        unfold AllP at CA
        rw [show (S0 (.slice A ws.length cap) ws).W = ws from rfl, hp] at CA
        simp only at CA
        replace CA := Lib.hid CA
        go_wp2_with fail
        refine (CA.out).mono ?_; rintro e w4 ⟨S4, rfl, R4, hD4, hN4, hc4, hb4, hg4, o4⟩
        have R4 := Lib.hid R4
        have N4 := N3.out.ofr o4 (by have := ltN.out; omega) (by simp)
        have B4 := Lib.hid (o4.below B3.out (Nat.le_trans sz2.out (by rw [← e3]; simp)) sz2.out (by intro k e; cases e))
        have sz4 := Lib.hid (Nat.le_trans (Nat.le_trans sz2.out (show w2.heap.size ≤ w3.heap.size by rw [← e3]; simp)) o4.size)
        have t0 := N4.cell 0
        have t1 := N4.cell 1
        have t2 := N4.cell 2
        have g0 := N4.frozen 0
        have g1 := N4.frozen 1
        have g2 := N4.frozen 2
        simp only [List.getElem?_cons_zero, List.getElem?_cons_succ] at t0 t1 t2
        clear o4 N3
        have c6 := R4.out.c6
        rw [hg4, hg] at c6
        obtain ⟨w5, e5, N5, o5⟩ := tr_st (w := w) N4 (.slice none 0 0) (.slice none 0 0) (.int .i64 0)
        have q0 := N5.cell 0
        have q1 := N5.cell 1
        have q2 := N5.cell 2
        simp only [List.getElem?_cons_zero, List.getElem?_cons_succ] at q0 q1 q2
        have B5 := Lib.hid (o5.below B4.out sz4.out (Nat.le_refl _) (by intro k e; cases e))
        clear CA N4 N5 o5
        go_wp2
        exact bodyPost_ret (v := .tuple #[treeV (.slice none 0 0) (.slice none 0 0) 0, .int .i64 0, .int .i64 4]) (by simp [results, Tryz.results9, go_sem, treeV, q0, q1, q2]) rfl (hPP.out _ _ (by rw [hX.out]; exact ⟨rfl, B5.out⟩))
      | false =>
        by_cases hc : 1000 < Mm.cnt b
        · have hX := Lib.hid (show PE = .error (0, 4) by rw [← hPE.out]; unfold parE; rw [hre]; simp only [hp]; rw [if_pos (by unfold bigP; rw [hg]; simp [hc])])
          go_enter Tryz.func9, Tryz.ntmps9
          go_wp2_with fail
          refine (CR.out).mono ?_; rintro e w2 ⟨A, cap, rfl, r2, b2⟩
          have N2 := N1.out.below b2
          have sg2 := sg1.out.below b2 sg1.out.lt
          have B2 := Lib.hid (bel_then B1.out b2)
          obtain ⟨w3, e3, R3, B3⟩ : ∃ w3, w2.alloc (.cells #[.slice A ws.length cap, .int .i64 0, .slice none 0 0, .slice none 0 0, .int .i64 0, .int .i64 0, .bool false] 43) = w3 ∧ RdAt (w2.heap.size + 1) w2.heap.size w3 (S0 (.slice A ws.length cap) ws) ∧ Below w2.heap.size w2 w3 := ⟨_, rfl, rd_new r2 hl.out sg2 rfl, bel_al (Below.refl _ _) _⟩
          have N3 := Lib.hid (N2.below B3)
          have sz2 := Lib.hid (Nat.le_trans B1.out.size b2.size)
          have CA := all_any R3 rfl rfl rfl rfl rfl rfl rfl
          have B3 := Lib.hid (B2.out.trans (B3.mono sz2.out))
          have ltN := Lib.hid (show w.heap.size < w2.heap.size from Nat.lt_of_lt_of_le N1.out.lt b2.size)
          have r3 := R3.cells
          clear CR b2 N2 sg2 r2
          unfold AllP at CA
          rw [show (S0 (.slice A ws.length cap) ws).W = ws from rfl, hp] at CA
          simp only at CA
          replace CA := Lib.hid CA
          go_wp2_with fail
          refine (CA.out).mono ?_; rintro e w4 ⟨S4, rfl, R4, hD4, hN4, hc4, hb4, hg4, o4⟩
          have R4 := Lib.hid R4
          have N4 := N3.out.ofr o4 (by have := ltN.out; omega) (by simp)
          have B4 := Lib.hid (o4.below B3.out (Nat.le_trans sz2.out (by rw [← e3]; simp)) sz2.out (by intro k e; cases e))
          have sz4 := Lib.hid (Nat.le_trans (Nat.le_trans sz2.out (show w2.heap.size ≤ w3.heap.size by rw [← e3]; simp)) o4.size)
          have t0 := N4.cell 0
          have t1 := N4.cell 1
          have t2 := N4.cell 2
          have g0 := N4.frozen 0
          have g1 := N4.frozen 1
          have g2 := N4.frozen 2
          simp only [List.getElem?_cons_zero, List.getElem?_cons_succ] at t0 t1 t2
          clear o4 N3
          have c6 := R4.out.c6
          rw [hg4, hg] at c6
          have c3 := R4.out.c3
          obtain ⟨An, cn, hnv⟩ : ∃ A c, S4.nv = .slice A S4.N.length c := sl_form R4.out.nodes
          rw [hnv, hc4] at c3
          have hcz : (1000 : Int) < (Mm.cnt b : Int) := by omega
          obtain ⟨w5, e5, N5, o5⟩ := tr_st (w := w) N4 (.slice none 0 0) (.slice none 0 0) (.int .i64 0)
          have q0 := N5.cell 0
          have q1 := N5.cell 1
          have q2 := N5.cell 2
          simp only [List.getElem?_cons_zero, List.getElem?_cons_succ] at q0 q1 q2
          have B5 := Lib.hid (o5.below B4.out sz4.out (Nat.le_refl _) (by intro k e; cases e))
          clear CA N4 N5 o5
          go_wp2
          exact bodyPost_ret (v := .tuple #[treeV (.slice none 0 0) (.slice none 0 0) 0, .int .i64 0, .int .i64 4]) (by simp [results, Tryz.results9, go_sem, treeV, q0, q1, q2]) rfl (hPP.out _ _ (by rw [hX.out]; exact ⟨rfl, B5.out⟩))
        · have hX := Lib.hid (show PE = .ok (D, b) by rw [← hPE.out]; unfold parE; rw [hre]; simp only [hp]; rw [if_neg (by unfold bigP; rw [hg]; simp [hc])])
          go_enter Tryz.func9, Tryz.ntmps9
          go_wp2_with fail
          refine (CR.out).mono ?_; rintro e w2 ⟨A, cap, rfl, r2, b2⟩
          have N2 := N1.out.below b2
          have sg2 := sg1.out.below b2 sg1.out.lt
          have B2 := Lib.hid (bel_then B1.out b2)
          obtain ⟨w3, e3, R3, B3⟩ : ∃ w3, w2.alloc (.cells #[.slice A ws.length cap, .int .i64 0, .slice none 0 0, .slice none 0 0, .int .i64 0, .int .i64 0, .bool false] 43) = w3 ∧ RdAt (w2.heap.size + 1) w2.heap.size w3 (S0 (.slice A ws.length cap) ws) ∧ Below w2.heap.size w2 w3 := ⟨_, rfl, rd_new r2 hl.out sg2 rfl, bel_al (Below.refl _ _) _⟩
          have N3 := Lib.hid (N2.below B3)
          have sz2 := Lib.hid (Nat.le_trans B1.out.size b2.size)
          have CA := all_any R3 rfl rfl rfl rfl rfl rfl rfl
          have B3 := Lib.hid (B2.out.trans (B3.mono sz2.out))
          have ltN := Lib.hid (show w.heap.size < w2.heap.size from Nat.lt_of_lt_of_le N1.out.lt b2.size)
          have r3 := R3.cells
          clear CR b2 N2 sg2 r2
          unfold AllP at CA
          rw [show (S0 (.slice A ws.length cap) ws).W = ws from rfl, hp] at CA
          simp only at CA
          replace CA := Lib.hid CA
          go_wp2_with fail
          refine (CA.out).mono ?_; rintro e w4 ⟨S4, rfl, R4, hD4, hN4, hc4, hb4, hg4, o4⟩
          have R4 := Lib.hid R4
          have N4 := N3.out.ofr o4 (by have := ltN.out; omega) (by simp)
          have B4 := Lib.hid (o4.below B3.out (Nat.le_trans sz2.out (by rw [← e3]; simp)) sz2.out (by intro k e; cases e))
          have sz4 := Lib.hid (Nat.le_trans (Nat.le_trans sz2.out (show w2.heap.size ≤ w3.heap.size by rw [← e3]; simp)) o4.size)
          have t0 := N4.cell 0
          have t1 := N4.cell 1
          have t2 := N4.cell 2
          have g0 := N4.frozen 0
          have g1 := N4.frozen 1
          have g2 := N4.frozen 2
          simp only [List.getElem?_cons_zero, List.getElem?_cons_succ] at t0 t1 t2
          clear o4 N3
          have c6 := R4.out.c6
          rw [hg4, hg] at c6
          have c2 := R4.out.c2
          have c3 := R4.out.c3
          have c4 := R4.out.c4
          obtain ⟨An, cn, hnv⟩ : ∃ A c, S4.nv = .slice A S4.N.length c := sl_form R4.out.nodes
          obtain ⟨Ad, cd, hdv⟩ : ∃ A c, S4.dv = .slice A S4.D.length c := sl_form R4.out.decls
          have TT := TreeAt.of R4.out
          rw [hnv, hdv] at TT
          rw [hnv] at c3
          rw [hdv] at c2
          rw [hb4] at c4
          have hcz : ¬ (1000 : Int) < (Mm.cnt b : Int) := by omega
          rw [hD4] at TT c2
          rw [hc4] at TT c3
          obtain ⟨w5, e5, N5, o5⟩ := tr_st (w := w) N4 (.slice Ad D.length cd) (.slice An (Mm.cnt b) cn) (.int .i64 (rt 0 b))
          have q0 := N5.cell 0
          have q1 := N5.cell 1
          have q2 := N5.cell 2
          simp only [List.getElem?_cons_zero, List.getElem?_cons_succ] at q0 q1 q2
          have B5 := Lib.hid (o5.below B4.out sz4.out (Nat.le_refl _) (by intro k e; cases e))
          have T5 := Lib.hid (TT.oth o5 N4 (by decide) (by decide) (by decide))
          clear CA N4 N5 o5 TT
          obtain ⟨zb, hzb⟩ : ∃ zb, rt 0 b = zb := ⟨_, rfl⟩
          rw [hzb] at c4 q2 e5
          go_wp2
          exact bodyPost_ret (v := .tuple #[treeV (.slice Ad D.length cd) (.slice An (Mm.cnt b) cn) zb, .int .i64 0, .int .i64 0]) (by simp [results, Tryz.results9, go_sem, treeV, q0, q1, q2]) rfl (hPP.out _ _ (by rw [hX.out]; exact ⟨Ad, An, cd, cn, S4.N, by rw [hc4, hzb], by rw [hc4]; exact T5.out, hN4, hc4, B5.out⟩))
end Go.Proofs.YtkacplcilkogpaaGreatDoor.Mm
