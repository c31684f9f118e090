/- The statement GateTold, walked, over the contracts of package gate. -/
import Derived.Test.YtjfhoaahohinhaaGateC
namespace Go.Proofs.Ytjfhoaahohinhaa.Mm
open Go.ChangeShapes Go.WideShapes Go.ChangeAt Go.RowKit
set_option linter.unusedVariables false

def regC (r0 : Int) : Cp := ⟨0, [r0, 0, 0, 0, 0, 0, 0, 0], 0, 0⟩
theorem regC_ok {r0 : Int} (h : U32 r0) : (regC r0).Ok := ⟨u32_0, rfl, fun x hx => by
  simp [regC] at hx
  rcases hx with rfl | rfl
  · exact h
  · exact u32_0, u32_0, u32_0⟩
def toldW (l : List Int) (j : Nat) (T : List Ev) : Wd := ⟨l, (min j l.length : Nat), T, false, 0⟩
def wantV (l : List Int) (j : Nat) : Int := if j < l.length then l.getD j 0 else 0
theorem told_s (l : List Int) (j : Nat) (T : List Ev) (r0 : Int) : gateS (regC r0) 0 (toldW l j T) 2 = (regC (wantV l j), toldW l (j + 1) (T ++ [(2, wantV l j)])) := by
  have e1 : max ((min j l.length : Nat) : Int) 0 = (min j l.length : Nat) := by omega
  have hv : repV (toldW l j T) = wantV l j := by
    unfold repV wantV
    simp only [toldW, e1, Int.toNat_natCast]
    by_cases h : j < l.length
    · rw [if_pos (by omega), if_pos h, show min j l.length = j by omega]
    · rw [if_neg (by omega), if_neg h]
  have ht : repT (toldW l j T) = (min (j + 1) l.length : Nat) := by
    unfold repT
    simp only [toldW, e1]
    by_cases h : j < l.length
    · rw [if_pos (by omega)]; omega
    · rw [if_neg (by omega)]; omega
  unfold gateS
  rw [if_neg (by simp [toldW]), if_neg (by omega), if_neg (by omega), if_pos rfl, hv, ht]
  rfl
/-- Do, gate 2, as the statement calls it -/
theorem told_do (DC : DoGC) (l : List Int) (n : Nat) (hl : l.length = n) (hn : n ≤ 50) (hL : ∀ x ∈ l, (Lit.int .u32 x).wf = true) (j : Nat) (hj : j ≤ 60) (T : List Ev) (hT : T.length = j) (r0 : Int) (hr : U32 r0)
    (w : World) (RA : Option Addr) (rc : Nat) (TA : Option Addr) (tc : Nat) (h1 : KRow .u32 w RA rc l) (h2 : EvRow w TA tc T) :
    Calls Try.prog 11 #[.agg #[.int .u32 0, .int .u32 r0, .int .u32 0, .int .u32 0, .int .u32 0, .int .u32 0, .int .u32 0, .int .u32 0, .int .u32 0, .int .u32 0, .int .u32 0], .pointer none, .agg #[.slice RA n rc, .int .i64 (min j n : Nat), .slice TA j tc, .bool false, .int .u32 0], .int .i64 2] w fun e w' =>
      ∃ RA' rc' TA' tc', e = .returned (.tuple #[.agg #[.int .u32 0, .int .u32 (wantV l j), .int .u32 0, .int .u32 0, .int .u32 0, .int .u32 0, .int .u32 0, .int .u32 0, .int .u32 0, .int .u32 0, .int .u32 0], .agg #[.slice RA' n rc', .int .i64 (min (j + 1) n : Nat), .slice TA' (j + 1) tc', .bool false, .int .u32 0]]) ∧ KRow .u32 w' RA' rc' l ∧ EvRow w' TA' tc' (T ++ [(2, wantV l j)]) ∧ Below w.heap.size w w' ∧ OffR w RA TA RA' TA' := by
  have h := DC (regC r0) none (toldW l j T) 2 0 (regC_ok hr) ⟨by simp [toldW]; omega, by simp [toldW]; omega, by simp [toldW]; omega, u32_0⟩ (by omega) w RA rc TA tc h1 h2 (fun h => by omega)
  rw [told_s] at h
  subst hl
  have e : (toldW l j T).val RA rc TA tc = .agg #[.slice RA l.length rc, .int .i64 (min j l.length : Nat), .slice TA j tc, .bool false, .int .u32 0] := by unfold Wd.val toldW; rw [← hT]
  rw [e] at h
  refine h.mono ?_
  rintro e w' ⟨RA', rc', TA', tc', rfl, k1, k2, k3, k4⟩
  refine ⟨RA', rc', TA', tc', ?_, k1, k2, k3, k4⟩
  unfold Wd.val toldW
  simp only [List.length_append, List.length_cons, List.length_nil, hT]
  rfl
theorem want_wf {l : List Int} (hL : ∀ x ∈ l, (Lit.int .u32 x).wf = true) (j : Nat) : U32 (wantV l j) := by
  unfold wantV
  split
  · rename_i h
    have := hL (l.getD j 0) (by rw [List.getD_eq_getElem?_getD, List.getElem?_eq_getElem h]; exact List.getElem_mem _)
    have := bounds_u32 this
    unfold U32; omega
  · exact u32_0
set_option maxRecDepth 10000 in
set_option maxHeartbeats 4000000 in
theorem vtold_few (AW : Hid AwG) (DC : Hid DoGC) (A0 : Option Addr) (ca n : Nat) (l : List Int) (hl : l.length = n) (hn : n ≤ 50) (q : Int) (hq : 0 ≤ q ∧ q ≤ 255) (w : World) (rA : KRow .u32 w A0 ca l) :
    Calls Try.prog 5 #[.slice A0 n ca, .int .u8 q] w fun e w' => e = .returned (.bool true) ∧ Below w.heap.size w w' := by
  have TD := Lib.hid (fun j hj T hT r0 hr w' RA rc TA tc h1 h2 => told_do DC.out l n hl hn rA.2.2.1 j hj T hT r0 hr w' RA rc TA tc h1 h2)
  have WV := Lib.hid (fun j => want_wf rA.2.2.1 j)
  have RA0 := Lib.hid rA
  have HL := Lib.hid hl
  have hA0 : Hid (∀ g h, w.heap.size ≤ g → w.heap.size ≤ h → l = [] ∨ (Off A0 g ∧ Off A0 h)) := Lib.hid (fun g h hg hh => by
    by_cases h0 : l = []
    · exact .inl h0
    · obtain ⟨p, hp, hb, _⟩ := rA.2.2.2 h0
      exact .inr ⟨fun x hx he => (by rw [hp] at hx; cases hx; omega), fun x hx he => (by rw [hp] at hx; cases hx; omega)⟩)
  obtain ⟨q0, q1⟩ := hq
  have hqm : 0 ≤ q % 60 ∧ q % 60 < 60 := by omega
  obtain ⟨m, hm⟩ : ∃ m : Nat, q % 60 = (m : Int) := ⟨(q % 60).toNat, by omega⟩
  have htm : q.tmod 60 = (m : Int) := by rw [Int.tmod_eq_emod_of_nonneg q0, hm]
  have hm6 : m < 60 := by omega
  clear rA hl hqm
  go_enter Try.func5, Try.ntmps5
  go_wp2_with fail
  refine (AW.out _).mono ?_; rintro e w1 ⟨rfl, hb1⟩
  have B1 := Lib.hid hb1; clear hb1
  go_wp2_with fail
  obtain ⟨w2, e2, HC, HW, hb2⟩ := boxG w1 #[.int .u32 0, .int .u32 0, .int .u32 0, .int .u32 0, .int .u32 0, .int .u32 0, .int .u32 0, .int .u32 0, .int .u32 0, .int .u32 0, .int .u32 0] (.slice A0 n ca) (.int .i64 0) (.slice none 0 0) (.bool false) (.int .u32 0)
  have hsz : w.heap.size ≤ w1.heap.size := B1.out.size
  have B2 := Lib.hid (B1.out.trans (hb2.mono B1.out.size))
  have RK := Lib.hid (RA0.out.below B2.out)
  have OA := Lib.hid (hA0.out w1.heap.size (w1.heap.size + 1) hsz (by omega))
  rw [e2]
  have hgg : w1.heap.size ≤ w1.heap.size := Nat.le_refl _
  generalize hg : w1.heap.size = g at *
  have hwg : w.heap.size ≤ g := hsz
  have HCh := Lib.hid HC
  have HWh := Lib.hid HW
  clear HC HW
  clear e2 hb2 hA0 B1 hsz hgg hg
  generalize hq : w2 = wq at *
  clear hq
  go_loopw [7] (fun v wr => ∃ (j : Nat) (r0 : Int) (RA : Option Addr) (rc : Nat) (TA : Option Addr) (tc : Nat) (T : List Ev), v = .int .i64 j ∧ j ≤ m ∧ Hid (U32 r0) ∧ Hid (T.length = j) ∧ Hid (HasB wr g 35 [.int .u32 0, .int .u32 r0, .int .u32 0, .int .u32 0, .int .u32 0, .int .u32 0, .int .u32 0, .int .u32 0, .int .u32 0, .int .u32 0, .int .u32 0]) ∧ Hid (HasB wr (g + 1) 40 [.slice RA n rc, .int .i64 (min j n : Nat), .slice TA j tc, .bool false, .int .u32 0]) ∧ Hid (KRow .u32 wr RA rc l) ∧ Hid (EvRow wr TA tc T) ∧ Hid (l = [] ∨ (Off RA g ∧ Off RA (g + 1))) ∧ Hid (Off TA g ∧ Off TA (g + 1)) ∧ Hid (Below w.heap.size w wr)) (fun v _ => m - (intOf v).toNat)
  case atStart => exact ⟨0, 0, A0, ca, none, 0, [], rfl, by omega, Lib.hid u32_0, Lib.hid rfl, HCh, by simpa using HWh, RK, Lib.hid (evRow_nil _), OA, Lib.hid ⟨off_none _, off_none _⟩, B2⟩
  case round =>
    clear HCh HWh RK OA B2
    obtain ⟨j, r0, RA, rc, TA, tc, T, rfl, hj, HR, HT, HC, HW, RK, RE, OA, OT, HB⟩ := hrel
    by_cases hlt : j < m
    · have D1 := Lib.hid (TD.out j (by omega) T HT.out r0 HR.out wr RA rc TA tc RK.out RE.out)
      by_cases hjn : j < n
      · have m1 : min j n = j := by omega
        have m2 : min (j + 1) n = j + 1 := by omega
        rw [m1] at HW
        rw [m1, m2] at D1
        have hv : wantV l j = l.getD j 0 := by unfold wantV; rw [if_pos (by rw [HL.out]; exact hjn)]
        have hwv := WV.out j
        rw [hv] at D1 hwv
        clear hv
        obtain ⟨pA, hpA, hcA, _⟩ := (RA0.out.below HB.out).at (i := j) (by rw [HL.out]; exact hjn)
        subst hpA
        have hpl : pA.block < w.heap.size := by
          obtain ⟨p, hp, hb, _⟩ := RA0.out.2.2.2 (by intro e; have := HL.out; rw [e] at this; simp at this; omega)
          cases hp; exact hb
        generalize l.getD j 0 = vv at *
        have ac0 := HC.out.cell 0; have af0 := HC.out.frozen 0
        have ac1 := HC.out.cell 1; have af1 := HC.out.frozen 1
        have ac2 := HC.out.cell 2; have af2 := HC.out.frozen 2
        have ac3 := HC.out.cell 3; have af3 := HC.out.frozen 3
        have ac4 := HC.out.cell 4; have af4 := HC.out.frozen 4
        have ac5 := HC.out.cell 5; have af5 := HC.out.frozen 5
        have ac6 := HC.out.cell 6; have af6 := HC.out.frozen 6
        have ac7 := HC.out.cell 7; have af7 := HC.out.frozen 7
        have ac8 := HC.out.cell 8; have af8 := HC.out.frozen 8
        have ac9 := HC.out.cell 9; have af9 := HC.out.frozen 9
        have ac10 := HC.out.cell 10; have af10 := HC.out.frozen 10
        simp only [List.getElem?_cons_succ, List.getElem?_cons_zero] at ac0 ac1 ac2 ac3 ac4 ac5 ac6 ac7 ac8 ac9 ac10
        have bc0 := HW.out.cell 0; have bf0 := HW.out.frozen 0
        have bc1 := HW.out.cell 1; have bf1 := HW.out.frozen 1
        have bc2 := HW.out.cell 2; have bf2 := HW.out.frozen 2
        have bc3 := HW.out.cell 3; have bf3 := HW.out.frozen 3
        have bc4 := HW.out.cell 4; have bf4 := HW.out.frozen 4
        simp only [List.getElem?_cons_succ, List.getElem?_cons_zero] at bc0 bc1 bc2 bc3 bc4
        go_wp2_with fail
        refine D1.out.mono ?_; rintro e w4 ⟨RA', rc', TA', tc', rfl, k1, k2, k3, k4⟩
        have HC4 := Lib.hid (HC.out.below k3)
        have HW4 := Lib.hid (HW.out.below k3)
        obtain ⟨W5, e5⟩ : ∃ W5, w4.setCell ⟨g, 1, none⟩ (.int .u32 vv) = W5 := ⟨_, rfl⟩
        have C5 : HasB W5 g 35 [.int .u32 0, .int .u32 vv, .int .u32 0, .int .u32 0, .int .u32 0, .int .u32 0, .int .u32 0, .int .u32 0, .int .u32 0, .int .u32 0, .int .u32 0] := by rw [← e5]; exact has_set HC4.out 1 _
        have V5 : HasB W5 (g + 1) 40 [.slice RA n rc, .int .i64 (j : Nat), .slice TA j tc, .bool false, .int .u32 0] := by rw [← e5]; exact has_far HW4.out (by omega) 1 _
        obtain ⟨W6, e6⟩ : ∃ W6, W5.setCell ⟨g + 1, 0, none⟩ (.slice RA' n rc') = W6 := ⟨_, rfl⟩
        have V6 : HasB W6 (g + 1) 40 [.slice RA' n rc', .int .i64 (j : Nat), .slice TA j tc, .bool false, .int .u32 0] := by rw [← e6]; exact has_set V5 0 _
        obtain ⟨W7, e7⟩ : ∃ W7, W6.setCell ⟨g + 1, 1, none⟩ (.int .i64 ((j + 1 : Nat) : Int)) = W7 := ⟨_, rfl⟩
        have V7 : HasB W7 (g + 1) 40 [.slice RA' n rc', .int .i64 ((j + 1 : Nat) : Int), .slice TA j tc, .bool false, .int .u32 0] := by rw [← e7]; exact has_set V6 1 _
        have X7 : Chg g (g + 1) w4 W7 := by rw [← e7, ← e6, ← e5]; exact chg_set (chg_set (chg_set (Chg.refl _ _ _) _ (.inl rfl) _ _) _ (.inr rfl) _ _) _ (.inr rfl) _ _
        have C7 : HasB W7 g 35 [.int .u32 0, .int .u32 vv, .int .u32 0, .int .u32 0, .int .u32 0, .int .u32 0, .int .u32 0, .int .u32 0, .int .u32 0, .int .u32 0, .int .u32 0] := by rw [← e7, ← e6]; exact has_far (has_far C5 (by omega) _ _) (by omega) _ _
        have e7' : W6.setCell ⟨g + 1, 1, none⟩ (.int .i64 ((j : Int) + 1)) = W7 := by rw [← e7]; rfl
        obtain ⟨W8, e8⟩ : ∃ W8, W7.setCell ⟨g + 1, 2, none⟩ (.slice TA' (j + 1) tc') = W8 := ⟨_, rfl⟩
        have V8 : HasB W8 (g + 1) 40 [.slice RA' n rc', .int .i64 ((j + 1 : Nat) : Int), .slice TA' (j + 1) tc', .bool false, .int .u32 0] := by rw [← e8]; exact has_set V7 2 _
        have C8 : HasB W8 g 35 [.int .u32 0, .int .u32 vv, .int .u32 0, .int .u32 0, .int .u32 0, .int .u32 0, .int .u32 0, .int .u32 0, .int .u32 0, .int .u32 0, .int .u32 0] := by rw [← e8]; exact has_far C7 (by omega) _ _
        have X8 : Chg g (g + 1) w4 W8 := by rw [← e8]; exact chg_set X7 _ (.inr rfl) _ _
        have gl := HC.out.lt
        have gl' := HW.out.lt
        have OA8 : Hid (l = [] ∨ (Off RA' g ∧ Off RA' (g + 1))) := Lib.hid (OA.out.elim .inl (fun h => .inr ⟨k4.1 g gl h.1, k4.1 (g + 1) gl' h.2⟩))
        have OT8 : Hid (Off TA' g ∧ Off TA' (g + 1)) := Lib.hid ⟨k4.2 g gl OT.out.1, k4.2 (g + 1) gl' OT.out.2⟩
        have RK8 := Lib.hid (k1.chg' X8 OA8.out)
        have RE8 := Lib.hid (k2.chg X8 OT8.out.1 OT8.out.2)
        have B8 := Lib.hid (X8.below (bel_then HB.out k3) (bel_then HB.out k3).size (by omega) (by omega))
        have HT8 : Hid ((T ++ [((2 : Int), (vv : Int))]).length = j + 1) := Lib.hid (by rw [List.length_append, HT.out]; rfl)
        have GT : (T ++ [((2 : Int), (vv : Int))]).getD j (0, 0) = (2, vv) := by rw [List.getD_eq_getElem?_getD, List.getElem?_append_right (by rw [HT.out]; exact Nat.le_refl _), HT.out]; simp
        obtain ⟨xT, hxT, hbT, hcT⟩ := RE8.out.2.2.2 (by simp)
        subst hxT
        have t1 := (hcT j (by rw [HT8.out]; omega)).c1
        rw [GT] at t1
        simp only at t1
        have hcA8 : W8.cell? (pA.add j) = some (.int .u32 vv) := by rw [B8.out.cell (by rw [block_add]; exact hpl), ← HB.out.cell (by rw [block_add]; exact hpl)]; exact hcA
        have HV := Lib.hid hwv
        have q0 := set_same HC4.out 0 _ rfl
        have p2 := set_same C5 2 _ rfl
        have p3 := set_same C5 3 _ rfl
        have p4 := set_same C5 4 _ rfl
        have p5 := set_same C5 5 _ rfl
        have p6 := set_same C5 6 _ rfl
        have p7 := set_same C5 7 _ rfl
        have p8 := set_same C5 8 _ rfl
        have p9 := set_same C5 9 _ rfl
        have p10 := set_same C5 10 _ rfl
        have p13 := set_same V8 3 _ rfl
        have p14 := set_same V8 4 _ rfl
        clear k1 k2 k3 k4 hwv X8 X7 C7 gl gl' D1 hcT hbT GT
        clear ac0 af0 ac1 af1 ac2 af2 ac3 af3 ac4 af4 ac5 af5 ac6 af6 ac7 af7 ac8 af8 ac9 af9 ac10 af10 bc0 bf0 bc1 bf1 bc2 bf2 bc3 bf3 bc4 bf4
        have mc0 := HC4.out.cell 0; have mf0 := HC4.out.frozen 0
        have mc1 := HC4.out.cell 1; have mf1 := HC4.out.frozen 1
        simp only [List.getElem?_cons_succ, List.getElem?_cons_zero] at mc0 mc1
        have nc1 := C5.cell 1; have nf1 := C5.frozen 1
        have nc2 := C5.cell 2; have nf2 := C5.frozen 2
        have nc3 := C5.cell 3; have nf3 := C5.frozen 3
        have nc4 := C5.cell 4; have nf4 := C5.frozen 4
        have nc5 := C5.cell 5; have nf5 := C5.frozen 5
        have nc6 := C5.cell 6; have nf6 := C5.frozen 6
        have nc7 := C5.cell 7; have nf7 := C5.frozen 7
        have nc8 := C5.cell 8; have nf8 := C5.frozen 8
        have nc9 := C5.cell 9; have nf9 := C5.frozen 9
        have nc10 := C5.cell 10; have nf10 := C5.frozen 10
        simp only [List.getElem?_cons_succ, List.getElem?_cons_zero] at nc1 nc2 nc3 nc4 nc5 nc6 nc7 nc8 nc9 nc10
        have oc0 := V5.cell 0; have of0 := V5.frozen 0
        simp only [List.getElem?_cons_zero] at oc0
        have rc1 := V6.cell 1; have rf1 := V6.frozen 1
        simp only [List.getElem?_cons_succ, List.getElem?_cons_zero] at rc1
        have sc2 := V7.cell 2; have sf2 := V7.frozen 2
        simp only [List.getElem?_cons_succ, List.getElem?_cons_zero] at sc2
        have tc0 := V8.cell 0; have tf0 := V8.frozen 0
        have tc1 := V8.cell 1; have tf1 := V8.frozen 1
        have tc2 := V8.cell 2; have tf2 := V8.frozen 2
        have tc3 := V8.cell 3; have tf3 := V8.frozen 3
        have tc4 := V8.cell 4; have tf4 := V8.frozen 4
        simp only [List.getElem?_cons_succ, List.getElem?_cons_zero] at tc0 tc1 tc2 tc3 tc4
        have uc1 := C8.cell 1; have uf1 := C8.frozen 1
        simp only [List.getElem?_cons_succ, List.getElem?_cons_zero] at uc1
        have jj : j < j + 1 := by omega
        have jj' : (j : Int) < (j : Int) + 1 := by omega
        have jn' : (j : Int) < (n : Int) := by omega
        have mn : min ((j : Int) + 1) (n : Int) = (j : Int) + 1 := by omega
        go_wp2_with fail
        go_roundw
        case rel => exact ⟨j + 1, vv, RA', rc', some xT, tc', T ++ [(2, vv)], by go_num, by omega, HV, HT8, Lib.hid C8, Lib.hid (by rw [m2]; exact V8), RK8, RE8, OA8, OT8, B8⟩
        case measure => simp [intOf]; omega
      · have m1 : min j n = n := by omega
        have m2 : min (j + 1) n = n := by omega
        rw [m1] at HW
        rw [m1, m2] at D1
        have hv : wantV l j = 0 := by unfold wantV; rw [if_neg (by rw [HL.out]; exact hjn)]
        have hwv := WV.out j
        rw [hv] at D1 hwv
        clear hv
        have ac0 := HC.out.cell 0; have af0 := HC.out.frozen 0
        have ac1 := HC.out.cell 1; have af1 := HC.out.frozen 1
        have ac2 := HC.out.cell 2; have af2 := HC.out.frozen 2
        have ac3 := HC.out.cell 3; have af3 := HC.out.frozen 3
        have ac4 := HC.out.cell 4; have af4 := HC.out.frozen 4
        have ac5 := HC.out.cell 5; have af5 := HC.out.frozen 5
        have ac6 := HC.out.cell 6; have af6 := HC.out.frozen 6
        have ac7 := HC.out.cell 7; have af7 := HC.out.frozen 7
        have ac8 := HC.out.cell 8; have af8 := HC.out.frozen 8
        have ac9 := HC.out.cell 9; have af9 := HC.out.frozen 9
        have ac10 := HC.out.cell 10; have af10 := HC.out.frozen 10
        simp only [List.getElem?_cons_succ, List.getElem?_cons_zero] at ac0 ac1 ac2 ac3 ac4 ac5 ac6 ac7 ac8 ac9 ac10
        have bc0 := HW.out.cell 0; have bf0 := HW.out.frozen 0
        have bc1 := HW.out.cell 1; have bf1 := HW.out.frozen 1
        have bc2 := HW.out.cell 2; have bf2 := HW.out.frozen 2
        have bc3 := HW.out.cell 3; have bf3 := HW.out.frozen 3
        have bc4 := HW.out.cell 4; have bf4 := HW.out.frozen 4
        simp only [List.getElem?_cons_succ, List.getElem?_cons_zero] at bc0 bc1 bc2 bc3 bc4
        go_wp2_with fail
        refine D1.out.mono ?_; rintro e w4 ⟨RA', rc', TA', tc', rfl, k1, k2, k3, k4⟩
        have HC4 := Lib.hid (HC.out.below k3)
        have HW4 := Lib.hid (HW.out.below k3)
        obtain ⟨W5, e5⟩ : ∃ W5, w4.setCell ⟨g, 1, none⟩ (.int .u32 0) = W5 := ⟨_, rfl⟩
        have C5 : HasB W5 g 35 [.int .u32 0, .int .u32 0, .int .u32 0, .int .u32 0, .int .u32 0, .int .u32 0, .int .u32 0, .int .u32 0, .int .u32 0, .int .u32 0, .int .u32 0] := by rw [← e5]; exact has_set HC4.out 1 _
        have V5 : HasB W5 (g + 1) 40 [.slice RA n rc, .int .i64 (n : Nat), .slice TA j tc, .bool false, .int .u32 0] := by rw [← e5]; exact has_far HW4.out (by omega) 1 _
        obtain ⟨W6, e6⟩ : ∃ W6, W5.setCell ⟨g + 1, 0, none⟩ (.slice RA' n rc') = W6 := ⟨_, rfl⟩
        have V6 : HasB W6 (g + 1) 40 [.slice RA' n rc', .int .i64 (n : Nat), .slice TA j tc, .bool false, .int .u32 0] := by rw [← e6]; exact has_set V5 0 _
        have p61 := set_same V6 1 _ rfl
        have V7 := V6
        have X7 : Chg g (g + 1) w4 W6 := by rw [← e6, ← e5]; exact chg_set (chg_set (Chg.refl _ _ _) _ (.inl rfl) _ _) _ (.inr rfl) _ _
        have C7 : HasB W6 g 35 [.int .u32 0, .int .u32 0, .int .u32 0, .int .u32 0, .int .u32 0, .int .u32 0, .int .u32 0, .int .u32 0, .int .u32 0, .int .u32 0, .int .u32 0] := by rw [← e6]; exact has_far C5 (by omega) _ _
        obtain ⟨W8, e8⟩ : ∃ W8, W6.setCell ⟨g + 1, 2, none⟩ (.slice TA' (j + 1) tc') = W8 := ⟨_, rfl⟩
        have V8 : HasB W8 (g + 1) 40 [.slice RA' n rc', .int .i64 ((n : Nat) : Int), .slice TA' (j + 1) tc', .bool false, .int .u32 0] := by rw [← e8]; exact has_set V7 2 _
        have C8 : HasB W8 g 35 [.int .u32 0, .int .u32 0, .int .u32 0, .int .u32 0, .int .u32 0, .int .u32 0, .int .u32 0, .int .u32 0, .int .u32 0, .int .u32 0, .int .u32 0] := by rw [← e8]; exact has_far C7 (by omega) _ _
        have X8 : Chg g (g + 1) w4 W8 := by rw [← e8]; exact chg_set X7 _ (.inr rfl) _ _
        have gl := HC.out.lt
        have gl' := HW.out.lt
        have OA8 : Hid (l = [] ∨ (Off RA' g ∧ Off RA' (g + 1))) := Lib.hid (OA.out.elim .inl (fun h => .inr ⟨k4.1 g gl h.1, k4.1 (g + 1) gl' h.2⟩))
        have OT8 : Hid (Off TA' g ∧ Off TA' (g + 1)) := Lib.hid ⟨k4.2 g gl OT.out.1, k4.2 (g + 1) gl' OT.out.2⟩
        have RK8 := Lib.hid (k1.chg' X8 OA8.out)
        have RE8 := Lib.hid (k2.chg X8 OT8.out.1 OT8.out.2)
        have B8 := Lib.hid (X8.below (bel_then HB.out k3) (bel_then HB.out k3).size (by omega) (by omega))
        have HT8 : Hid ((T ++ [((2 : Int), (0 : Int))]).length = j + 1) := Lib.hid (by rw [List.length_append, HT.out]; rfl)
        have GT : (T ++ [((2 : Int), (0 : Int))]).getD j (0, 0) = (2, 0) := by rw [List.getD_eq_getElem?_getD, List.getElem?_append_right (by rw [HT.out]; exact Nat.le_refl _), HT.out]; simp
        obtain ⟨xT, hxT, hbT, hcT⟩ := RE8.out.2.2.2 (by simp)
        subst hxT
        have t1 := (hcT j (by rw [HT8.out]; omega)).c1
        rw [GT] at t1
        simp only at t1
        have HV := Lib.hid u32_0
        have q0 := set_same HC4.out 0 _ rfl
        have p2 := set_same C5 2 _ rfl
        have p3 := set_same C5 3 _ rfl
        have p4 := set_same C5 4 _ rfl
        have p5 := set_same C5 5 _ rfl
        have p6 := set_same C5 6 _ rfl
        have p7 := set_same C5 7 _ rfl
        have p8 := set_same C5 8 _ rfl
        have p9 := set_same C5 9 _ rfl
        have p10 := set_same C5 10 _ rfl
        have p13 := set_same V8 3 _ rfl
        have p14 := set_same V8 4 _ rfl
        clear k1 k2 k3 k4 hwv X8 X7 C7 gl gl' D1 hcT hbT GT
        clear ac0 af0 ac1 af1 ac2 af2 ac3 af3 ac4 af4 ac5 af5 ac6 af6 ac7 af7 ac8 af8 ac9 af9 ac10 af10 bc0 bf0 bc1 bf1 bc2 bf2 bc3 bf3 bc4 bf4
        have mc0 := HC4.out.cell 0; have mf0 := HC4.out.frozen 0
        have mc1 := HC4.out.cell 1; have mf1 := HC4.out.frozen 1
        simp only [List.getElem?_cons_succ, List.getElem?_cons_zero] at mc0 mc1
        have nc1 := C5.cell 1; have nf1 := C5.frozen 1
        have nc2 := C5.cell 2; have nf2 := C5.frozen 2
        have nc3 := C5.cell 3; have nf3 := C5.frozen 3
        have nc4 := C5.cell 4; have nf4 := C5.frozen 4
        have nc5 := C5.cell 5; have nf5 := C5.frozen 5
        have nc6 := C5.cell 6; have nf6 := C5.frozen 6
        have nc7 := C5.cell 7; have nf7 := C5.frozen 7
        have nc8 := C5.cell 8; have nf8 := C5.frozen 8
        have nc9 := C5.cell 9; have nf9 := C5.frozen 9
        have nc10 := C5.cell 10; have nf10 := C5.frozen 10
        simp only [List.getElem?_cons_succ, List.getElem?_cons_zero] at nc1 nc2 nc3 nc4 nc5 nc6 nc7 nc8 nc9 nc10
        have oc0 := V5.cell 0; have of0 := V5.frozen 0
        simp only [List.getElem?_cons_zero] at oc0
        have rc1 := V6.cell 1; have rf1 := V6.frozen 1
        simp only [List.getElem?_cons_succ, List.getElem?_cons_zero] at rc1
        have sc2 := V7.cell 2; have sf2 := V7.frozen 2
        simp only [List.getElem?_cons_succ, List.getElem?_cons_zero] at sc2
        have tc0 := V8.cell 0; have tf0 := V8.frozen 0
        have tc1 := V8.cell 1; have tf1 := V8.frozen 1
        have tc2 := V8.cell 2; have tf2 := V8.frozen 2
        have tc3 := V8.cell 3; have tf3 := V8.frozen 3
        have tc4 := V8.cell 4; have tf4 := V8.frozen 4
        simp only [List.getElem?_cons_succ, List.getElem?_cons_zero] at tc0 tc1 tc2 tc3 tc4
        have uc1 := C8.cell 1; have uf1 := C8.frozen 1
        simp only [List.getElem?_cons_succ, List.getElem?_cons_zero] at uc1
        have jj : j < j + 1 := by omega
        have jj' : (j : Int) < (j : Int) + 1 := by omega
        have jn' : ¬ ((j : Int) < (n : Int)) := by omega
        have mn : min ((j : Int) + 1) (n : Int) = (n : Int) := by omega
        go_wp2_with fail
        go_roundw
        case rel => exact ⟨j + 1, 0, RA', rc', some xT, tc', T ++ [(2, 0)], by go_num, by omega, HV, HT8, Lib.hid C8, Lib.hid (by rw [m2]; exact V8), RK8, RE8, OA8, OT8, B8⟩
        case measure => simp [intOf]; omega
    · have hlt' : ¬ ((j : Int) < (m : Int)) := by omega
      go_wp2_with fail
      go_ret
      exact ⟨rfl, HB.out⟩
theorem vtold_long (AW : Hid AwG) (A0 : Option Addr) (ca n : Nat) (h1 : n ≤ maxLen) (h : 50 < n) (q : Int) (w : World) :
    Calls Try.prog 5 #[.slice A0 n ca, .int .u8 q] w fun e w' => e = .returned (.bool true) ∧ Below w.heap.size w w' := by
  unfold maxLen at h1
  go_enter Try.func5, Try.ntmps5
  go_wp2_with fail
  refine (AW.out _).mono ?_; rintro e w1 ⟨rfl, hb1⟩
  have B1 := Lib.hid hb1; clear hb1
  go_wp2_with fail
  refine (AW.out _).mono ?_; rintro e w2 ⟨rfl, hb2⟩
  have B2 := Lib.hid (bel_then B1.out hb2); clear hb2
  go_wp2_with fail
  go_ret
  exact ⟨rfl, B2.out⟩
theorem vtold (AW : Hid AwG) (DC : Hid DoGC) (A0 : Option Addr) (n ca : Nat) (q : Int) (w : World) (rA : ∃ l : List Int, n = l.length ∧ KRow .u32 w A0 ca l) (wq : (Lit.int .u8 q).wf = true) :
    Calls Try.prog 5 #[.slice A0 n ca, .int .u8 q] w fun e w' => e = .returned (.bool true) ∧ Below w.heap.size w w' := by
  obtain ⟨l, hl, rA⟩ := rA
  by_cases h : n ≤ 50
  · exact vtold_few AW DC A0 ca n l hl.symm h q (bounds_u8 wq) w rA
  · exact vtold_long AW A0 ca n (by rw [hl]; exact Nat.le_trans rA.1 rA.2.1) (by omega) q w
end Go.Proofs.Ytjfhoaahohinhaa.Mm
