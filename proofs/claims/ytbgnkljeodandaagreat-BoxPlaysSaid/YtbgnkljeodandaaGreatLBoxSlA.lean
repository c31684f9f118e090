/- The document's own Slice, walked. -/
import Derived.Test.YtbgnkljeodandaaGreatLBgB
import Derived.Test.YtbgnkljeodandaaGreatLBxT
namespace Go.Proofs.YtbgnkljeodandaaGreat.Mm
open Go.ChangeShapes Go.WideShapes Go.ChangeAt Go.RowKit
set_option linter.unusedVariables false
set_option linter.unusedSimpArgs false
theorem EvRow.farG {w W W' : World} {g h : Nat} {A : Option Addr} {cap : Nat} {l : List Ev} (r : EvRow W A cap l) (c : Chg g h W W') (hg : w.heap.size ≤ g ∧ g < w.heap.size + 4) (hh : w.heap.size ≤ h ∧ h < w.heap.size + 4) (hy : ∀ y, A = some y → l ≠ [] → y.block < w.heap.size ∨ w.heap.size + 4 ≤ y.block) : EvRow W' A cap l := by
 by_cases hl : l = []
 · subst hl; exact ⟨r.1, r.2.1, r.2.2.1, fun h => absurd rfl h⟩
 · exact r.chg c (fun y e => by rcases hy y e hl with k | k <;> omega) (fun y e => by rcases hy y e hl with k | k <;> omega)
theorem EvRow.chgL {W W' : World} {j : Nat} {A : Option Addr} {cap : Nat} {l : List Ev} (r : EvRow W A cap l) (c : Chg j j W W') (hj : l = [] ∨ ∀ y, A = some y → y.block ≠ j) : EvRow W' A cap l := by
 by_cases hl : l = []
 · subst hl; exact ⟨r.1, r.2.1, r.2.2.1, fun h => absurd rfl h⟩
 · exact r.chg c (fun y e => (hj.resolve_left hl) y e) (fun y e => (hj.resolve_left hl) y e)
theorem RS.setB {w W : World} {M0 M1 : Value} {cs : List Value} (k : RS w M0 M1 cs W) (i : Nat) (v : Value) :
  ∃ W', W.setCell ⟨w.heap.size + 1, i, none⟩ v = W' ∧ RS w M0 M1 (cs.set i v) W' ∧ Chg (w.heap.size + 1) (w.heap.size + 1) W W' := by
 have c : Chg (w.heap.size + 1) (w.heap.size + 1) W (W.setCell ⟨w.heap.size + 1, i, none⟩ v) := chg_set (Chg.refl _ _ _) _ (.inl rfl) _ _
 exact ⟨_, rfl, ⟨k.m.chg c (by omega) (by omega), has_set k.b i v, k.rb.chg c (by omega) (by omega), k.rm.chg c (by omega) (by omega), c.below k.bel k.bel.size (by omega) (by omega)⟩, c⟩
theorem RS.chgB {w W W' : World} {M0 M1 : Value} {cs ds : List Value} (k : RS w M0 M1 cs W) (c : Chg (w.heap.size + 1) (w.heap.size + 1) W W') (b : HasB W' (w.heap.size + 1) 58 ds) : RS w M0 M1 ds W' :=
 ⟨k.m.chg c (by omega) (by omega), b, k.rb.chg c (by omega) (by omega), k.rm.chg c (by omega) (by omega), c.below k.bel k.bel.size (by omega) (by omega)⟩
theorem RS.chgN {w W W' : World} {M0 M1 : Value} {cs : List Value} {j : Nat} (k : RS w M0 M1 cs W) (c : Chg j j W W') (hj : w.heap.size + 4 ≤ j) : RS w M0 M1 cs W' :=
 ⟨k.m.chg c (by omega) (by omega), k.b.chg c (by omega) (by omega), k.rb.chg c (by omega) (by omega), k.rm.chg c (by omega) (by omega), c.below k.bel k.bel.size (by omega) (by omega)⟩
theorem RS.chgM {w W W' : World} {M0 M1 N0 N1 : Value} {cs : List Value} (k : RS w M0 M1 cs W) (c : Chg w.heap.size w.heap.size W W') (m : HasB W' w.heap.size 50 [N0, N1]) : RS w N0 N1 cs W' :=
 ⟨m, k.b.chg c (by omega) (by omega), k.rb.chg c (by omega) (by omega), k.rm.chg c (by omega) (by omega), c.below k.bel k.bel.size (by omega) (by omega)⟩
section
variable {T : List Bool} {N n0 : Nat} {x0 : Bx} {B0 : List Int} {k : Nat} {x : Bx} {B : List Int}
theorem nx_0 (hT : RgT T 1024 2048) (h : SlR N x0 B0 k x B) (i : RfI T (n0 + k) x B) (hk : k < N) (hx : x.is = 0) (h0 : (stF x.c B T22).what = 0) :
  SlR N x0 B0 (k + 1) ⟨(stF x.c B T22).c, x.W, x.is, x.wh⟩ (stF x.c B T22).B ∧ RfI T (n0 + (k + 1)) ⟨(stF x.c B T22).c, x.W, x.is, x.wh⟩ (stF x.c B T22).B := by
 have e := (bxS_0 h0).1
 have s := slR_step h hk hx (bxS_0 h0).2
 have r := ref_i hT i hx
 rw [e] at s r
 exact ⟨s, r⟩
theorem nx_e (hT : RgT T 1024 2048) (h : SlR N x0 B0 k x B) (i : RfI T (n0 + k) x B) (hk : k < N) (hx : x.is = 0) (h0 : (stF x.c B T22).what ≠ 0) (h2 : (stF x.c B T22).what ≠ 2) :
  SlR N x0 B0 (k + 1) ⟨(stF x.c B T22).c, x.W, 2, (stF x.c B T22).what⟩ (stF x.c B T22).B ∧ RfI T (n0 + (k + 1)) ⟨(stF x.c B T22).c, x.W, 2, (stF x.c B T22).what⟩ (stF x.c B T22).B := by
 have e := (bxS_e h0 h2).1
 have s := slR_step h hk hx (bxS_e h0 h2).2
 have r := ref_i hT i hx
 rw [e] at s r
 exact ⟨s, r⟩
theorem nx_2 (hT : RgT T 1024 2048) (h : SlR N x0 B0 k x B) (i : RfI T (n0 + k) x B) (hk : k < N) (hx : x.is = 0) (h2 : (stF x.c B T22).what = 2) (q : Ou) (hq : stF x.c B T22 = q) (r : Cp × Wd) (hr : gateS q.c (sumV q.c q.B T22) x.W q.gate = r) :
    RfI T (n0 + (k + 1)) ⟨r.1, r.2, if q.gate = 0 then 1 else x.is, x.wh⟩ q.B ∧
    (q.gate ≠ 4 → SlR N x0 B0 (k + 1) ⟨r.1, r.2, if q.gate = 0 then 1 else x.is, x.wh⟩ q.B) ∧
    (q.gate = 4 → slF T22 N x0 B0 = (⟨r.1, r.2, if q.gate = 0 then 1 else x.is, x.wh⟩, q.B, k + 1)) := by
  have e := (bxS_2 h2).1
  have y := (bxS_2 h2).2
  have i' := ref_i hT i hx
  rw [hq, hr] at e
  rw [hq] at y
  rw [e] at i'
  refine ⟨i', fun h4 => ?_, fun h4 => ?_⟩
  · have s := slR_step h hk hx (by rw [y]; simpa using h4)
    rw [e] at s
    exact s
  · have s := slR_yld h hk hx (by rw [y]; simpa using h4)
    rw [e] at s
    exact s
end
set_option maxRecDepth 100000 in
set_option maxHeartbeats 8000000 in
theorem rslice_any {T : List Bool} (hT : RgT T 1024 2048) (N n0 : Nat) (x0 : Bx) (B0 : List Int) (h0 : RfI T n0 x0 B0) (hN : n0 + N ≤ 100000) (xb0 yb cB0 cU : Nat) (w : World) (rB : RowAt w (some ⟨xb0, 0, none⟩) cB0 B0) (rU : BlAt w (some ⟨yb, 0, none⟩) cU U22)
    (RA : Option Addr) (rc : Nat) (TA0 : Option Addr) (tc0 : Nat) (rR : KRow .u32 w RA rc x0.W.rep) (rT : EvRow w TA0 tc0 x0.W.tr) (n : Int) (hn : n ≤ 20000) (hnN : n.toNat = N) :
    Calls Tryz.prog 18 #[.agg #[.slice (some ⟨xb0, 0, none⟩) 2200 cB0, .slice (some ⟨yb, 0, none⟩) 2200 cU], x0.val RA rc TA0 tc0, .int .i64 n] w (RSlP w yb cU RA rc xb0 TA0 x0.W.tr (slF T22 N x0 B0)) := by
  obtain ⟨r, hr⟩ : ∃ r, slF T22 N x0 B0 = r := ⟨_, rfl⟩
  rw [hr]
  have HRES := Lib.hid hr
  clear hr
  have RR := Lib.hid rR
  have RU := Lib.hid rU
  obtain ⟨W0, e0, k0⟩ := RS.new w (.slice (some ⟨xb0, 0, none⟩) 2200 cB0) (.slice (some ⟨yb, 0, none⟩) 2200 cU) (x0.cs RA rc TA0 tc0)
  have START : RSl w T N n0 x0 B0 yb cU RA rc xb0 TA0 (.int .i64 ((0 : Nat) : Int)) W0 := by
    refine ⟨0, x0, B0, xb0, cB0, TA0, tc0, rfl, Nat.zero_le _, Lib.hid (slR_0 _ _ _), Lib.hid h0, Lib.hid k0, Lib.hid (rB.below k0.bel), Lib.hid (rT.below k0.bel), Lib.hid rfl, .inl rfl, Lib.hid (.inl ⟨rfl, rfl⟩)⟩
  have hxb0 : xb0 < w.heap.size := by
    obtain ⟨Bp, _, _, _, hl⟩ := h0
    obtain ⟨y, hy, hlt, _⟩ := rB.2.2.2 (by intro e; subst e; simp at hl)
    cases hy; exact hlt
  have HT0 : Hid (∀ y, TA0 = some y → x0.W.tr ≠ [] → y.block < w.heap.size) := Lib.hid (fun y hy hne => by
    obtain ⟨z, hz, hlt, _⟩ := rT.2.2.2 hne
    rw [hz] at hy; cases hy; exact hlt)
  replace START := Lib.hid START
  obtain ⟨Bp0, i0, _, _, _⟩ := h0
  obtain ⟨w0, w1, w2, w3, w4, w5, w6, w7, w8, w9, w10, _, hcs⟩ := bx_cs i0.ok.c
  unfold Bx.val
  rw [hcs] at e0 k0 ⊢
  clear hcs i0 rB rU rR rT k0
  go_enter Tryz.func18, Tryz.ntmps18
  go_wp2_with fail
  go_loopw [9] (fun i wr => RSl w T N n0 x0 B0 yb cU RA rc xb0 TA0 i wr) (fun i _ => N + 1 - (intOf i).toNat)
  case atStart => exact START.out
  case round =>
    clear START e0
    obtain ⟨k, x, B, xb, cB, TA, tc, rfl, hk, SL, RF, RSH, RB, RE, HR, hx0, HO0⟩ := hrel
    have hxb : xb < w.heap.size ∨ w.heap.size + 4 ≤ xb := by omega
    have HO : Hid (∀ y, TA = some y → x.W.tr ≠ [] → y.block < w.heap.size ∨ w.heap.size + 4 ≤ y.block) := Lib.hid (fun y hy hne => by
      rcases HO0.out with ⟨h1, h2⟩ | h
      · exact .inl (HT0.out y (h1.symm.trans hy) (by rw [← h2]; exact hne))
      · exact .inr (h y hy))
    obtain ⟨⟨v0, vr, v9, v10⟩, ⟨rep, tk, tr, ov, cd⟩, is, wh⟩ := x
    obtain ⟨Bp, iP, _, hBy, hBl⟩ := RF.out
    obtain ⟨v1, v2, v3, v4, v5, v6, v7, v8, hv⟩ := iP.ok.c.eight
    simp only at hv
    subst hv
    have OC := Lib.hid iP.ok
    have HTR := Lib.hid (show tr.length ≤ 100000 from by have := iP.tr; simp only at this; omega)
    have HBy := Lib.hid hBy
    have HBl := Lib.hid hBl
    replace RSH : Hid (RS w (.slice (some ⟨xb, 0, none⟩) 2200 cB) (.slice (some ⟨yb, 0, none⟩) 2200 cU) [.int .u32 v0, .int .u32 v1, .int .u32 v2, .int .u32 v3, .int .u32 v4, .int .u32 v5, .int .u32 v6, .int .u32 v7, .int .u32 v8, .int .u32 v9, .int .u32 v10, .slice RA rep.length rc, .int .i64 tk, .slice TA tr.length tc, .bool ov, .int .u32 cd, .int .i64 is, .int .i64 wh] wr) := RSH
    clear iP hBy hBl
    have kb : (k : Int) ≤ 20000 := by omega
    by_cases he : k = N ∨ is ≠ 0
    · have FIN : r = (⟨⟨v0, [v1, v2, v3, v4, v5, v6, v7, v8], v9, v10⟩, ⟨rep, tk, tr, ov, cd⟩, is, wh⟩, B, k) := HRES.out.symm.trans (slR_end SL.out he hk)
      replace FIN := Lib.hid FIN
      have he' : decide ((k : Int) < n) = false ∨ (decide ((k : Int) < n) = true ∧ (is == 0) = false) := by
        by_cases hlt : (k : Int) < n
        · refine .inr ⟨decide_eq_true hlt, ?_⟩
          rcases he with h | h
          · exact absurd hlt (by omega)
          · simpa using h
        · exact .inl (decide_eq_false hlt)
      clear he hk
      rcases he' with hkn | ⟨hkn, hi0⟩
      all_goals as_aux_lemma =>
        obtain ⟨p0, p1, p2, p3, p4, p5, p6, p7, p8, p9, p10, p11, p12, p13, p14, p15, p16, p17⟩ := has18 RSH.out.b
        go_upto_region 18 with fail
        clear p0 p1 p2 p3 p4 p5 p6 p7 p8 p9 p10 p11 p12 p13 p14 p15 p16 p17
        obtain ⟨CS, hCS⟩ : ∃ CS : List Value, CS = [.int .u32 v0, .int .u32 v1, .int .u32 v2, .int .u32 v3, .int .u32 v4, .int .u32 v5, .int .u32 v6, .int .u32 v7, .int .u32 v8, .int .u32 v9, .int .u32 v10, .slice RA rep.length rc, .int .i64 tk, .slice TA tr.length tc, .bool ov, .int .u32 cd, .int .i64 is, .int .i64 wh] := ⟨_, rfl⟩
        obtain ⟨MS, hMS⟩ : ∃ MS : List Value, MS = [.slice (some ⟨xb, 0, none⟩) 2200 cB, .slice (some ⟨yb, 0, none⟩) 2200 cU] := ⟨_, rfl⟩
        have LC : Hid (([.int .u32 0, .int .u32 0, .int .u32 0, .int .u32 0, .int .u32 0, .int .u32 0, .int .u32 0, .int .u32 0, .int .u32 0, .int .u32 0, .int .u32 0, .slice none 0 0, .int .i64 0, .slice none 0 0, .bool false, .int .u32 0, .int .i64 0, .int .i64 0] : List Value).length = CS.length ∧ ∀ v ∈ CS, v.oneCell' = true) := Lib.hid (by rw [hCS]; exact ⟨rfl, by simp [Value.oneCell']⟩)
        have LM : Hid (([.slice none 0 0, .slice none 0 0] : List Value).length = MS.length ∧ ∀ v ∈ MS, v.oneCell' = true) := Lib.hid (by rw [hMS]; exact ⟨rfl, by simp [Value.oneCell']⟩)
        have IC : (Tryz.prog.info? 58).map (·.size) = some CS.length := by rw [hCS]; kernel_rfl
        have IM : (Tryz.prog.info? 50).map (·.size) = some MS.length := by rw [hMS]; kernel_rfl
        have KB : Hid (HasB wr (w.heap.size + 1) 58 CS) := Lib.hid (by rw [hCS]; exact RSH.out.b)
        have KM : Hid (HasB wr w.heap.size 50 MS) := Lib.hid (by rw [hMS]; exact RSH.out.m)
        have KRB := Lib.hid (show HasB wr.drew (w.heap.size + 1 + 1) 58 [.int .u32 0, .int .u32 0, .int .u32 0, .int .u32 0, .int .u32 0, .int .u32 0, .int .u32 0, .int .u32 0, .int .u32 0, .int .u32 0, .int .u32 0, .slice none 0 0, .int .i64 0, .slice none 0 0, .bool false, .int .u32 0, .int .i64 0, .int .i64 0] from RSH.out.rb)
        have KRM := Lib.hid (show HasB wr.drew (w.heap.size + 1 + 1 + 1) 50 [.slice none 0 0, .slice none 0 0] from RSH.out.rm)
        have GB := Lib.hid RSH.out.bel
        refine wp_region_noPanic ?_
        refine wp_region_held_drew (S := (fun w' => HasB w' (w.heap.size + 1) 58 CS ∧ HasB w' w.heap.size 50 MS)) (by kernel_rfl) ?_ (fun hHeld => ?_)
        · (try dsimp only)
          exact ⟨KB.out, KM.out⟩
        refine wpAnyH_take (i := 0) (oi := { dst := some 71, op := Op.load 58 (Operand.tmp 4), type := 58, pos := "ref.go:41", after := #[], guard := none }) (v := ?_) rfl (by kernel_rfl) (by kernel_rfl) (by kernel_rfl) (fun _ _ _ h => h) (Or.inl ⟨by rfl, ?_⟩) (by assumption) ?_
        rotate_left
        · intro wz hSw; refine exec_load_has 58 (.tmp 4) ?_ (w.heap.size + 1) ?_ hSw.1 ?_ Tryz.underlying58 IC <;> rfl
        (try simp only [Act.put, lsA, lsZ, lsS])
        refine wpAnyH_take (i := 1) (oi := { dst := some 72, op := Op.load 50 (Operand.tmp 3), type := 50, pos := "ref.go:41", after := #[{ on := 3, ground := Ground.gcOnly Departure.lateStores }], guard := none }) (v := ?_) rfl (by kernel_rfl) (by kernel_rfl) (by kernel_rfl) (fun _ _ _ h => h) (Or.inl ⟨by rfl, ?_⟩) (by assumption) ?_
        rotate_left
        · intro wz hSw; refine exec_load_has 50 (.tmp 3) ?_ (w.heap.size) ?_ hSw.2 ?_ Tryz.underlying50 IM <;> rfl
        (try simp only [Act.put, lsA, lsZ, lsS])
        refine wpAnyH_take (i := 2) (oi := { dst := some 73, op := Op.move (Operand.tmp 9), type := 3, pos := "ref.go:41", after := #[{ on := 4, ground := Ground.gcOnly Departure.lateStores }], guard := none }) (v := ?_) rfl (by kernel_rfl) (by kernel_rfl) (by kernel_rfl) (fun _ _ _ h => h) (Or.inl ⟨by rfl, ?_⟩) (by assumption) ?_
        rotate_left
        · intro w hSw; (try dsimp only at hSw); go_simp <;> (with_reducible rfl)
        (try simp only [Act.put, lsA, lsZ, lsS])
        refine wpAnyH_ready (rs := [3]) (by kernel_rfl) (by simp) ?_
        refine AllReadyH.cons (o := { dst := none, op := Op.store 58 (Operand.tmp 6) (Operand.tmp 71), type := 0, pos := "ref.go:41", after := #[{ on := 0, ground := Ground.data }, { on := 0, ground := Ground.phase }, { on := 1, ground := Ground.textOnly Departure.lateStores }, { on := 2, ground := Ground.textOnly Departure.lateStores }], guard := none }) rfl (fun K hK => ?_) ?_
        · rw [if_pos (by rfl)]
          refine st_has 58 (.tmp 6) (.tmp 71) rfl rfl _ _ CS rfl rfl KRB.out LC.out.1 IC LC.out.2 ?_
          intro W1 h1 c1
          replace h1 := Lib.hid h1
          replace c1 := Lib.hid c1
          refine hK.out _ _ ?_ (fun hHeld => ?_)
          · (try dsimp only)
            exact ⟨hHeld.1.chg c1.out (by omega) (by omega), hHeld.2.chg c1.out (by omega) (by omega)⟩
          clear hK K
          (try simp only [Act.put, lsA, lsZ, lsS])
          refine wpAnyH_ready (rs := [4]) (by kernel_rfl) (by simp) ?_
          refine AllReadyH.cons (o := { dst := none, op := Op.store 50 (Operand.tmp 7) (Operand.tmp 72), type := 0, pos := "ref.go:41", after := #[{ on := 1, ground := Ground.data }, { on := 3, ground := Ground.chain }, { on := 0, ground := Ground.phase }, { on := 1, ground := Ground.phase }, { on := 2, ground := Ground.textOnly Departure.lateStores }, { on := 3, ground := Ground.phase }], guard := none }) rfl (fun K hK => ?_) ?_
          · rw [if_pos (by rfl)]
            refine st_has 50 (.tmp 7) (.tmp 72) rfl rfl _ _ MS rfl rfl (KRM.out.chg c1.out (by omega) (by omega)) LM.out.1 IM LM.out.2 ?_
            intro W2 h2 c2
            replace h2 := Lib.hid h2
            replace c2 := Lib.hid c2
            refine hK.out _ _ ?_ (fun hHeld => ?_)
            · (try dsimp only)
              exact ⟨hHeld.1.chg c2.out (by omega) (by omega), hHeld.2.chg c2.out (by omega) (by omega)⟩
            clear hK K
            (try simp only [Act.put, lsA, lsZ, lsS])
            refine wpAnyH_take (i := 5) (oi := { dst := some 8, op := Op.assign (Operand.tmp 73), type := 3, pos := "ref.go:41", after := #[{ on := 2, ground := Ground.data }, { on := 4, ground := Ground.chain }, { on := 0, ground := Ground.phase }, { on := 1, ground := Ground.phase }, { on := 2, ground := Ground.phase }, { on := 3, ground := Ground.phase }, { on := 4, ground := Ground.phase }], guard := none }) (v := ?_) rfl (by kernel_rfl) (by kernel_rfl) (by kernel_rfl) (fun _ _ _ h => h) (Or.inl ⟨by rfl, ?_⟩) (by assumption) ?_
            rotate_left
            · intro w hSw; (try dsimp only at hSw); go_simp <;> (with_reducible rfl)
            (try simp only [Act.put, lsA, lsZ, lsS])
            refine wpAnyH_done (by kernel_rfl) ?_ _
            refine NoPanic.normal ?_
            subst hCS hMS
            have V1 := loadvar_has (h1.out.chg c2.out (by omega) (by omega)) rfl Tryz.underlying58 IC
            have V2 := loadvar_has h2.out rfl Tryz.underlying50 IM
            go_wp2_with fail
            refine bodyPost_ret (v := .tuple #[.agg #[.int .u32 v0, .int .u32 v1, .int .u32 v2, .int .u32 v3, .int .u32 v4, .int .u32 v5, .int .u32 v6, .int .u32 v7, .int .u32 v8, .int .u32 v9, .int .u32 v10, .slice RA rep.length rc, .int .i64 tk, .slice TA tr.length tc, .bool ov, .int .u32 cd, .int .i64 is, .int .i64 wh], .agg #[.slice (some ⟨xb, 0, none⟩) 2200 cB, .slice (some ⟨yb, 0, none⟩) 2200 cU], .int .i64 (k : Int)]) (by simp [results, Tryz.results18, asaddr_run, V1, V2]) rfl ?_
            rw [FIN.out]
            exact ⟨xb, cB, TA, tc, rfl, ((show RowAt wr.drew _ _ _ from RB.out).chg c1.out (by omega) (by omega)).chg c2.out (by omega) (by omega), ((EvRow.below (w' := wr.drew) RE.out (Below.refl _ _).drew).farG (w := w) c1.out (by omega) (by omega) HO.out).farG (w := w) c2.out (by omega) (by omega) HO.out, c2.out.below (c1.out.below (Below.drew (w := wr) GB.out) GB.out.size (by omega) (by omega)) (Nat.le_trans GB.out.size c1.out.size) (by omega) (by omega), by omega, by rcases HO0.out with h | h; exact .inl h; exact .inr (fun y hy => by have := h y hy; omega)⟩
          exact AllReadyH.nil
        exact AllReadyH.nil
    · obtain ⟨hkx, hi⟩ := not_or.1 he
      obtain rfl : is = 0 := Classical.not_not.1 hi
      clear he hi
      have kb : (k : Int) < n := by omega
      have hkn : decide ((k : Int) < n) = true := decide_eq_true kb
      have hkN : k < N := by omega
      have ST := Lib.hid (rstep22_any xb yb cB cU B HBl.out HBy.out wr RB.out (RU.out.below RSH.out.bel) OC.out.c (stF_is _ B T22))
      have QI := Lib.hid (ref_q hT RF.out)
      have NX0 := Lib.hid (fun h => nx_0 hT SL.out RF.out hkN rfl h)
      have NXE := Lib.hid (fun h h' => nx_e hT SL.out RF.out hkN rfl h h')
      have NX2 := Lib.hid (fun h q hq r hr => nx_2 hT SL.out RF.out hkN rfl h q hq r hr)
      simp only at ST QI NX0 NXE NX2
      generalize hstF : stF ⟨v0, [v1, v2, v3, v4, v5, v6, v7, v8], v9, v10⟩ B T22 = q at *
      obtain ⟨⟨u0, ur, u9, u10⟩, qB, qw, qg⟩ := q
      obtain ⟨u1, u2, u3, u4, u5, u6, u7, u8, hu⟩ := QI.out.c.eight
      simp only at hu
      subst hu
      replace ST : Hid (Calls Tryz.prog 31 #[.agg #[.int .u32 v0, .int .u32 v1, .int .u32 v2, .int .u32 v3, .int .u32 v4, .int .u32 v5, .int .u32 v6, .int .u32 v7, .int .u32 v8, .int .u32 v9, .int .u32 v10], .agg #[.slice (some ⟨xb, 0, none⟩) 2200 cB, .slice (some ⟨yb, 0, none⟩) 2200 cU]] wr fun e w' => ∃ xb' cB', e = .returned (.tuple #[.agg #[.int .u32 u0, .int .u32 u1, .int .u32 u2, .int .u32 u3, .int .u32 u4, .int .u32 u5, .int .u32 u6, .int .u32 u7, .int .u32 u8, .int .u32 u9, .int .u32 u10], .agg #[.slice (some ⟨xb', 0, none⟩) 2200 cB', .slice (some ⟨yb, 0, none⟩) 2200 cU], .int .i64 qw, .int .i64 qg]) ∧ RowAt w' (some ⟨xb', 0, none⟩) cB' qB ∧ Below wr.heap.size wr w' ∧ (xb' = xb ∨ wr.heap.size ≤ xb')) := ST
      clear SL RF
      by_cases hq0 : qw = 0
      · subst hq0
        clear NXE NX2
        as_aux_lemma =>
          have NXT := NX0.out rfl
          have LTW := RSH.out.lt
          have p16 := RSH.out.b.cell 16
          simp only [List.getElem?_cons_succ, List.getElem?_cons_zero] at p16
          go_wp2_with (first
            | (refine ld_at rfl 47 (.tmp 25) rfl (w.heap.size + 1) 0 (by rfl) 58 [] [.int .u32 v0, .int .u32 v1, .int .u32 v2, .int .u32 v3, .int .u32 v4, .int .u32 v5, .int .u32 v6, .int .u32 v7, .int .u32 v8, .int .u32 v9, .int .u32 v10] [.slice RA rep.length rc, .int .i64 tk, .slice TA tr.length tc, .bool ov, .int .u32 cd, .int .i64 0, .int .i64 wh] RSH.out.b rfl Tryz.isAgg47 Tryz.sizeOf47 ?_)
            | (refine ld_at rfl 50 (.tmp 3) rfl w.heap.size 0 (by rfl) 50 [] [.slice (some ⟨xb, 0, none⟩) 2200 cB, .slice (some ⟨yb, 0, none⟩) 2200 cU] [] RSH.out.m rfl Tryz.isAgg50 Tryz.sizeOf50 ?_))
          refine ST.out.mono ?_; rintro e w2 ⟨xb', cB', rfl, row2, bel2, hx2⟩
          have k2 := RSH.out.below bel2
          have hx9 : xb' = xb0 ∨ w.heap.size + 4 ≤ xb' := by
            rcases hx2 with rfl | h
            · exact hx0
            · omega
          have hfar : xb' < w.heap.size ∨ w.heap.size + 4 ≤ xb' := by omega
          have hx2b : xb' < w2.heap.size := by
            obtain ⟨y, hy, hlt, _⟩ := row2.2.2.2 (by intro e; have := QI.out.len; simp only at this; rw [e] at this; simp at this)
            cases hy; exact hlt
          have RE2 := RE.out.below bel2
          have REVB : Hid (∀ j, w2.heap.size ≤ j → tr = [] ∨ ∀ y, TA = some y → y.block ≠ j) := Lib.hid (fun j hj => by
            by_cases hl : tr = []
            · exact .inl hl
            · obtain ⟨z, hz, hlt, _⟩ := RE2.2.2.2 hl
              refine .inr (fun y hy => ?_)
              rw [hz] at hy
              cases hy
              omega)
          have LT2 := k2.lt
          have BA : Below w2.heap.size w2 ((w2.alloc (.cells #[.int .u32 0, .int .u32 0, .int .u32 0, .int .u32 0, .int .u32 0, .int .u32 0, .int .u32 0, .int .u32 0, .int .u32 0, .int .u32 0, .int .u32 0] 47)).alloc (.cells #[.slice none 0 0, .slice none 0 0] 50)) := bel_al (bel_al (Below.refl _ _) _) _
          obtain ⟨A2, e2, K2, D2, E2, ROW2, REV2⟩ : ∃ A2, (w2.alloc (.cells #[.int .u32 0, .int .u32 0, .int .u32 0, .int .u32 0, .int .u32 0, .int .u32 0, .int .u32 0, .int .u32 0, .int .u32 0, .int .u32 0, .int .u32 0] 47)).alloc (.cells #[.slice none 0 0, .slice none 0 0] 50) = A2 ∧ Hid (RS w (.slice (some ⟨xb, 0, none⟩) 2200 cB) (.slice (some ⟨yb, 0, none⟩) 2200 cU) [.int .u32 v0, .int .u32 v1, .int .u32 v2, .int .u32 v3, .int .u32 v4, .int .u32 v5, .int .u32 v6, .int .u32 v7, .int .u32 v8, .int .u32 v9, .int .u32 v10, .slice RA rep.length rc, .int .i64 tk, .slice TA tr.length tc, .bool ov, .int .u32 cd, .int .i64 0, .int .i64 wh] A2) ∧ Hid (HasB A2 w2.heap.size 47 [.int .u32 0, .int .u32 0, .int .u32 0, .int .u32 0, .int .u32 0, .int .u32 0, .int .u32 0, .int .u32 0, .int .u32 0, .int .u32 0, .int .u32 0]) ∧ Hid (HasB A2 (w2.heap.size + 1) 50 [.slice none 0 0, .slice none 0 0]) ∧ Hid (RowAt A2 (some ⟨xb', 0, none⟩) cB' qB) ∧ Hid (EvRow A2 TA tc tr) :=
            ⟨_, rfl, Lib.hid (k2.below BA), Lib.hid ((HasB.new w2 47 [.int .u32 0, .int .u32 0, .int .u32 0, .int .u32 0, .int .u32 0, .int .u32 0, .int .u32 0, .int .u32 0, .int .u32 0, .int .u32 0, .int .u32 0]).al _), Lib.hid (HasB.newAt _ _ _ #[.slice none 0 0, .slice none 0 0] (by simp)), Lib.hid (row2.below BA), Lib.hid (RE2.below BA)⟩
          clear row2 bel2 hx2 ST RE2 BA k2 p16
          go_upto_region 7 with (first
            | (refine st_at rfl 47 (.tmp 10) (.tmp 29) rfl rfl w2.heap.size 0 47 [] [.int .u32 0, .int .u32 0, .int .u32 0, .int .u32 0, .int .u32 0, .int .u32 0, .int .u32 0, .int .u32 0, .int .u32 0, .int .u32 0, .int .u32 0] [.int .u32 u0, .int .u32 u1, .int .u32 u2, .int .u32 u3, .int .u32 u4, .int .u32 u5, .int .u32 u6, .int .u32 u7, .int .u32 u8, .int .u32 u9, .int .u32 u10] [] (by rfl) (by rfl) D2.out rfl rfl Tryz.sizeOf47 (by simp [Value.oneCell']) ?_; intro A3 D3 c3; replace D3 : HasB A3 w2.heap.size 47 [.int .u32 u0, .int .u32 u1, .int .u32 u2, .int .u32 u3, .int .u32 u4, .int .u32 u5, .int .u32 u6, .int .u32 u7, .int .u32 u8, .int .u32 u9, .int .u32 u10] := D3; have K3 := Lib.hid (K2.out.chgN c3 LT2); have E3 := Lib.hid (E2.out.chg c3 (by omega) (by omega)); have ROW3 := Lib.hid (ROW2.out.chg c3 (by omega) (by omega)); have REV3 := Lib.hid (REV2.out.chgL c3 (REVB.out _ (by omega))); replace D3 := Lib.hid D3; clear c3 K2 E2 D2 ROW2 REV2 e2)
            | (refine st_at rfl 50 (.tmp 11) (.tmp 30) rfl rfl (w2.heap.size + 1) 0 50 [] [.slice none 0 0, .slice none 0 0] [.slice (some ⟨xb', 0, none⟩) 2200 cB', .slice (some ⟨yb, 0, none⟩) 2200 cU] [] (by rfl) (by rfl) E3.out rfl rfl Tryz.sizeOf50 (by simp [Value.oneCell']) ?_; intro A4 E4 c4; replace E4 : HasB A4 (w2.heap.size + 1) 50 [.slice (some ⟨xb', 0, none⟩) 2200 cB', .slice (some ⟨yb, 0, none⟩) 2200 cU] := E4; have K4 := Lib.hid (K3.out.chgN c4 (by omega)); have D4 := Lib.hid (D3.out.chg c4 (by omega) (by omega)); have ROW4 := Lib.hid (ROW3.out.chg c4 (by omega) (by omega)); have REV4 := Lib.hid (REV3.out.chgL c4 (REVB.out _ (by omega))); replace E4 := Lib.hid E4; clear c4 K3 E3 D3 ROW3 REV3)
            | (refine ld_at rfl 47 (.tmp 10) rfl w2.heap.size 0 (by rfl) 47 [] [.int .u32 u0, .int .u32 u1, .int .u32 u2, .int .u32 u3, .int .u32 u4, .int .u32 u5, .int .u32 u6, .int .u32 u7, .int .u32 u8, .int .u32 u9, .int .u32 u10] [] D4.out rfl Tryz.isAgg47 Tryz.sizeOf47 ?_)
            | (refine st_at rfl 47 (.tmp 36) (.tmp 35) rfl rfl (w.heap.size + 1) 0 58 [] [.int .u32 v0, .int .u32 v1, .int .u32 v2, .int .u32 v3, .int .u32 v4, .int .u32 v5, .int .u32 v6, .int .u32 v7, .int .u32 v8, .int .u32 v9, .int .u32 v10] [.int .u32 u0, .int .u32 u1, .int .u32 u2, .int .u32 u3, .int .u32 u4, .int .u32 u5, .int .u32 u6, .int .u32 u7, .int .u32 u8, .int .u32 u9, .int .u32 u10] [.slice RA rep.length rc, .int .i64 tk, .slice TA tr.length tc, .bool ov, .int .u32 cd, .int .i64 0, .int .i64 wh] (by rfl) (by rfl) K4.out.b rfl rfl Tryz.sizeOf47 (by simp [Value.oneCell']) ?_; intro A5 b5 c5; replace b5 : HasB A5 (w.heap.size + 1) 58 [.int .u32 u0, .int .u32 u1, .int .u32 u2, .int .u32 u3, .int .u32 u4, .int .u32 u5, .int .u32 u6, .int .u32 u7, .int .u32 u8, .int .u32 u9, .int .u32 u10, .slice RA rep.length rc, .int .i64 tk, .slice TA tr.length tc, .bool ov, .int .u32 cd, .int .i64 0, .int .i64 wh] := b5; have K5 := Lib.hid (K4.out.chgB c5 b5); have E5 := Lib.hid (E4.out.chg c5 (by omega) (by omega)); have ROW5 := Lib.hid (ROW4.out.chg c5 (by omega) (by omega)); have REV5 := Lib.hid (REV4.out.farG (w := w) c5 (by omega) (by omega) HO.out); clear c5 b5 K4 E4 D4 ROW4 REV4)
            | (refine ld_at rfl 50 (.tmp 11) rfl (w2.heap.size + 1) 0 (by rfl) 50 [] [.slice (some ⟨xb', 0, none⟩) 2200 cB', .slice (some ⟨yb, 0, none⟩) 2200 cU] [] E5.out rfl Tryz.isAgg50 Tryz.sizeOf50 ?_)
            | (refine st_at rfl 50 (.tmp 3) (.tmp 37) rfl rfl w.heap.size 0 50 [] [.slice (some ⟨xb, 0, none⟩) 2200 cB, .slice (some ⟨yb, 0, none⟩) 2200 cU] [.slice (some ⟨xb', 0, none⟩) 2200 cB', .slice (some ⟨yb, 0, none⟩) 2200 cU] [] (by rfl) (by rfl) K5.out.m rfl rfl Tryz.sizeOf50 (by simp [Value.oneCell']) ?_; intro A6 m6 c6; replace m6 : HasB A6 w.heap.size 50 [.slice (some ⟨xb', 0, none⟩) 2200 cB', .slice (some ⟨yb, 0, none⟩) 2200 cU] := m6; have k6 := Lib.hid (K5.out.chgM c6 m6); have ROW6 := Lib.hid (ROW5.out.chg c6 (by omega) (by omega)); have REV6 := Lib.hid (REV5.out.farG (w := w) c6 (by omega) (by omega) HO.out); clear c6 m6 K5 E5 ROW5 REV5))
          go_wp2_with fail
          go_roundw
          case rel => exact ⟨k + 1, ⟨⟨u0, [u1, u2, u3, u4, u5, u6, u7, u8], u9, u10⟩, ⟨rep, tk, tr, ov, cd⟩, 0, wh⟩, qB, xb', cB', TA, tc, by go_num, by omega, Lib.hid NXT.1, Lib.hid NXT.2, Lib.hid k6.out, Lib.hid ROW6.out, Lib.hid REV6.out, HR, hx9, HO0⟩
          case measure => simp [intOf]; omega
      · by_cases hq2 : qw = 2
        · subst hq2
          clear NX0 NXE hq0
          have GTF := Lib.hid (fun (xb' cB' : Nat) (A6 : World) (h1 : RowAt A6 (some ⟨xb', 0, none⟩) cB' qB) (h2 : BlAt A6 (some ⟨yb, 0, none⟩) cU U22) (h3 : KRow .u32 A6 RA rc rep) (h4 : EvRow A6 TA tc tr) => rgate_any xb' yb cB' cU qB QI.out.len QI.out.byt A6 h1 h2 QI.out.c QI.out.b QI.out.s ⟨rep, tk, tr, ov, cd⟩ OC.out.tk.1 OC.out.tk.2 OC.out.rep HTR.out RA rc TA tc h3 h4 qg)
          have NXG := NX2.out rfl _ rfl _ rfl
          have GWR := (gateS_W (⟨u0, [u1, u2, u3, u4, u5, u6, u7, u8], u9, u10⟩ : Cp) (sumV ⟨u0, [u1, u2, u3, u4, u5, u6, u7, u8], u9, u10⟩ qB T22) ⟨rep, tk, tr, ov, cd⟩ qg).1
          simp only at NXG GTF GWR
          generalize gateS (⟨u0, [u1, u2, u3, u4, u5, u6, u7, u8], u9, u10⟩ : Cp) (sumV ⟨u0, [u1, u2, u3, u4, u5, u6, u7, u8], u9, u10⟩ qB T22) ⟨rep, tk, tr, ov, cd⟩ qg = gr at *
          obtain ⟨⟨g0, gx, g9, g10⟩, ⟨gre9, gtk, gtr, gov, gcd⟩⟩ := gr
          obtain ⟨Bq, iq, _, _, _⟩ := NXG.1
          obtain ⟨g1, g2, g3, g4, g5, g6, g7, g8, hg⟩ := iq.ok.c.eight
          simp only at hg
          subst hg
          obtain rfl : rep = gre9 := GWR.symm
          clear iq NX2
          replace GTF : Hid (∀ (xb' cB' : Nat) (A6 : World) (h1 : RowAt A6 (some ⟨xb', 0, none⟩) cB' qB) (h2 : BlAt A6 (some ⟨yb, 0, none⟩) cU U22) (h3 : KRow .u32 A6 RA rc rep) (h4 : EvRow A6 TA tc tr), Calls Tryz.prog 32 #[.agg #[.int .u32 u0, .int .u32 u1, .int .u32 u2, .int .u32 u3, .int .u32 u4, .int .u32 u5, .int .u32 u6, .int .u32 u7, .int .u32 u8, .int .u32 u9, .int .u32 u10], .agg #[.slice (some ⟨xb', 0, none⟩) 2200 cB', .slice (some ⟨yb, 0, none⟩) 2200 cU], .agg #[.slice RA rep.length rc, .int .i64 tk, .slice TA tr.length tc, .bool ov, .int .u32 cd], .int .i64 qg] A6 fun e w' => ∃ TA' tc', e = .returned (.tuple #[.agg #[.int .u32 g0, .int .u32 g1, .int .u32 g2, .int .u32 g3, .int .u32 g4, .int .u32 g5, .int .u32 g6, .int .u32 g7, .int .u32 g8, .int .u32 g9, .int .u32 g10], .agg #[.slice RA rep.length rc, .int .i64 gtk, .slice TA' gtr.length tc', .bool gov, .int .u32 gcd]]) ∧ EvRow w' TA' tc' gtr ∧ Below A6.heap.size A6 w' ∧ ((TA' = TA ∧ gtr = tr) ∨ ∀ x, TA' = some x → A6.heap.size ≤ x.block)) := GTF
          replace NXG := Lib.hid NXG
          clear GWR
          have LTW := RSH.out.lt
          have p16 := RSH.out.b.cell 16
          simp only [List.getElem?_cons_succ, List.getElem?_cons_zero] at p16
          go_wp2_with (first
            | (refine ld_at rfl 47 (.tmp 25) rfl (w.heap.size + 1) 0 (by rfl) 58 [] [.int .u32 v0, .int .u32 v1, .int .u32 v2, .int .u32 v3, .int .u32 v4, .int .u32 v5, .int .u32 v6, .int .u32 v7, .int .u32 v8, .int .u32 v9, .int .u32 v10] [.slice RA rep.length rc, .int .i64 tk, .slice TA tr.length tc, .bool ov, .int .u32 cd, .int .i64 0, .int .i64 wh] RSH.out.b rfl Tryz.isAgg47 Tryz.sizeOf47 ?_)
            | (refine ld_at rfl 50 (.tmp 3) rfl w.heap.size 0 (by rfl) 50 [] [.slice (some ⟨xb, 0, none⟩) 2200 cB, .slice (some ⟨yb, 0, none⟩) 2200 cU] [] RSH.out.m rfl Tryz.isAgg50 Tryz.sizeOf50 ?_))
          refine ST.out.mono ?_; rintro e w2 ⟨xb', cB', rfl, row2, bel2, hx2⟩
          have k2 := RSH.out.below bel2
          have hx9 : xb' = xb0 ∨ w.heap.size + 4 ≤ xb' := by
            rcases hx2 with rfl | h
            · exact hx0
            · omega
          have hfar : xb' < w.heap.size ∨ w.heap.size + 4 ≤ xb' := by omega
          have hx2b : xb' < w2.heap.size := by
            obtain ⟨y, hy, hlt, _⟩ := row2.2.2.2 (by intro e; have := QI.out.len; simp only at this; rw [e] at this; simp at this)
            cases hy; exact hlt
          have RE2 := RE.out.below bel2
          have REVB : Hid (∀ j, w2.heap.size ≤ j → tr = [] ∨ ∀ y, TA = some y → y.block ≠ j) := Lib.hid (fun j hj => by
            by_cases hl : tr = []
            · exact .inl hl
            · obtain ⟨z, hz, hlt, _⟩ := RE2.2.2.2 hl
              refine .inr (fun y hy => ?_)
              rw [hz] at hy
              cases hy
              omega)
          have LT2 := k2.lt
          have BA : Below w2.heap.size w2 ((w2.alloc (.cells #[.int .u32 0, .int .u32 0, .int .u32 0, .int .u32 0, .int .u32 0, .int .u32 0, .int .u32 0, .int .u32 0, .int .u32 0, .int .u32 0, .int .u32 0] 47)).alloc (.cells #[.slice none 0 0, .slice none 0 0] 50)) := bel_al (bel_al (Below.refl _ _) _) _
          obtain ⟨A2, e2, K2, D2, E2, ROW2, REV2⟩ : ∃ A2, (w2.alloc (.cells #[.int .u32 0, .int .u32 0, .int .u32 0, .int .u32 0, .int .u32 0, .int .u32 0, .int .u32 0, .int .u32 0, .int .u32 0, .int .u32 0, .int .u32 0] 47)).alloc (.cells #[.slice none 0 0, .slice none 0 0] 50) = A2 ∧ Hid (RS w (.slice (some ⟨xb, 0, none⟩) 2200 cB) (.slice (some ⟨yb, 0, none⟩) 2200 cU) [.int .u32 v0, .int .u32 v1, .int .u32 v2, .int .u32 v3, .int .u32 v4, .int .u32 v5, .int .u32 v6, .int .u32 v7, .int .u32 v8, .int .u32 v9, .int .u32 v10, .slice RA rep.length rc, .int .i64 tk, .slice TA tr.length tc, .bool ov, .int .u32 cd, .int .i64 0, .int .i64 wh] A2) ∧ Hid (HasB A2 w2.heap.size 47 [.int .u32 0, .int .u32 0, .int .u32 0, .int .u32 0, .int .u32 0, .int .u32 0, .int .u32 0, .int .u32 0, .int .u32 0, .int .u32 0, .int .u32 0]) ∧ Hid (HasB A2 (w2.heap.size + 1) 50 [.slice none 0 0, .slice none 0 0]) ∧ Hid (RowAt A2 (some ⟨xb', 0, none⟩) cB' qB) ∧ Hid (EvRow A2 TA tc tr) :=
            ⟨_, rfl, Lib.hid (k2.below BA), Lib.hid ((HasB.new w2 47 [.int .u32 0, .int .u32 0, .int .u32 0, .int .u32 0, .int .u32 0, .int .u32 0, .int .u32 0, .int .u32 0, .int .u32 0, .int .u32 0, .int .u32 0]).al _), Lib.hid (HasB.newAt _ _ _ #[.slice none 0 0, .slice none 0 0] (by simp)), Lib.hid (row2.below BA), Lib.hid (RE2.below BA)⟩
          clear row2 bel2 hx2 ST RE2 BA k2 p16
          go_upto_region 7 with (first
            | (refine st_at rfl 47 (.tmp 10) (.tmp 29) rfl rfl w2.heap.size 0 47 [] [.int .u32 0, .int .u32 0, .int .u32 0, .int .u32 0, .int .u32 0, .int .u32 0, .int .u32 0, .int .u32 0, .int .u32 0, .int .u32 0, .int .u32 0] [.int .u32 u0, .int .u32 u1, .int .u32 u2, .int .u32 u3, .int .u32 u4, .int .u32 u5, .int .u32 u6, .int .u32 u7, .int .u32 u8, .int .u32 u9, .int .u32 u10] [] (by rfl) (by rfl) D2.out rfl rfl Tryz.sizeOf47 (by simp [Value.oneCell']) ?_; intro A3 D3 c3; replace D3 : HasB A3 w2.heap.size 47 [.int .u32 u0, .int .u32 u1, .int .u32 u2, .int .u32 u3, .int .u32 u4, .int .u32 u5, .int .u32 u6, .int .u32 u7, .int .u32 u8, .int .u32 u9, .int .u32 u10] := D3; have K3 := Lib.hid (K2.out.chgN c3 LT2); have E3 := Lib.hid (E2.out.chg c3 (by omega) (by omega)); have ROW3 := Lib.hid (ROW2.out.chg c3 (by omega) (by omega)); have REV3 := Lib.hid (REV2.out.chgL c3 (REVB.out _ (by omega))); replace D3 := Lib.hid D3; clear c3 K2 E2 D2 ROW2 REV2 e2)
            | (refine st_at rfl 50 (.tmp 11) (.tmp 30) rfl rfl (w2.heap.size + 1) 0 50 [] [.slice none 0 0, .slice none 0 0] [.slice (some ⟨xb', 0, none⟩) 2200 cB', .slice (some ⟨yb, 0, none⟩) 2200 cU] [] (by rfl) (by rfl) E3.out rfl rfl Tryz.sizeOf50 (by simp [Value.oneCell']) ?_; intro A4 E4 c4; replace E4 : HasB A4 (w2.heap.size + 1) 50 [.slice (some ⟨xb', 0, none⟩) 2200 cB', .slice (some ⟨yb, 0, none⟩) 2200 cU] := E4; have K4 := Lib.hid (K3.out.chgN c4 (by omega)); have D4 := Lib.hid (D3.out.chg c4 (by omega) (by omega)); have ROW4 := Lib.hid (ROW3.out.chg c4 (by omega) (by omega)); have REV4 := Lib.hid (REV3.out.chgL c4 (REVB.out _ (by omega))); replace E4 := Lib.hid E4; clear c4 K3 E3 D3 ROW3 REV3)
            | (refine ld_at rfl 47 (.tmp 10) rfl w2.heap.size 0 (by rfl) 47 [] [.int .u32 u0, .int .u32 u1, .int .u32 u2, .int .u32 u3, .int .u32 u4, .int .u32 u5, .int .u32 u6, .int .u32 u7, .int .u32 u8, .int .u32 u9, .int .u32 u10] [] D4.out rfl Tryz.isAgg47 Tryz.sizeOf47 ?_)
            | (refine st_at rfl 47 (.tmp 36) (.tmp 35) rfl rfl (w.heap.size + 1) 0 58 [] [.int .u32 v0, .int .u32 v1, .int .u32 v2, .int .u32 v3, .int .u32 v4, .int .u32 v5, .int .u32 v6, .int .u32 v7, .int .u32 v8, .int .u32 v9, .int .u32 v10] [.int .u32 u0, .int .u32 u1, .int .u32 u2, .int .u32 u3, .int .u32 u4, .int .u32 u5, .int .u32 u6, .int .u32 u7, .int .u32 u8, .int .u32 u9, .int .u32 u10] [.slice RA rep.length rc, .int .i64 tk, .slice TA tr.length tc, .bool ov, .int .u32 cd, .int .i64 0, .int .i64 wh] (by rfl) (by rfl) K4.out.b rfl rfl Tryz.sizeOf47 (by simp [Value.oneCell']) ?_; intro A5 b5 c5; replace b5 : HasB A5 (w.heap.size + 1) 58 [.int .u32 u0, .int .u32 u1, .int .u32 u2, .int .u32 u3, .int .u32 u4, .int .u32 u5, .int .u32 u6, .int .u32 u7, .int .u32 u8, .int .u32 u9, .int .u32 u10, .slice RA rep.length rc, .int .i64 tk, .slice TA tr.length tc, .bool ov, .int .u32 cd, .int .i64 0, .int .i64 wh] := b5; have K5 := Lib.hid (K4.out.chgB c5 b5); have E5 := Lib.hid (E4.out.chg c5 (by omega) (by omega)); have ROW5 := Lib.hid (ROW4.out.chg c5 (by omega) (by omega)); have REV5 := Lib.hid (REV4.out.farG (w := w) c5 (by omega) (by omega) HO.out); clear c5 b5 K4 E4 D4 ROW4 REV4)
            | (refine ld_at rfl 50 (.tmp 11) rfl (w2.heap.size + 1) 0 (by rfl) 50 [] [.slice (some ⟨xb', 0, none⟩) 2200 cB', .slice (some ⟨yb, 0, none⟩) 2200 cU] [] E5.out rfl Tryz.isAgg50 Tryz.sizeOf50 ?_)
            | (refine st_at rfl 50 (.tmp 3) (.tmp 37) rfl rfl w.heap.size 0 50 [] [.slice (some ⟨xb, 0, none⟩) 2200 cB, .slice (some ⟨yb, 0, none⟩) 2200 cU] [.slice (some ⟨xb', 0, none⟩) 2200 cB', .slice (some ⟨yb, 0, none⟩) 2200 cU] [] (by rfl) (by rfl) K5.out.m rfl rfl Tryz.sizeOf50 (by simp [Value.oneCell']) ?_; intro A6 m6 c6; replace m6 : HasB A6 w.heap.size 50 [.slice (some ⟨xb', 0, none⟩) 2200 cB', .slice (some ⟨yb, 0, none⟩) 2200 cU] := m6; have k6 := Lib.hid (K5.out.chgM c6 m6); have ROW6 := Lib.hid (ROW5.out.chg c6 (by omega) (by omega)); have REV6 := Lib.hid (REV5.out.farG (w := w) c6 (by omega) (by omega) HO.out); clear c6 m6 K5 E5 ROW5 REV5))
          have KA := k6.out
          have GT := Lib.hid (GTF.out xb' cB' A6 ROW6.out (RU.out.below KA.bel) (show KRow .u32 A6 RA rc rep from by rw [show rep = x0.W.rep from HR.out]; exact RR.out.below KA.bel) REV6.out)
          clear GTF
          go_wp2_with (first
            | (refine ld_at rfl 47 (.tmp 41) rfl (w.heap.size + 1) 0 (by rfl) 58 [] [.int .u32 u0, .int .u32 u1, .int .u32 u2, .int .u32 u3, .int .u32 u4, .int .u32 u5, .int .u32 u6, .int .u32 u7, .int .u32 u8, .int .u32 u9, .int .u32 u10] [.slice RA rep.length rc, .int .i64 tk, .slice TA tr.length tc, .bool ov, .int .u32 cd, .int .i64 0, .int .i64 wh] KA.b rfl Tryz.isAgg47 Tryz.sizeOf47 ?_)
            | (refine ld_at rfl 50 (.tmp 3) rfl w.heap.size 0 (by rfl) 50 [] [.slice (some ⟨xb', 0, none⟩) 2200 cB', .slice (some ⟨yb, 0, none⟩) 2200 cU] [] KA.m rfl Tryz.isAgg50 Tryz.sizeOf50 ?_)
            | (refine ld_at rfl 56 (.tmp 44) rfl (w.heap.size + 1) 11 (by rfl) 58 [.int .u32 u0, .int .u32 u1, .int .u32 u2, .int .u32 u3, .int .u32 u4, .int .u32 u5, .int .u32 u6, .int .u32 u7, .int .u32 u8, .int .u32 u9, .int .u32 u10] [.slice RA rep.length rc, .int .i64 tk, .slice TA tr.length tc, .bool ov, .int .u32 cd] [.int .i64 0, .int .i64 wh] KA.b rfl Tryz.isAgg56 Tryz.sizeOf56 ?_))
          refine GT.out.mono ?_; rintro e w3 ⟨TA', tc', rfl, row3, bel3, hT3⟩
          have k3 := KA.below bel3
          have HO8 : Hid ((TA' = TA0 ∧ gtr = x0.W.tr) ∨ ∀ y, TA' = some y → w.heap.size + 4 ≤ y.block) := Lib.hid (by
            rcases hT3 with ⟨rfl, rfl⟩ | h
            · exact HO0.out
            · exact .inr (fun y hy => by have := h y hy; have := KA.lt; omega))
          have HO3 : Hid (∀ y, TA' = some y → gtr ≠ [] → y.block < w.heap.size ∨ w.heap.size + 4 ≤ y.block) := Lib.hid (fun y hy hne => by
            rcases HO8.out with ⟨h1, h2⟩ | h
            · exact .inl (HT0.out y (h1.symm.trans hy) (by rw [← h2]; exact hne))
            · exact .inr (h y hy))
          have REVC : Hid (∀ j, w3.heap.size ≤ j → gtr = [] ∨ ∀ y, TA' = some y → y.block ≠ j) := Lib.hid (fun j hj => by
            by_cases hl : gtr = []
            · exact .inl hl
            · obtain ⟨z, hz, hlt, _⟩ := row3.2.2.2 hl
              refine .inr (fun y hy => ?_)
              rw [hz] at hy
              cases hy
              omega)
          have LT3 := k3.lt
          have hx3b : xb' < w3.heap.size := Nat.lt_of_lt_of_le (by
            obtain ⟨y, hy, hlt, _⟩ := ROW6.out.2.2.2 (by intro e; have := QI.out.len; simp only at this; rw [e] at this; simp at this)
            cases hy; exact hlt) bel3.size
          have BC : Below w3.heap.size w3 ((w3.alloc (.cells #[.int .u32 0, .int .u32 0, .int .u32 0, .int .u32 0, .int .u32 0, .int .u32 0, .int .u32 0, .int .u32 0, .int .u32 0, .int .u32 0, .int .u32 0] 47)).alloc (.cells #[.slice none 0 0, .int .i64 0, .slice none 0 0, .bool false, .int .u32 0] 56)) := bel_al (bel_al (Below.refl _ _) _) _
          obtain ⟨G2, j2, K2, D2, E2, ROWG2, REVG2⟩ : ∃ G2, (w3.alloc (.cells #[.int .u32 0, .int .u32 0, .int .u32 0, .int .u32 0, .int .u32 0, .int .u32 0, .int .u32 0, .int .u32 0, .int .u32 0, .int .u32 0, .int .u32 0] 47)).alloc (.cells #[.slice none 0 0, .int .i64 0, .slice none 0 0, .bool false, .int .u32 0] 56) = G2 ∧ Hid (RS w (.slice (some ⟨xb', 0, none⟩) 2200 cB') (.slice (some ⟨yb, 0, none⟩) 2200 cU) [.int .u32 u0, .int .u32 u1, .int .u32 u2, .int .u32 u3, .int .u32 u4, .int .u32 u5, .int .u32 u6, .int .u32 u7, .int .u32 u8, .int .u32 u9, .int .u32 u10, .slice RA rep.length rc, .int .i64 tk, .slice TA tr.length tc, .bool ov, .int .u32 cd, .int .i64 0, .int .i64 wh] G2) ∧ Hid (HasB G2 w3.heap.size 47 [.int .u32 0, .int .u32 0, .int .u32 0, .int .u32 0, .int .u32 0, .int .u32 0, .int .u32 0, .int .u32 0, .int .u32 0, .int .u32 0, .int .u32 0]) ∧ Hid (HasB G2 (w3.heap.size + 1) 56 [.slice none 0 0, .int .i64 0, .slice none 0 0, .bool false, .int .u32 0]) ∧ Hid (RowAt G2 (some ⟨xb', 0, none⟩) cB' qB) ∧ Hid (EvRow G2 TA' tc' gtr) :=
            ⟨_, rfl, Lib.hid (k3.below BC), Lib.hid ((HasB.new w3 47 [.int .u32 0, .int .u32 0, .int .u32 0, .int .u32 0, .int .u32 0, .int .u32 0, .int .u32 0, .int .u32 0, .int .u32 0, .int .u32 0, .int .u32 0]).al _), Lib.hid (HasB.newAt _ _ _ #[.slice none 0 0, .int .i64 0, .slice none 0 0, .bool false, .int .u32 0] (by simp)), Lib.hid ((ROW6.out.below bel3).below BC), Lib.hid (row3.below BC)⟩
          clear row3 bel3 hT3 GT KA k6 ROW6 REV6 k3 BC
          go_upto_region 11 with (first
            | (refine st_at rfl 47 (.tmp 14) (.tmp 48) rfl rfl w3.heap.size 0 47 [] [.int .u32 0, .int .u32 0, .int .u32 0, .int .u32 0, .int .u32 0, .int .u32 0, .int .u32 0, .int .u32 0, .int .u32 0, .int .u32 0, .int .u32 0] [.int .u32 g0, .int .u32 g1, .int .u32 g2, .int .u32 g3, .int .u32 g4, .int .u32 g5, .int .u32 g6, .int .u32 g7, .int .u32 g8, .int .u32 g9, .int .u32 g10] [] (by rfl) (by rfl) D2.out rfl rfl Tryz.sizeOf47 (by simp [Value.oneCell']) ?_; intro G3 D3 c3; replace D3 : HasB G3 w3.heap.size 47 [.int .u32 g0, .int .u32 g1, .int .u32 g2, .int .u32 g3, .int .u32 g4, .int .u32 g5, .int .u32 g6, .int .u32 g7, .int .u32 g8, .int .u32 g9, .int .u32 g10] := D3; have K3 := Lib.hid (K2.out.chgN c3 LT3); have E3 := Lib.hid (E2.out.chg c3 (by omega) (by omega)); have ROWG3 := Lib.hid (ROWG2.out.chg c3 (by omega) (by omega)); have REVG3 := Lib.hid (REVG2.out.chgL c3 (REVC.out _ (by omega))); replace D3 := Lib.hid D3; clear c3 K2 E2 D2 ROWG2 REVG2 j2)
            | (refine st_at rfl 56 (.tmp 15) (.tmp 49) rfl rfl (w3.heap.size + 1) 0 56 [] [.slice none 0 0, .int .i64 0, .slice none 0 0, .bool false, .int .u32 0] [.slice RA rep.length rc, .int .i64 gtk, .slice TA' gtr.length tc', .bool gov, .int .u32 gcd] [] (by rfl) (by rfl) E3.out rfl rfl Tryz.sizeOf56 (by simp [Value.oneCell']) ?_; intro G4 E4 c4; replace E4 : HasB G4 (w3.heap.size + 1) 56 [.slice RA rep.length rc, .int .i64 gtk, .slice TA' gtr.length tc', .bool gov, .int .u32 gcd] := E4; have K4 := Lib.hid (K3.out.chgN c4 (by omega)); have D4 := Lib.hid (D3.out.chg c4 (by omega) (by omega)); have ROWG4 := Lib.hid (ROWG3.out.chg c4 (by omega) (by omega)); have REVG4 := Lib.hid (REVG3.out.chgL c4 (REVC.out _ (by omega))); replace E4 := Lib.hid E4; clear c4 K3 E3 D3 ROWG3 REVG3)
            | (refine ld_at rfl 47 (.tmp 14) rfl w3.heap.size 0 (by rfl) 47 [] [.int .u32 g0, .int .u32 g1, .int .u32 g2, .int .u32 g3, .int .u32 g4, .int .u32 g5, .int .u32 g6, .int .u32 g7, .int .u32 g8, .int .u32 g9, .int .u32 g10] [] D4.out rfl Tryz.isAgg47 Tryz.sizeOf47 ?_)
            | (refine st_at rfl 47 (.tmp 51) (.tmp 50) rfl rfl (w.heap.size + 1) 0 58 [] [.int .u32 u0, .int .u32 u1, .int .u32 u2, .int .u32 u3, .int .u32 u4, .int .u32 u5, .int .u32 u6, .int .u32 u7, .int .u32 u8, .int .u32 u9, .int .u32 u10] [.int .u32 g0, .int .u32 g1, .int .u32 g2, .int .u32 g3, .int .u32 g4, .int .u32 g5, .int .u32 g6, .int .u32 g7, .int .u32 g8, .int .u32 g9, .int .u32 g10] [.slice RA rep.length rc, .int .i64 tk, .slice TA tr.length tc, .bool ov, .int .u32 cd, .int .i64 0, .int .i64 wh] (by rfl) (by rfl) K4.out.b rfl rfl Tryz.sizeOf47 (by simp [Value.oneCell']) ?_; intro G5 b5 c5; replace b5 : HasB G5 (w.heap.size + 1) 58 ([.int .u32 g0, .int .u32 g1, .int .u32 g2, .int .u32 g3, .int .u32 g4, .int .u32 g5, .int .u32 g6, .int .u32 g7, .int .u32 g8, .int .u32 g9, .int .u32 g10, .slice RA rep.length rc, .int .i64 tk, .slice TA tr.length tc, .bool ov, .int .u32 cd, .int .i64 0, .int .i64 wh]) := b5; have K5 := Lib.hid (K4.out.chgB c5 b5); have E5 := Lib.hid (E4.out.chg c5 (by omega) (by omega)); have ROWG5 := Lib.hid (ROWG4.out.chg c5 (by omega) (by omega)); have REVG5 := Lib.hid (REVG4.out.farG (w := w) c5 (by omega) (by omega) HO3.out); clear c5 b5 K4 E4 D4 ROWG4 REVG4)
            | (refine ld_at rfl 56 (.tmp 15) rfl (w3.heap.size + 1) 0 (by rfl) 56 [] [.slice RA rep.length rc, .int .i64 gtk, .slice TA' gtr.length tc', .bool gov, .int .u32 gcd] [] E5.out rfl Tryz.isAgg56 Tryz.sizeOf56 ?_)
            | (refine st_at rfl 56 (.tmp 53) (.tmp 52) rfl rfl (w.heap.size + 1) 11 58 [.int .u32 g0, .int .u32 g1, .int .u32 g2, .int .u32 g3, .int .u32 g4, .int .u32 g5, .int .u32 g6, .int .u32 g7, .int .u32 g8, .int .u32 g9, .int .u32 g10] [.slice RA rep.length rc, .int .i64 tk, .slice TA tr.length tc, .bool ov, .int .u32 cd] [.slice RA rep.length rc, .int .i64 gtk, .slice TA' gtr.length tc', .bool gov, .int .u32 gcd] [.int .i64 0, .int .i64 wh] (by rfl) (by rfl) K5.out.b rfl rfl Tryz.sizeOf56 (by simp [Value.oneCell']) ?_; intro G6 b6 c6; replace b6 : HasB G6 (w.heap.size + 1) 58 ([.int .u32 g0, .int .u32 g1, .int .u32 g2, .int .u32 g3, .int .u32 g4, .int .u32 g5, .int .u32 g6, .int .u32 g7, .int .u32 g8, .int .u32 g9, .int .u32 g10, .slice RA rep.length rc, .int .i64 gtk, .slice TA' gtr.length tc', .bool gov, .int .u32 gcd, .int .i64 0, .int .i64 wh]) := b6; have k9 := Lib.hid (K5.out.chgB c6 b6); have ROW9 := Lib.hid (ROWG5.out.chg c6 (by omega) (by omega)); have REV9 := Lib.hid (REVG5.out.farG (w := w) c6 (by omega) (by omega) HO3.out); clear c6 b6 K5 E5 ROWG5 REVG5))
          by_cases hg0 : qg = 0
          · subst hg0
            as_aux_lemma =>
            have RFN := NXG.out.1
            have SLN := NXG.out.2.1 (by decide)
            simp only [if_true] at RFN SLN
            clear NXG
            replace RFN := Lib.hid RFN
            replace SLN := Lib.hid SLN
            have y16 := k9.out.b.cell 16
            have yf16 := k9.out.b.frozen 16
            obtain ⟨G7, j7, k7, c7⟩ := k9.out.setB 16 (.int .i64 1)
            simp only [List.set_cons_zero, List.set_cons_succ, List.getElem?_cons_succ, List.getElem?_cons_zero] at k7 y16
            have K7 := Lib.hid k7
            have ROW7 := Lib.hid (ROW9.out.chg c7 (by omega) (by omega))
            have REV7 := Lib.hid (REV9.out.farG (w := w) c7 (by omega) (by omega) HO3.out)
            clear k7 c7
            go_wp2_with fail
            go_roundw
            case rel => exact ⟨k + 1, ⟨⟨g0, [g1, g2, g3, g4, g5, g6, g7, g8], g9, g10⟩, ⟨rep, gtk, gtr, gov, gcd⟩, 1, wh⟩, qB, xb', cB', TA', tc', by go_num, by omega, SLN, RFN, Lib.hid K7.out, Lib.hid ROW7.out, Lib.hid REV7.out, HR, hx9, HO8⟩
            case measure => simp [intOf]; omega
          · by_cases hg4 : qg = 4
            · subst hg4
              as_aux_lemma =>
              clear hg0
              have RFN := NXG.out.2.2 (by first | rfl | trivial)
              simp only [if_neg (show ¬ (4 : Int) = 0 by decide)] at RFN
              replace RFN := HRES.out.symm.trans RFN
              clear NXG
              replace RFN := Lib.hid RFN
              go_upto_region 14 with fail
              obtain ⟨CS, hCS⟩ : ∃ CS : List Value, CS = [.int .u32 g0, .int .u32 g1, .int .u32 g2, .int .u32 g3, .int .u32 g4, .int .u32 g5, .int .u32 g6, .int .u32 g7, .int .u32 g8, .int .u32 g9, .int .u32 g10, .slice RA rep.length rc, .int .i64 gtk, .slice TA' gtr.length tc', .bool gov, .int .u32 gcd, .int .i64 0, .int .i64 wh] := ⟨_, rfl⟩
              obtain ⟨MS, hMS⟩ : ∃ MS : List Value, MS = [.slice (some ⟨xb', 0, none⟩) 2200 cB', .slice (some ⟨yb, 0, none⟩) 2200 cU] := ⟨_, rfl⟩
              have LC : Hid (([.int .u32 0, .int .u32 0, .int .u32 0, .int .u32 0, .int .u32 0, .int .u32 0, .int .u32 0, .int .u32 0, .int .u32 0, .int .u32 0, .int .u32 0, .slice none 0 0, .int .i64 0, .slice none 0 0, .bool false, .int .u32 0, .int .i64 0, .int .i64 0] : List Value).length = CS.length ∧ ∀ v ∈ CS, v.oneCell' = true) := Lib.hid (by rw [hCS]; exact ⟨rfl, by simp [Value.oneCell']⟩)
              have LM : Hid (([.slice none 0 0, .slice none 0 0] : List Value).length = MS.length ∧ ∀ v ∈ MS, v.oneCell' = true) := Lib.hid (by rw [hMS]; exact ⟨rfl, by simp [Value.oneCell']⟩)
              have IC : (Tryz.prog.info? 58).map (·.size) = some CS.length := by rw [hCS]; kernel_rfl
              have IM : (Tryz.prog.info? 50).map (·.size) = some MS.length := by rw [hMS]; kernel_rfl
              have KB : Hid (HasB G6 (w.heap.size + 1) 58 CS) := Lib.hid (by rw [hCS]; exact k9.out.b)
              have KM : Hid (HasB G6 w.heap.size 50 MS) := Lib.hid (by rw [hMS]; exact k9.out.m)
              have KRB := Lib.hid (show HasB G6.drew (w.heap.size + 1 + 1) 58 [.int .u32 0, .int .u32 0, .int .u32 0, .int .u32 0, .int .u32 0, .int .u32 0, .int .u32 0, .int .u32 0, .int .u32 0, .int .u32 0, .int .u32 0, .slice none 0 0, .int .i64 0, .slice none 0 0, .bool false, .int .u32 0, .int .i64 0, .int .i64 0] from k9.out.rb)
              have KRM := Lib.hid (show HasB G6.drew (w.heap.size + 1 + 1 + 1) 50 [.slice none 0 0, .slice none 0 0] from k9.out.rm)
              have GB := Lib.hid k9.out.bel
              refine wp_region_noPanic ?_
              refine wp_region_held_drew (S := (fun w' => HasB w' (w.heap.size + 1) 58 CS ∧ HasB w' w.heap.size 50 MS)) (by kernel_rfl) ?_ (fun hHeld => ?_)
              · (try dsimp only)
                exact ⟨KB.out, KM.out⟩
              refine wpAnyH_take (i := 0) (oi := { dst := some 59, op := Op.load 58 (Operand.tmp 4), type := 58, pos := "ref.go:33", after := #[], guard := none }) (v := ?_) rfl (by kernel_rfl) (by kernel_rfl) (by kernel_rfl) (fun _ _ _ h => h) (Or.inl ⟨by rfl, ?_⟩) (by assumption) ?_
              rotate_left
              · intro wz hSw; refine exec_load_has 58 (.tmp 4) ?_ (w.heap.size + 1) ?_ hSw.1 ?_ Tryz.underlying58 IC <;> rfl
              (try simp only [Act.put, lsA, lsZ, lsS])
              refine wpAnyH_take (i := 1) (oi := { dst := some 60, op := Op.load 50 (Operand.tmp 3), type := 50, pos := "ref.go:33", after := #[{ on := 3, ground := Ground.gcOnly Departure.lateStores }], guard := none }) (v := ?_) rfl (by kernel_rfl) (by kernel_rfl) (by kernel_rfl) (fun _ _ _ h => h) (Or.inl ⟨by rfl, ?_⟩) (by assumption) ?_
              rotate_left
              · intro wz hSw; refine exec_load_has 50 (.tmp 3) ?_ (w.heap.size) ?_ hSw.2 ?_ Tryz.underlying50 IM <;> rfl
              (try simp only [Act.put, lsA, lsZ, lsS])
              refine wpAnyH_take (i := 2) (oi := { dst := some 61, op := Op.move (Operand.tmp 9), type := 3, pos := "ref.go:33", after := #[{ on := 4, ground := Ground.gcOnly Departure.lateStores }], guard := none }) (v := ?_) rfl (by kernel_rfl) (by kernel_rfl) (by kernel_rfl) (fun _ _ _ h => h) (Or.inl ⟨by rfl, ?_⟩) (by assumption) ?_
              rotate_left
              · intro w hSw; (try dsimp only at hSw); go_simp <;> (with_reducible rfl)
              (try simp only [Act.put, lsA, lsZ, lsS])
              refine wpAnyH_ready (rs := [3]) (by kernel_rfl) (by simp) ?_
              refine AllReadyH.cons (o := { dst := none, op := Op.store 58 (Operand.tmp 6) (Operand.tmp 59), type := 0, pos := "ref.go:33", after := #[{ on := 0, ground := Ground.data }, { on := 0, ground := Ground.phase }, { on := 1, ground := Ground.textOnly Departure.lateStores }, { on := 2, ground := Ground.textOnly Departure.lateStores }], guard := none }) rfl (fun K hK => ?_) ?_
              · rw [if_pos (by rfl)]
                refine st_has 58 (.tmp 6) (.tmp 59) rfl rfl _ _ CS rfl rfl KRB.out LC.out.1 IC LC.out.2 ?_
                intro W1 h1 c1
                replace h1 := Lib.hid h1
                replace c1 := Lib.hid c1
                refine hK.out _ _ ?_ (fun hHeld => ?_)
                · (try dsimp only)
                  exact ⟨hHeld.1.chg c1.out (by omega) (by omega), hHeld.2.chg c1.out (by omega) (by omega)⟩
                clear hK K
                (try simp only [Act.put, lsA, lsZ, lsS])
                refine wpAnyH_ready (rs := [4]) (by kernel_rfl) (by simp) ?_
                refine AllReadyH.cons (o := { dst := none, op := Op.store 50 (Operand.tmp 7) (Operand.tmp 60), type := 0, pos := "ref.go:33", after := #[{ on := 1, ground := Ground.data }, { on := 3, ground := Ground.chain }, { on := 0, ground := Ground.phase }, { on := 1, ground := Ground.phase }, { on := 2, ground := Ground.textOnly Departure.lateStores }, { on := 3, ground := Ground.phase }], guard := none }) rfl (fun K hK => ?_) ?_
                · rw [if_pos (by rfl)]
                  refine st_has 50 (.tmp 7) (.tmp 60) rfl rfl _ _ MS rfl rfl (KRM.out.chg c1.out (by omega) (by omega)) LM.out.1 IM LM.out.2 ?_
                  intro W2 h2 c2
                  replace h2 := Lib.hid h2
                  replace c2 := Lib.hid c2
                  refine hK.out _ _ ?_ (fun hHeld => ?_)
                  · (try dsimp only)
                    exact ⟨hHeld.1.chg c2.out (by omega) (by omega), hHeld.2.chg c2.out (by omega) (by omega)⟩
                  clear hK K
                  (try simp only [Act.put, lsA, lsZ, lsS])
                  refine wpAnyH_take (i := 5) (oi := { dst := some 8, op := Op.assign (Operand.tmp 61), type := 3, pos := "ref.go:33", after := #[{ on := 2, ground := Ground.data }, { on := 4, ground := Ground.chain }, { on := 0, ground := Ground.phase }, { on := 1, ground := Ground.phase }, { on := 2, ground := Ground.phase }, { on := 3, ground := Ground.phase }, { on := 4, ground := Ground.phase }], guard := none }) (v := ?_) rfl (by kernel_rfl) (by kernel_rfl) (by kernel_rfl) (fun _ _ _ h => h) (Or.inl ⟨by rfl, ?_⟩) (by assumption) ?_
                  rotate_left
                  · intro w hSw; (try dsimp only at hSw); go_simp <;> (with_reducible rfl)
                  (try simp only [Act.put, lsA, lsZ, lsS])
                  refine wpAnyH_done (by kernel_rfl) ?_ _
                  refine NoPanic.normal ?_
                  subst hCS hMS
                  have V1 := loadvar_has (h1.out.chg c2.out (by omega) (by omega)) rfl Tryz.underlying58 IC
                  have V2 := loadvar_has h2.out rfl Tryz.underlying50 IM
                  go_wp2_with fail
                  refine bodyPost_ret (v := .tuple #[.agg #[.int .u32 g0, .int .u32 g1, .int .u32 g2, .int .u32 g3, .int .u32 g4, .int .u32 g5, .int .u32 g6, .int .u32 g7, .int .u32 g8, .int .u32 g9, .int .u32 g10, .slice RA rep.length rc, .int .i64 gtk, .slice TA' gtr.length tc', .bool gov, .int .u32 gcd, .int .i64 0, .int .i64 wh], .agg #[.slice (some ⟨xb', 0, none⟩) 2200 cB', .slice (some ⟨yb, 0, none⟩) 2200 cU], .int .i64 ((k : Int) + 1)]) (by simp [results, Tryz.results18, asaddr_run, V1, V2]) rfl ?_
                  rw [RFN.out]
                  exact ⟨xb', cB', TA', tc', rfl, ((show RowAt G6.drew _ _ _ from ROW9.out).chg c1.out (by omega) (by omega)).chg c2.out (by omega) (by omega), ((EvRow.below (w' := G6.drew) REV9.out (Below.refl _ _).drew).farG (w := w) c1.out (by omega) (by omega) HO3.out).farG (w := w) c2.out (by omega) (by omega) HO3.out, c2.out.below (c1.out.below (Below.drew (w := G6) GB.out) GB.out.size (by omega) (by omega)) (Nat.le_trans GB.out.size c1.out.size) (by omega) (by omega), by omega, by rcases HO8.out with h | h; exact .inl h; exact .inr (fun y hy => by have := h y hy; omega)⟩
                exact AllReadyH.nil
              exact AllReadyH.nil
            · as_aux_lemma =>
              have RFN := NXG.out.1
              have SLN := NXG.out.2.1 hg4
              simp only [if_neg hg0] at RFN SLN
              have q0 : (qg == 0) = false := by simpa using hg0
              have q4 : (qg == 4) = false := by simpa using hg4
              clear NXG
              replace RFN := Lib.hid RFN
              replace SLN := Lib.hid SLN
              go_wp2_with fail
              go_roundw
              case rel => exact ⟨k + 1, ⟨⟨g0, [g1, g2, g3, g4, g5, g6, g7, g8], g9, g10⟩, ⟨rep, gtk, gtr, gov, gcd⟩, 0, wh⟩, qB, xb', cB', TA', tc', by go_num, by omega, SLN, RFN, Lib.hid k9.out, Lib.hid ROW9.out, Lib.hid REV9.out, HR, hx9, HO8⟩
              case measure => simp [intOf]; omega
        · clear NX0 NX2
          as_aux_lemma =>
            have NXT := NXE.out hq0 hq2
            have q0 : (qw == 0) = false := by simpa using hq0
            have q2 : (qw == 2) = false := by simpa using hq2
            have q0n : (qw != 0) = true := by simpa using hq0
            have q2n : (qw != 2) = true := by simpa using hq2
            have LTW := RSH.out.lt
            have p16 := RSH.out.b.cell 16
            simp only [List.getElem?_cons_succ, List.getElem?_cons_zero] at p16
            go_wp2_with (first
              | (refine ld_at rfl 47 (.tmp 25) rfl (w.heap.size + 1) 0 (by rfl) 58 [] [.int .u32 v0, .int .u32 v1, .int .u32 v2, .int .u32 v3, .int .u32 v4, .int .u32 v5, .int .u32 v6, .int .u32 v7, .int .u32 v8, .int .u32 v9, .int .u32 v10] [.slice RA rep.length rc, .int .i64 tk, .slice TA tr.length tc, .bool ov, .int .u32 cd, .int .i64 0, .int .i64 wh] RSH.out.b rfl Tryz.isAgg47 Tryz.sizeOf47 ?_)
              | (refine ld_at rfl 50 (.tmp 3) rfl w.heap.size 0 (by rfl) 50 [] [.slice (some ⟨xb, 0, none⟩) 2200 cB, .slice (some ⟨yb, 0, none⟩) 2200 cU] [] RSH.out.m rfl Tryz.isAgg50 Tryz.sizeOf50 ?_))
            refine ST.out.mono ?_; rintro e w2 ⟨xb', cB', rfl, row2, bel2, hx2⟩
            have k2 := RSH.out.below bel2
            have hx9 : xb' = xb0 ∨ w.heap.size + 4 ≤ xb' := by
              rcases hx2 with rfl | h
              · exact hx0
              · omega
            have hfar : xb' < w.heap.size ∨ w.heap.size + 4 ≤ xb' := by omega
            have hx2b : xb' < w2.heap.size := by
              obtain ⟨y, hy, hlt, _⟩ := row2.2.2.2 (by intro e; have := QI.out.len; simp only at this; rw [e] at this; simp at this)
              cases hy; exact hlt
            have RE2 := RE.out.below bel2
            have REVB : Hid (∀ j, w2.heap.size ≤ j → tr = [] ∨ ∀ y, TA = some y → y.block ≠ j) := Lib.hid (fun j hj => by
              by_cases hl : tr = []
              · exact .inl hl
              · obtain ⟨z, hz, hlt, _⟩ := RE2.2.2.2 hl
                refine .inr (fun y hy => ?_)
                rw [hz] at hy
                cases hy
                omega)
            have LT2 := k2.lt
            have BA : Below w2.heap.size w2 ((w2.alloc (.cells #[.int .u32 0, .int .u32 0, .int .u32 0, .int .u32 0, .int .u32 0, .int .u32 0, .int .u32 0, .int .u32 0, .int .u32 0, .int .u32 0, .int .u32 0] 47)).alloc (.cells #[.slice none 0 0, .slice none 0 0] 50)) := bel_al (bel_al (Below.refl _ _) _) _
            obtain ⟨A2, e2, K2, D2, E2, ROW2, REV2⟩ : ∃ A2, (w2.alloc (.cells #[.int .u32 0, .int .u32 0, .int .u32 0, .int .u32 0, .int .u32 0, .int .u32 0, .int .u32 0, .int .u32 0, .int .u32 0, .int .u32 0, .int .u32 0] 47)).alloc (.cells #[.slice none 0 0, .slice none 0 0] 50) = A2 ∧ Hid (RS w (.slice (some ⟨xb, 0, none⟩) 2200 cB) (.slice (some ⟨yb, 0, none⟩) 2200 cU) [.int .u32 v0, .int .u32 v1, .int .u32 v2, .int .u32 v3, .int .u32 v4, .int .u32 v5, .int .u32 v6, .int .u32 v7, .int .u32 v8, .int .u32 v9, .int .u32 v10, .slice RA rep.length rc, .int .i64 tk, .slice TA tr.length tc, .bool ov, .int .u32 cd, .int .i64 0, .int .i64 wh] A2) ∧ Hid (HasB A2 w2.heap.size 47 [.int .u32 0, .int .u32 0, .int .u32 0, .int .u32 0, .int .u32 0, .int .u32 0, .int .u32 0, .int .u32 0, .int .u32 0, .int .u32 0, .int .u32 0]) ∧ Hid (HasB A2 (w2.heap.size + 1) 50 [.slice none 0 0, .slice none 0 0]) ∧ Hid (RowAt A2 (some ⟨xb', 0, none⟩) cB' qB) ∧ Hid (EvRow A2 TA tc tr) :=
              ⟨_, rfl, Lib.hid (k2.below BA), Lib.hid ((HasB.new w2 47 [.int .u32 0, .int .u32 0, .int .u32 0, .int .u32 0, .int .u32 0, .int .u32 0, .int .u32 0, .int .u32 0, .int .u32 0, .int .u32 0, .int .u32 0]).al _), Lib.hid (HasB.newAt _ _ _ #[.slice none 0 0, .slice none 0 0] (by simp)), Lib.hid (row2.below BA), Lib.hid (RE2.below BA)⟩
            clear row2 bel2 hx2 ST RE2 BA k2 p16
            go_upto_region 7 with (first
              | (refine st_at rfl 47 (.tmp 10) (.tmp 29) rfl rfl w2.heap.size 0 47 [] [.int .u32 0, .int .u32 0, .int .u32 0, .int .u32 0, .int .u32 0, .int .u32 0, .int .u32 0, .int .u32 0, .int .u32 0, .int .u32 0, .int .u32 0] [.int .u32 u0, .int .u32 u1, .int .u32 u2, .int .u32 u3, .int .u32 u4, .int .u32 u5, .int .u32 u6, .int .u32 u7, .int .u32 u8, .int .u32 u9, .int .u32 u10] [] (by rfl) (by rfl) D2.out rfl rfl Tryz.sizeOf47 (by simp [Value.oneCell']) ?_; intro A3 D3 c3; replace D3 : HasB A3 w2.heap.size 47 [.int .u32 u0, .int .u32 u1, .int .u32 u2, .int .u32 u3, .int .u32 u4, .int .u32 u5, .int .u32 u6, .int .u32 u7, .int .u32 u8, .int .u32 u9, .int .u32 u10] := D3; have K3 := Lib.hid (K2.out.chgN c3 LT2); have E3 := Lib.hid (E2.out.chg c3 (by omega) (by omega)); have ROW3 := Lib.hid (ROW2.out.chg c3 (by omega) (by omega)); have REV3 := Lib.hid (REV2.out.chgL c3 (REVB.out _ (by omega))); replace D3 := Lib.hid D3; clear c3 K2 E2 D2 ROW2 REV2 e2)
              | (refine st_at rfl 50 (.tmp 11) (.tmp 30) rfl rfl (w2.heap.size + 1) 0 50 [] [.slice none 0 0, .slice none 0 0] [.slice (some ⟨xb', 0, none⟩) 2200 cB', .slice (some ⟨yb, 0, none⟩) 2200 cU] [] (by rfl) (by rfl) E3.out rfl rfl Tryz.sizeOf50 (by simp [Value.oneCell']) ?_; intro A4 E4 c4; replace E4 : HasB A4 (w2.heap.size + 1) 50 [.slice (some ⟨xb', 0, none⟩) 2200 cB', .slice (some ⟨yb, 0, none⟩) 2200 cU] := E4; have K4 := Lib.hid (K3.out.chgN c4 (by omega)); have D4 := Lib.hid (D3.out.chg c4 (by omega) (by omega)); have ROW4 := Lib.hid (ROW3.out.chg c4 (by omega) (by omega)); have REV4 := Lib.hid (REV3.out.chgL c4 (REVB.out _ (by omega))); replace E4 := Lib.hid E4; clear c4 K3 E3 D3 ROW3 REV3)
              | (refine ld_at rfl 47 (.tmp 10) rfl w2.heap.size 0 (by rfl) 47 [] [.int .u32 u0, .int .u32 u1, .int .u32 u2, .int .u32 u3, .int .u32 u4, .int .u32 u5, .int .u32 u6, .int .u32 u7, .int .u32 u8, .int .u32 u9, .int .u32 u10] [] D4.out rfl Tryz.isAgg47 Tryz.sizeOf47 ?_)
              | (refine st_at rfl 47 (.tmp 36) (.tmp 35) rfl rfl (w.heap.size + 1) 0 58 [] [.int .u32 v0, .int .u32 v1, .int .u32 v2, .int .u32 v3, .int .u32 v4, .int .u32 v5, .int .u32 v6, .int .u32 v7, .int .u32 v8, .int .u32 v9, .int .u32 v10] [.int .u32 u0, .int .u32 u1, .int .u32 u2, .int .u32 u3, .int .u32 u4, .int .u32 u5, .int .u32 u6, .int .u32 u7, .int .u32 u8, .int .u32 u9, .int .u32 u10] [.slice RA rep.length rc, .int .i64 tk, .slice TA tr.length tc, .bool ov, .int .u32 cd, .int .i64 0, .int .i64 wh] (by rfl) (by rfl) K4.out.b rfl rfl Tryz.sizeOf47 (by simp [Value.oneCell']) ?_; intro A5 b5 c5; replace b5 : HasB A5 (w.heap.size + 1) 58 [.int .u32 u0, .int .u32 u1, .int .u32 u2, .int .u32 u3, .int .u32 u4, .int .u32 u5, .int .u32 u6, .int .u32 u7, .int .u32 u8, .int .u32 u9, .int .u32 u10, .slice RA rep.length rc, .int .i64 tk, .slice TA tr.length tc, .bool ov, .int .u32 cd, .int .i64 0, .int .i64 wh] := b5; have K5 := Lib.hid (K4.out.chgB c5 b5); have E5 := Lib.hid (E4.out.chg c5 (by omega) (by omega)); have ROW5 := Lib.hid (ROW4.out.chg c5 (by omega) (by omega)); have REV5 := Lib.hid (REV4.out.farG (w := w) c5 (by omega) (by omega) HO.out); clear c5 b5 K4 E4 D4 ROW4 REV4)
              | (refine ld_at rfl 50 (.tmp 11) rfl (w2.heap.size + 1) 0 (by rfl) 50 [] [.slice (some ⟨xb', 0, none⟩) 2200 cB', .slice (some ⟨yb, 0, none⟩) 2200 cU] [] E5.out rfl Tryz.isAgg50 Tryz.sizeOf50 ?_)
              | (refine st_at rfl 50 (.tmp 3) (.tmp 37) rfl rfl w.heap.size 0 50 [] [.slice (some ⟨xb, 0, none⟩) 2200 cB, .slice (some ⟨yb, 0, none⟩) 2200 cU] [.slice (some ⟨xb', 0, none⟩) 2200 cB', .slice (some ⟨yb, 0, none⟩) 2200 cU] [] (by rfl) (by rfl) K5.out.m rfl rfl Tryz.sizeOf50 (by simp [Value.oneCell']) ?_; intro A6 m6 c6; replace m6 : HasB A6 w.heap.size 50 [.slice (some ⟨xb', 0, none⟩) 2200 cB', .slice (some ⟨yb, 0, none⟩) 2200 cU] := m6; have k6 := Lib.hid (K5.out.chgM c6 m6); have ROW6 := Lib.hid (ROW5.out.chg c6 (by omega) (by omega)); have REV6 := Lib.hid (REV5.out.farG (w := w) c6 (by omega) (by omega) HO.out); clear c6 m6 K5 E5 ROW5 REV5))
            have y16 := k6.out.b.cell 16
            have yf16 := k6.out.b.frozen 16
            obtain ⟨A7, e7, k7, c7⟩ := k6.out.setB 16 (.int .i64 2)
            obtain ⟨A8, e8, k8, c8⟩ := k7.setB 17 (.int .i64 qw)
            have x17 := k7.b.cell 17
            have xf17 := k7.b.frozen 17
            simp only [List.set_cons_zero, List.set_cons_succ, List.getElem?_cons_succ, List.getElem?_cons_zero] at k7 k8 x17 y16
            have ROW8 := Lib.hid ((ROW6.out.chg c7 (by omega) (by omega)).chg c8 (by omega) (by omega))
            have REV8 := Lib.hid ((REV6.out.farG (w := w) c7 (by omega) (by omega) HO.out).farG (w := w) c8 (by omega) (by omega) HO.out)
            have K8 := Lib.hid k8
            clear k7 k8 c7 c8
            go_wp2_with fail
            go_roundw
            case rel => exact ⟨k + 1, ⟨⟨u0, [u1, u2, u3, u4, u5, u6, u7, u8], u9, u10⟩, ⟨rep, tk, tr, ov, cd⟩, 2, qw⟩, qB, xb', cB', TA, tc, by go_num, by omega, Lib.hid NXT.1, Lib.hid NXT.2, Lib.hid K8.out, Lib.hid ROW8.out, Lib.hid REV8.out, HR, hx9, HO0⟩
            case measure => simp [intOf]; omega
end Go.Proofs.YtbgnkljeodandaaGreat.Mm
