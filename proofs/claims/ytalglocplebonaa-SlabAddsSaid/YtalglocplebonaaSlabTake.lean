/- Package slab as it landed: Take. -/
import Derived.Test.YtalglocplebonaaSlabRight
import Derived.Deep.LoopGhost
namespace Go.Proofs.Ytalglocplebonaa.Mm
open Go.ChangeShapes Go.WideShapes Go.ChangeAt Go.RowKit
set_option linter.unusedVariables false
set_option linter.unusedSimpArgs false

structure Set2 (w : World) (h : Nat) (t : TypeId) (a b : Value) (w' : World) : Prop where
  c0 : w'.cell? ⟨h, 0, none⟩ = some a
  c1 : w'.cell? ⟨h, 1, none⟩ = some b
  sz : w.heap.size ≤ w'.heap.size
  rest : ∀ k, k ≠ h → w'.heap[k]? = w.heap[k]?
  bel : ∀ (B : Nat) (v : World), Below B v w → B ≤ h → Below B v w'
theorem set2 {w : World} {h : Nat} {t : TypeId} {x y : Value} (hb : HasB w h t [x, y]) (a b : Value) : Set2 w h t a b ((w.setCell ⟨h, 0, none⟩ a).setCell ⟨h, 1, none⟩ b) := by
  have p0 := hb.cell 0
  have p1 := hb.cell 1
  simp only [List.getElem?_cons_zero, List.getElem?_cons_succ] at p0 p1
  refine ⟨by simp [go_sem, p0], by simp [go_sem, p1], by simp, fun k hk => ?_, fun B v hv hB => (hv.setCell (p := ⟨h, 0, none⟩) hB _).setCell (p := ⟨h, 1, none⟩) hB _⟩
  rw [Below.heap_setCell _ _ _ _ hk, Below.heap_setCell _ _ _ _ hk]
def TkP (w : World) (r : Rg) (q : Int) (e : Ending) (w' : World) : Prop := e = .returned (.tuple #[.agg #[.int .i64 r.1, .int .i64 r.2], .int .i64 q]) ∧ Below w.heap.size w w'
set_option maxHeartbeats 1000000 in
set_option maxHeartbeats 1000000 in
set_option maxHeartbeats 1000000 in
theorem take_bad (A : Option Addr) (cap n : Nat) (L : List Rg) (m s : Int) (hl : L.length = n) (hn : n ≤ 1000) (hm : I64r m) (hr : rgtB L m = false) (w : World) (R : RgRow w A cap L) :
    Calls Try.prog 11 #[.slice A n cap, .int .i64 m, .int .i64 s] w (TkP w (0, 0) 12) := by
  have X0 := Lib.hid (HasB.new w 26 [.int .i64 0, .int .i64 0])
  have B0 := Lib.hid (bel_al (Below.refl w.heap.size w) (.cells #[.int .i64 0, .int .i64 0] 26))
  have RC := Lib.hid (fun w' (b : Below w.heap.size w w') => right_code A cap n L m hl hn hm w' (R.below b))
  rw [hr] at RC
  clear R hl hr hm
  unfold TkP
  go_enter Try.func11, Try.ntmps11
  go_wp2_with fail
  go_step3
  go_wp2_with fail
  refine (RC.out _ B0.out).mono ?_; rintro e w1 ⟨rfl, hb1⟩
  have X1 := Lib.hid (X0.out.below hb1)
  have B1 := Lib.hid (bel_then B0.out hb1)
  clear X0 hb1 B0
  obtain ⟨W, hW⟩ : ∃ W, (w1.setCell ⟨w.heap.size, 0, none⟩ (.int .i64 0)).setCell ⟨w.heap.size, 1, none⟩ (.int .i64 0) = W := ⟨_, rfl⟩
  have S := set2 X1.out (.int .i64 0) (.int .i64 0)
  rw [hW] at S
  have p0 := X1.out.cell 0
  have p1 := X1.out.cell 1
  simp only [List.getElem?_cons_zero, List.getElem?_cons_succ] at p0 p1
  have f0 := X1.out.frozen 0
  have f1 := X1.out.frozen 1
  have e0 := S.c0
  have e1 := S.c1
  have BF := Lib.hid (S.bel _ _ B1.out (Nat.le_refl _))
  clear S
  go_wp2_with fail
  (try rw [Exit.noGoto_ret])
  refine bodyPost_ret (v := .tuple #[.agg #[.int .i64 0, .int .i64 0], .int .i64 12]) (by simp [results, Try.results11, go_sem, e0, e1]) rfl ⟨rfl, BF.out⟩
set_option maxHeartbeats 1000000 in
theorem take_arg (A : Option Addr) (cap n : Nat) (L : List Rg) (m s : Int) (hl : L.length = n) (hn : n ≤ 1000) (hm : I64r m) (hr : rgtB L m = true) (hs : powS s = false) (w : World) (R : RgRow w A cap L) :
    Calls Try.prog 11 #[.slice A n cap, .int .i64 m, .int .i64 s] w (TkP w (0, 0) 1) := by
  have X0 := Lib.hid (HasB.new w 26 [.int .i64 0, .int .i64 0])
  have B0 := Lib.hid (bel_al (Below.refl w.heap.size w) (.cells #[.int .i64 0, .int .i64 0] 26))
  have RC := Lib.hid (fun w' (b : Below w.heap.size w w') => right_code A cap n L m hl hn hm w' (R.below b))
  have MC := Lib.hid (smay_any s)
  rw [hr] at RC
  rw [hs] at MC
  clear R hl hr hm hs
  unfold TkP
  go_enter Try.func11, Try.ntmps11
  go_wp2_with fail
  go_step3
  go_wp2_with fail
  refine (RC.out _ B0.out).mono ?_; rintro e w1 ⟨rfl, hb1⟩
  have X1 := Lib.hid (X0.out.below hb1)
  have B1 := Lib.hid (bel_then B0.out hb1)
  clear X0 hb1 B0
  go_wp2_with fail
  refine (MC.out _).mono ?_; rintro e w2 ⟨rfl, rfl⟩
  obtain ⟨W, hW⟩ : ∃ W, (w1.setCell ⟨w.heap.size, 0, none⟩ (.int .i64 0)).setCell ⟨w.heap.size, 1, none⟩ (.int .i64 0) = W := ⟨_, rfl⟩
  have S := set2 X1.out (.int .i64 0) (.int .i64 0)
  rw [hW] at S
  have p0 := X1.out.cell 0
  have p1 := X1.out.cell 1
  simp only [List.getElem?_cons_zero, List.getElem?_cons_succ] at p0 p1
  have f0 := X1.out.frozen 0
  have f1 := X1.out.frozen 1
  have e0 := S.c0
  have e1 := S.c1
  have BF := Lib.hid (S.bel _ _ B1.out (Nat.le_refl _))
  clear S
  go_wp2_with fail
  (try rw [Exit.noGoto_ret])
  refine bodyPost_ret (v := .tuple #[.agg #[.int .i64 0, .int .i64 0], .int .i64 1]) (by simp [results, Try.results11, go_sem, e0, e1]) rfl ⟨rfl, BF.out⟩
set_option maxRecDepth 10000 in
set_option maxHeartbeats 4000000 in
theorem take_in (A : Option Addr) (cap n : Nat) (L : List Rg) (m s : Int) (hl : L.length = n) (hn : n ≤ 1000) (hm : I64r m) (hr : RightP L m) (hs : powS s = true) (w : World) (R : RgRow w A cap L) (r : Rg) (q : Int)
    (YES : Hid (∀ b, TakeOk L m s b → (∀ c, c < b → ¬ TakeOk L m s c) → r = (b, s) ∧ q = 0)) (NO : Hid ((∀ c, ¬ TakeOk L m s c) → r = (0, 0) ∧ q = 7)) :
    Calls Try.prog 11 #[.slice A n cap, .int .i64 m, .int .i64 s] w (TkP w r q) := by
  have RR := Lib.hid R
  have HL := Lib.hid hl
  have X0 := Lib.hid (HasB.new w 26 [.int .i64 0, .int .i64 0])
  have B0 := Lib.hid (bel_al (Below.refl w.heap.size w) (.cells #[.int .i64 0, .int .i64 0] 26))
  have hs0 : (w.alloc (.cells #[.int .i64 0, .int .i64 0] 26)).heap.size = w.heap.size + 1 := Array.size_push _
  have RC := Lib.hid (fun w' (b : Below w.heap.size w w') => right_code A cap n L m hl hn hm w' (R.below b))
  rw [rgt_iff.2 hr] at RC
  have MC := Lib.hid (smay_any s)
  rw [hs] at MC
  have LC := Lib.hid (fun b (h1 : s ≤ b) (h2 : b % s = 0) (h3 : b ≤ 70000) w => lies_any (b, s) m (by unfold rgWf; have := powS_pos hs; simp only; omega) ⟨hr.lo, hr.hi⟩ w)
  have LE := Lib.hid (fun b (h1 : s ≤ b) (h2 : b % s = 0) => (by unfold regB; simp [hs, h1, h2] : regB m (b, s) = decide (b + s + 64 ≤ m)))
  have RX := Lib.hid (fun k (hk : k < n) => reg_bd (right_at hr (by rw [hl]; exact hk) : regB m (L.getD k (0, 0)) = true) hr.hi)
  obtain ⟨s1, s2⟩ := powS_pos hs
  have m0 := hr.lo
  have m1 := hr.hi
  clear R hl hr hs hm
  unfold TkP
  go_enter Try.func11, Try.ntmps11
  go_wp2_with fail
  go_step3
  go_wp2_with fail
  refine (RC.out _ B0.out).mono ?_; rintro e w1 ⟨rfl, hb1⟩
  have X1 := Lib.hid (X0.out.below hb1)
  have B1 := Lib.hid (bel_then B0.out hb1)
  have hz1 : w.heap.size < w1.heap.size := by have := hb1.size; omega
  clear X0 hb1 B0 RC hs0
  go_wp2_with fail
  refine (MC.out _).mono ?_; rintro e w2 ⟨rfl, rfl⟩
  have G1 := Lib.hid (HasB.new w1 26 [.int .i64 s, .int .i64 s])
  have X2 := Lib.hid (X1.out.below (bel_al (Below.refl _ w1) (.cells #[.int .i64 s, .int .i64 s] 26)))
  have B2 := Lib.hid (bel_al B1.out (.cells #[.int .i64 s, .int .i64 s] 26))
  clear MC X1 B1
  go_wp2_with fail
  go_step3
  go_wp2_with fail
  go_loopg [8] 100000 (fun z v wr => ∃ (b : Int) (g : Nat), v = .pointer (some ⟨g, 0, none⟩) ∧ s ≤ b ∧ b ≤ 70000 ∧ (z : Int) ≥ 100000 - b ∧ w.heap.size < g ∧ Hid (b % s = 0) ∧ Hid (∀ c, c < b → ¬ TakeOk L m s c) ∧ Hid (HasB wr g 26 [.int .i64 b, .int .i64 s]) ∧ Hid (HasB wr w.heap.size 26 [.int .i64 0, .int .i64 0]) ∧ Hid (Below w.heap.size w wr))
  case atStart => exact ⟨s, _, rfl, by omega, by omega, by omega, hz1, Lib.hid (by simp), Lib.hid (fun c hc t => by have := t.lo; omega), G1, X2, B2⟩
  case round =>
    obtain ⟨b, g, rfl, hb1, hb2, hgk, hg, AL, MN, HG, HX, HB⟩ := hrel
    clear G1 X2 B2
    have c0 := HG.out.cell 0
    have c1 := HG.out.cell 1
    simp only [List.getElem?_cons_zero, List.getElem?_cons_succ] at c0 c1
    have LC1 := Lib.hid (LC.out b hb1 AL.out hb2)
    (try simp only at LC1)
    rw [LE.out b hb1 AL.out] at LC1
    by_cases hlt : b + s + 64 ≤ m
    · rw [decide_eq_true hlt] at LC1
      have OK := Lib.hid (fun (h : ∀ q, q < n → apartE (L.getD q (0, 0)) (b, s) = true) => YES.out b ⟨by omega, AL.out, hlt, take_all (by rw [HL.out]; exact h)⟩ MN.out)
      have NX := Lib.hid (fun k (hk : k < n) (h : apartE (L.getD k (0, 0)) (b, s) = false) => take_next (by omega) AL.out MN.out (fun t => by
        have := t.ap (L.getD k (0, 0)) (by rw [List.getD_eq_getElem?_getD, List.getElem?_eq_getElem (by rw [HL.out]; exact hk)]; exact List.getElem_mem _)
        rw [h] at this; cases this))
      have AL2 := Lib.hid (show (b + s) % s = 0 by rw [Int.add_emod_right]; exact AL.out)
      clear YES NO AL MN LC LE
      go_wp2_with fail
      refine (LC1.out _).mono ?_; rintro e ws ⟨rfl, hbs⟩
      replace HG := Lib.hid (HG.out.below hbs)
      replace HX := Lib.hid (HX.out.below hbs)
      replace HB := Lib.hid (bel_then HB.out hbs)
      clear hbs LC1 c0 c1
      go_wp2_with fail
      go_loopw [33] (fun v wr => ∃ (k : Nat), v = .int .i64 k ∧ k ≤ n ∧ Hid (∀ q, q < k → apartE (L.getD q (0, 0)) (b, s) = true) ∧ Hid (Below ws.heap.size ws wr)) (fun v _ => n - (intOf v).toNat)
      case atStart => exact ⟨0, rfl, by omega, Lib.hid (fun q hq => by omega), Lib.hid (Below.refl _ _)⟩
      case round =>
        obtain ⟨k, rfl, hk, FR, HC⟩ := hrel
        by_cases hkn : k < n
        · obtain ⟨x, rfl, hxb, hc⟩ := (RR.out.below (HB.out.trans (HC.out.mono HB.out.size))).2.2.2 (by intro e; have := HL.out; rw [e] at this; simp at this; omega)
          have c0 := (hc k (by rw [HL.out]; omega)).c0
          have c1 := (hc k (by rw [HL.out]; omega)).c1
          have hkn' : (k : Int) < (n : Int) := by omega
          have AC := Lib.hid (fun w => apart_code (L.getD k (0, 0)) (b, s) (RX.out k hkn) (by simp only; omega) w)
          have NX2 := Lib.hid (NX.out k hkn)
          have FR2 := Lib.hid (fun (h : apartE (L.getD k (0, 0)) (b, s) = true) q (hq : q < k + 1) => (by
            rcases Nat.lt_or_ge q k with h' | h'
            · exact FR.out q h'
            · obtain rfl : q = k := by omega
              exact h : apartE (L.getD q (0, 0)) (b, s) = true))
          clear hc FR
          generalize hap : apartE (L.getD k (0, 0)) (b, s) = ap at *
          generalize hy : L.getD k (0, 0) = y at *
          clear hy hap
          obtain ⟨ya, yb⟩ := y
          simp only at c0 c1 AC
          obtain ⟨W, hW⟩ : ∃ W, wr.alloc (.cells #[.int .i64 ya, .int .i64 yb] 26) = W := ⟨_, rfl⟩
          have HY : HasB (wr.alloc (.cells #[.int .i64 ya, .int .i64 yb] 26)) wr.heap.size 26 [.int .i64 ya, .int .i64 yb] := HasB.new wr 26 [.int .i64 ya, .int .i64 yb]
          have BY := bel_al HC.out (.cells #[.int .i64 ya, .int .i64 yb] 26)
          rw [hW] at HY BY
          replace HG := Lib.hid (HG.out.below BY)
          replace HX := Lib.hid (HX.out.below BY)
          have BW := Lib.hid (HB.out.trans (BY.mono HB.out.size))
          have d0 := HY.cell 0
          have d1 := HY.cell 1
          have g0 := HG.out.cell 0
          have g1 := HG.out.cell 1
          simp only [List.getElem?_cons_zero, List.getElem?_cons_succ] at d0 d1 g0 g1
          replace HC := Lib.hid BY
          clear BY HY
          go_wp2_with fail
          refine (AC.out _).mono ?_; rintro e w3 ⟨rfl, hb3⟩
          replace HG := Lib.hid (HG.out.below hb3)
          replace HX := Lib.hid (HX.out.below hb3)
          replace BW := Lib.hid (bel_then BW.out hb3)
          replace HC := Lib.hid (bel_then HC.out hb3)
          clear hb3 d0 d1 g0 g1 c0 c1 hW
          cases ap
          · have MN2 := Lib.hid (NX2.out rfl)
            have g0 := HG.out.cell 0
            have g1 := HG.out.cell 1
            simp only [List.getElem?_cons_zero, List.getElem?_cons_succ] at g0 g1
            clear NX NX2 FR2 OK
            have G3 := Lib.hid (HasB.new w3 26 [.int .i64 (b + s), .int .i64 s])
            have X3 := Lib.hid (HX.out.below (bel_al (Below.refl _ w3) (.cells #[.int .i64 (b + s), .int .i64 s] 26)))
            have B3 := Lib.hid (bel_al BW.out (.cells #[.int .i64 (b + s), .int .i64 s] 26))
            have hg3 : w.heap.size < w3.heap.size := by have := HX.out.lt; omega
            go_wp2_with fail
            go_roundg (100000 - (b + s)).toNat
            case measure => omega
            case rel => exact ⟨b + s, w3.heap.size, rfl, by omega, by omega, by omega, hg3, AL2, MN2, G3, X3, B3⟩
          · have FR3 := Lib.hid (FR2.out rfl)
            clear NX2 FR2
            go_wp2_with fail
            go_roundw
            case rel => exact ⟨k + 1, by go_num, by omega, FR3, HC⟩
            case measure => simp [intOf]; omega
        · obtain rfl : k = n := by omega
          obtain ⟨e1, e2⟩ := OK.out FR.out
          subst e1 e2
          have X1 := Lib.hid (HX.out.below HC.out)
          have HG2 := Lib.hid (HG.out.below HC.out)
          have BW := Lib.hid (HB.out.trans (HC.out.mono HB.out.size))
          have g0 := HG2.out.cell 0
          have g1 := HG2.out.cell 1
          simp only [List.getElem?_cons_zero, List.getElem?_cons_succ] at g0 g1
          clear HG HX HB HC HG2 FR OK NX
          obtain ⟨W, hW⟩ : ∃ W, (wr.setCell ⟨w.heap.size, 0, none⟩ (.int .i64 b)).setCell ⟨w.heap.size, 1, none⟩ (.int .i64 s) = W := ⟨_, rfl⟩
          have S := set2 X1.out (.int .i64 b) (.int .i64 s)
          rw [hW] at S
          have p0 := X1.out.cell 0
          have p1 := X1.out.cell 1
          simp only [List.getElem?_cons_zero, List.getElem?_cons_succ] at p0 p1
          have f0 := X1.out.frozen 0
          have f1 := X1.out.frozen 1
          have e0 := S.c0
          have e1 := S.c1
          have BF := Lib.hid (S.bel _ _ BW.out (Nat.le_refl _))
          clear S
          go_wp2_with fail
          (try rw [Exit.noGoto_ret])
          refine bodyPost_ret (v := .tuple #[.agg #[.int .i64 b, .int .i64 s], .int .i64 0]) (by simp [results, Try.results11, go_sem, e0, e1]) rfl ⟨rfl, BF.out⟩
    · obtain ⟨e1, e2⟩ := NO.out (fun c t => by
        by_cases h : c < b
        · exact MN.out c h t
        · have := t.hi; omega)
      subst e1 e2
      rw [decide_eq_false hlt] at LC1
      clear YES NO AL MN LC LE
      go_wp2_with fail
      refine (LC1.out _).mono ?_; rintro e ws ⟨rfl, hbs⟩
      have X1 := Lib.hid (HX.out.below hbs)
      have BW := Lib.hid (bel_then HB.out hbs)
      clear hbs LC1 c0 c1 HG HX HB
      obtain ⟨W, hW⟩ : ∃ W, (ws.setCell ⟨w.heap.size, 0, none⟩ (.int .i64 0)).setCell ⟨w.heap.size, 1, none⟩ (.int .i64 0) = W := ⟨_, rfl⟩
      have S := set2 X1.out (.int .i64 0) (.int .i64 0)
      rw [hW] at S
      have p0 := X1.out.cell 0
      have p1 := X1.out.cell 1
      simp only [List.getElem?_cons_zero, List.getElem?_cons_succ] at p0 p1
      have f0 := X1.out.frozen 0
      have f1 := X1.out.frozen 1
      have e0 := S.c0
      have e1 := S.c1
      have BF := Lib.hid (S.bel _ _ BW.out (Nat.le_refl _))
      clear S
      go_wp2_with fail
      (try rw [Exit.noGoto_ret])
      refine bodyPost_ret (v := .tuple #[.agg #[.int .i64 0, .int .i64 0], .int .i64 7]) (by simp [results, Try.results11, go_sem, e0, e1]) rfl ⟨rfl, BF.out⟩
theorem take_code : TakeC := by
  intro A cap n L m s hl hn hm hs w R
  have T : Calls Try.prog 11 #[.slice A n cap, .int .i64 m, .int .i64 s] w (TkP w (takeR L m s) (takeE L m s)) := by
    by_cases h1 : rgtB L m = true
    · by_cases h2 : powS s = true
      · refine take_in A cap n L m s hl hn hm (rgt_iff.1 h1) h2 w R _ _ (Lib.hid (fun b hb hc => ?_)) (Lib.hid (fun hc => ?_))
        · have e := takeV_some (l := L) (n := m) (s := s) (b := b) ⟨hb, hc⟩
          have hb0 := hb.lo
          have := powS_pos h2
          have e2 : takeE L m s = 0 := by unfold takeE; rw [h1, h2, e]; simp; omega
          refine ⟨?_, e2⟩
          unfold takeR; rw [if_pos e2, e]
        · have e := takeV_none (l := L) (n := m) (s := s) hc
          have e2 : takeE L m s = 7 := by unfold takeE; rw [h1, h2, e]; simp
          refine ⟨?_, e2⟩
          unfold takeR; rw [if_neg (by rw [e2]; omega)]
      · have h2' : powS s = false := by simpa using h2
        have e2 : takeE L m s = 1 := by unfold takeE; rw [h1, h2']; simp
        have e3 : takeR L m s = (0, 0) := by unfold takeR; rw [if_neg (by rw [e2]; omega)]
        rw [e2, e3]
        exact take_arg A cap n L m s hl hn hm h1 h2' w R
    · have h1' : rgtB L m = false := by simpa using h1
      have e2 : takeE L m s = 12 := by unfold takeE; rw [h1']; simp
      have e3 : takeR L m s = (0, 0) := by unfold takeR; rw [if_neg (by rw [e2]; omega)]
      rw [e2, e3]
      exact take_bad A cap n L m s hl hn hm h1' w R
  exact T
end Go.Proofs.Ytalglocplebonaa.Mm
