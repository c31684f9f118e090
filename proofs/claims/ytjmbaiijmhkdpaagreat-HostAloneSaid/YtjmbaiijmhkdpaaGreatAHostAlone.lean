/- The statement HostAlone, walked. -/
import Derived.Test.YtjmbaiijmhkdpaaGreatAHoE
namespace Go.Proofs.YtjmbaiijmhkdpaaGreat.Mm
open Go.ChangeShapes Go.WideShapes Go.ChangeAt Go.RowKit
set_option linter.unusedVariables false
set_option linter.unusedSimpArgs false
set_option maxRecDepth 10000
set_option maxHeartbeats 4000000
theorem shl_a (u : Int) (hu : 0 ≤ u ∧ u ≤ 255) : ∃ hf : Nat, powS ((2 * hf : Nat) : Int) = true ∧ (64 ≤ hf ∧ hf ≤ 512) ∧ ∀ w : World, (Op.shift BinOp.shl IntKind.i64 128 IntKind.u8 (u.tmod 4)).run Tryz.prog w = .ok (.int .i64 ((2 * hf : Nat) : Int)) w := by
  have h4 : u.tmod 4 = 0 ∨ u.tmod 4 = 1 ∨ u.tmod 4 = 2 ∨ u.tmod 4 = 3 := by
    rw [Int.tmod_eq_emod_of_nonneg hu.1]
    omega
  rcases h4 with h | h | h | h
  · exact ⟨64, by decide, by omega, fun w => by rw [h]; rfl⟩
  · exact ⟨128, by decide, by omega, fun w => by rw [h]; rfl⟩
  · exact ⟨256, by decide, by omega, fun w => by rw [h]; rfl⟩
  · exact ⟨512, by decide, by omega, fun w => by rw [h]; rfl⟩
theorem ld_g {ops : Array Oper} {rest : List Oper} {o : Oper} {a : Act} {w : World} {Q : Exit → Act → World → Prop} (T : TypeId) (x : Operand) (ho : o.op = .load T x) (g : Nat) (hx : a.eval x = .pointer (some ⟨g, 0, none⟩)) (cs : List Value) {d : TypeDesc} (hb : HasB w g T cs)
    (hd : (match d with | .struct _ | .array _ _ => true | _ => false) = true) (hu : Tryz.prog.underlying T = some d) (hi : (Tryz.prog.info? T).map (·.size) = some cs.length) (hw : Region.wanted o (yielded ops a.tmps) = true) (h : wpList Tryz.prog ops Q rest (a.put o.dst (.agg cs.toArray)) w) : wpList Tryz.prog ops Q (o :: rest) a w := by
  have e : (execOp a.eval o).run Tryz.prog w = .ok (.value (.agg cs.toArray)) w := exec_load_has T x ho g hx hb hd hu hi
  show (if _ then _ else _)
  rw [if_pos hw]
  refine .inl ?_
  simp only [Oper.wp, e, Oper.upon]
  exact h
theorem few14_back {w w1 : World} {A A' : Option Addr} {n cap m cap' : Nat} (rA : RowsB w A n cap) (rB : AcsAt w A' m cap') (b : Below w.heap.size w w1) (h : Few14 w1 A n A' m) : Few14 w A n A' m := by
  obtain ⟨h1, h2, h3, h4, h5⟩ := h
  refine ⟨h1, h2, h3, fun x hx i hi B c l ht => ?_, fun x hx i hi t ht => ?_⟩
  · obtain ⟨y, hy, hyb, _⟩ := rA.2.2 (by omega)
    rw [hx] at hy; cases hy
    exact h4 x hx i hi B c l (ht.below b (by rw [block_add]; exact hyb))
  · obtain ⟨y, hy, hyb, _⟩ := rB.2.2 (by omega)
    rw [hx] at hy; cases hy
    exact h5 x hx i hi t (ht.below b (by rw [block_add]; exact hyb))
theorem alone_skip (A A' A'' : Option Addr) (n cap m cap' q cap'' : Nat) (w : World) (rA : RowsB w A n cap) (rB : AcsAt w A' m cap') (hs : Few14 w A n A' m → 20 < q) :
    Calls Tryz.prog 4 #[.slice A n cap, .slice A' m cap', .slice A'' q cap''] w fun e w' => e = .returned (.bool true) ∧ Below w.heap.size w w' := by
  have FW := Lib.hid (fun w1 (b : Below w.heap.size w w1) => few14 A A' n cap m cap' w1 (rA.below b) (rB.below b))
  have FB := Lib.hid (fun w1 (b : Below w.heap.size w w1) (h : Few14 w1 A n A' m) => (hs (few14_back rA rB b h) : 20 < q))
  clear rA rB hs
  go_enter Tryz.func4, Tryz.ntmps4
  go_wp2_with fail
  refine (awake14 _).mono ?_; rintro e w1 ⟨rfl, b1⟩
  have B1 := Lib.hid b1; clear b1
  dsimp only
  go_wp2_with fail
  refine (FW.out _ B1.out).mono ?_; rintro e w1' ⟨b, rfl, hb, rfl⟩
  have hb' : b = true → 20 < q := fun h => FB.out _ B1.out (hb h)
  clear FW FB hb
  cases b
  · clear hb'
    dsimp only
    go_wp2_with fail
    refine (awake14 _).mono ?_; rintro e w2 ⟨rfl, b2⟩
    have B2 := Lib.hid (bel_then B1.out b2); clear b2
    dsimp only
    go_wp2_with fail
    go_ret
    exact ⟨rfl, B2.out⟩
  · have dq : decide ((20 : Int) < (q : Int)) = true := decide_eq_true (by have := hb' rfl; omega)
    clear hb'
    dsimp only
    go_wp2_with fail
    refine (awake14 _).mono ?_; rintro e w2 ⟨rfl, b2⟩
    have B2 := Lib.hid (bel_then B1.out b2); clear b2
    dsimp only
    go_wp2_with fail
    go_ret
    exact ⟨rfl, B2.out⟩
set_option maxHeartbeats 32000000 in
theorem alone_main (A A' A'' : Option Addr) (n cap m cap' q cap'' : Nat) (lq : List Int) (hlq : lq.length = q) (hq : q ≤ 20) (w : World) (rA : RowsB w A n cap) (rB : AcsAt w A' m cap') (rC : KRow .u32 w A'' cap'' lq) 
    (hf : ∀ w1, Below w.heap.size w w1 → Calls Tryz.prog 11 #[.slice A n cap, .slice A' m cap'] w1 fun e w' => ∃ b, e = .returned (.bool b) ∧ w1 = w') (hw : Few14 w A n A' m) :
    Calls Tryz.prog 4 #[.slice A n cap, .slice A' m cap', .slice A'' q cap''] w fun e w' => e = .returned (.bool true) ∧ Below w.heap.size w w' := by
  obtain ⟨w1, w2, w3, w4, w5⟩ := hw
  have dq : decide ((20 : Int) < (q : Int)) = false := decide_eq_false (by omega)
  obtain ⟨xc, rfl, xcb, hxc⟩ := rA.2.2 (by omega)
  have NC := Lib.hid (fun w' => hNew 64 (by omega) (by omega) w')
  rw [show (((64 * 64 : Nat)) : Int) = 4096 from rfl] at NC
  have CODE : Hid (∀ i, i < n → ∃ (B : Option Addr) (c : Nat) (l : List Int), l.length ≤ 300 ∧ ∀ w', Below w.heap.size w w' → SlAt w' (xc.add i) B c l) := Lib.hid (fun i hi => by
    obtain ⟨B, c, l, ht⟩ := hxc i hi
    exact ⟨B, c, l, w4 _ rfl i hi B c l ht, fun w' b => ht.below b (by rw [block_add]; exact xcb)⟩)
  have ACT : Hid (∀ i, i < m → ∃ x t, A' = some x ∧ t.r.length ≤ 20 ∧ ∀ w', Below w.heap.size w w' → AcAt w' (x.add (i * 6)) t) := Lib.hid (fun i hi => by
    obtain ⟨x, rfl, hb, hx⟩ := rB.2.2 (by omega)
    obtain ⟨t, ht⟩ := hx i hi
    exact ⟨x, t, rfl, w5 _ rfl i hi t ht, fun w' b => ht.below b (by rw [block_add]; exact hb)⟩)
  have FW := Lib.hid hf
  have MINE := Lib.hid (fun w' (b : Below w.heap.size w w') => rC.below b)
  have HQ := Lib.hid (And.intro hlq hq)
  have NM : Hid (1 ≤ n ∧ n ≤ 6 ∧ m ≤ 30 ∧ m ≤ cap' ∧ cap' ≤ maxLen ∧ n ≤ cap ∧ cap ≤ maxLen) := Lib.hid ⟨w1, w2, w3, rB.1, rB.2.1, rA.1, rA.2.1⟩
  obtain ⟨cB, cC, cL, hcl, hcat⟩ := CODE.out 0 (by omega)
  have CAT := Lib.hid hcat
  have C0 := Lib.hid hcl
  have dn0 : 0 < n := w1
  clear hf rC hlq w4 w5 rA rB hxc hcat xcb w1 w2 w3 hq hcl
  have dn : decide (0 < n) = true := decide_eq_true NM.out.1
  have dn' : decide ((0 : Int) < (n : Int)) = true := decide_eq_true (by have := NM.out.1; omega)
  go_enter Tryz.func4, Tryz.ntmps4
  go_wp2_with fail
  refine (awake14 _).mono ?_; rintro e w1 ⟨rfl, b1⟩
  have B1 := Lib.hid b1; clear b1
  dsimp only
  go_wp2_with fail
  refine (FW.out _ B1.out).mono ?_; rintro e w1' ⟨bf, rfl, rfl⟩
  cases bf
  · clear FW CODE ACT MINE HQ NM CAT C0 NC
    dsimp only
    go_wp2_with fail
    refine (awake14 _).mono ?_; rintro e w2 ⟨rfl, b2⟩
    have B2 := Lib.hid (bel_then B1.out b2); clear b2
    dsimp only
    go_wp2_with fail
    go_ret
    exact ⟨rfl, B2.out⟩
  dsimp only
  have g0 := (CAT.out _ B1.out).1
  rw [show xc.add 0 = xc by simp [Addr.add]] at g0
  go_wp2_with fail
  refine (bytes14n cB cC cL.length cL rfl (by have := C0.out; omega) w1 (CAT.out _ B1.out).2).mono ?_; rintro e w2 ⟨A2, c2, rfl, r2, b2, n2⟩
  have R2 := Lib.hid r2
  have N2 := Lib.hid (fun a (ha : A2 = some a) => Nat.le_trans B1.out.size (n2 a ha))
  have B2 := Lib.hid (bel_then B1.out b2)
  have LB : Hid (Bytes (layL cL D8) ∧ (layL cL D8).length = cL.length + 20 ∧ cL.length ≤ 300) := Lib.hid ⟨layL_byte (CAT.out _ B1.out).2.2.2.1 D8_b (by have := C0.out; omega) (by decide), by rw [layL_len]; show 12 + cL.length + 8 = _; omega, C0.out⟩
  clear r2 b2 n2 g0
  obtain ⟨l, hl⟩ : ∃ l, layL cL D8 = l := ⟨_, rfl⟩
  rw [hl] at R2 LB
  clear hl
  dsimp only
  go_wp2_with fail
  refine (NC.out _).mono ?_; rintro e w3 ⟨hb, F3, rfl, at3, hF3, b3⟩
  have AT3 := Lib.hid at3
  have R3 := Lib.hid (R2.out.below b3)
  have B3 := Lib.hid (bel_then B2.out b3)
  have S23 := Lib.hid b3.size
  have F3L := Lib.hid hF3
  have A2L := Lib.hid (fun a (ha : A2 = some a) => (row_lt' R2.out (by rw [LB.out.2.1]; omega) ha : a.block < w2.heap.size))
  clear at3 hF3 b3 R2
  dsimp only
  go_wp2_with fail
  refine (NC.out _).mono ?_; rintro e w4 ⟨ob, G4, rfl, at4, hG4, b4⟩
  have R4 := Lib.hid (R3.out.below b4)
  have DJ : Hid (∀ i, F3 i → ¬ G4 i) := Lib.hid (fun i hf hg => by have := AT3.out.lim i hf; have := hG4 i hg; omega)
  have HA4 := Lib.hid (AT3.out.below b4)
  have OA4 := Lib.hid at4
  have B4 := Lib.hid (bel_then B3.out b4)
  have FL := Lib.hid (fun i (hi : F3 i) => Nat.le_trans B2.out.size (F3L.out i hi))
  have GL := Lib.hid (fun i (hi : G4 i) => Nat.le_trans B3.out.size (hG4 i hi))
  have N4 : Hid (∀ a, A2 = some a → ¬ F3 a.block ∧ ¬ G4 a.block) := Lib.hid (fun a ha => ⟨fun hf => by have := A2L.out a ha; have := F3L.out _ hf; omega, fun hg => by have := A2L.out a ha; have := hG4 _ hg; have := B3.out.size; have := (AT3.out.lim); have h9 : w2.heap.size ≤ w3.heap.size := S23.out; omega⟩)
  have MK4 := Lib.hid (MINE.out w4 B4.out)
  clear at4 hG4 b4 NC AT3 F3L R3 A2L
  obtain ⟨h0, hh0⟩ : ∃ h0, newO 64 = h0 := ⟨_, rfl⟩
  have HI0 : Hid (HoI 64 0 h0) := Lib.hid (hh0 ▸ newO_i 64 0)
  rw [hh0] at HA4 OA4
  clear hh0
  have LD := Lib.hid (hLoad w4 hb 64 h0 F3 A2 c2 (cL.length + 20) l 1024 A'' cap'' q lq HA4.out HI0.out.Z (by omega) (by omega) R4.out LB.out.2.1 (by have := LB.out.2.2; omega) (by decide) MK4.out HQ.out.1 (by have := HQ.out.2; omega))
  dsimp only
  go_wp2_with fail
  refine LD.out.mono ?_; rintro e w5 hq5
  clear LD
  rcases hq5 with ⟨hne, rfl, at5, b5⟩ | ⟨hE, k, b, hf, hk, hs, hb2, rfl, F5, at5, ch5, sb5⟩
  · have R5 := Lib.hid (R4.out.below b5)
    have OA5 := Lib.hid (OA4.out.below b5)
    have B5 := Lib.hid (bel_then B4.out b5)
    have LD := Lib.hid (hLoad w5 ob 64 h0 G4 A2 c2 (cL.length + 20) l 1024 A'' cap'' q lq OA5.out HI0.out.Z (by omega) (by omega) R5.out LB.out.2.1 (by have := LB.out.2.2; omega) (by decide) (MINE.out w5 B5.out) HQ.out.1 (by have := HQ.out.2; omega))
    obtain ⟨E, hEE⟩ : ∃ E, loadE 64 h0 (imgE l) (codeI l) (dataL l) 1024 = E := ⟨_, rfl⟩
    unfold HLoadP at LD
    rw [hEE] at hne LD ⊢
    have q2 : (E != 0) = true := by simpa using hne
    have q3 : (E != E) = false := by simp
    have HNE := Lib.hid hne
    clear hEE hne b5 at5
    dsimp only
    go_wp2_with fail
    refine LD.out.mono ?_; rintro e w6 (⟨_, rfl, _, b6⟩ | ⟨hE, _⟩)
    · have B6 := Lib.hid (bel_then B5.out b6)
      clear b6 LD
      dsimp only
      go_wp2
      go_ret
      exact ⟨rfl, B6.out⟩
    · exact absurd hE HNE.out
  · have OK := Lib.hid (ld_ok HI0.out.Z hE hk hs hb2)
    have HK := Lib.hid (And.intro hE (And.intro hk (And.intro hs hb2)))
    have K16 : Hid (k < 16) := Lib.hid OK.out.k16
    have HI1 := Lib.hid (OK.out.i HI0.out (by omega) LB.out.1 (rep := lq) (kr_u32 MK4.out) (by have := HQ.out; omega))
    have HAS1 := Lib.hid (OK.out.has HI0.out.Z lq)
    have R5 := Lib.hid (R4.out.chF ch5 (.inr (fun a ha => (N4.out a ha).1)))
    have OA5 := Lib.hid (OA4.out.apart ch5 (fun i hg hf => DJ.out i hf hg))
    have AT5 := Lib.hid at5
    have B5 := Lib.hid (Below.trans B4.out (ch5.below FL.out B4.out.size))
    have DJ5 : Hid (∀ i, F5 i → ¬ G4 i) := Lib.hid (fun i hf hg => (sb5 i hf).elim (fun hf => DJ.out i hf hg) (fun h => by have := OA4.out.lim i hg; omega))
    have FL5 := Lib.hid (fun i (hi : F5 i) => (sb5 i hi).elim (FL.out i) (fun h => Nat.le_trans B4.out.size h))
    clear hE hk hs hb2 at5 ch5 sb5 DJ FL HA4 OA4 R4
    have LD := Lib.hid (hLoad w5 ob 64 h0 G4 A2 c2 (cL.length + 20) l 1024 A'' cap'' q lq OA5.out HI0.out.Z (by omega) (by omega) R5.out LB.out.2.1 (by have := LB.out.2.2; omega) (by decide) (MINE.out w5 B5.out) HQ.out.1 (by have := HQ.out.2; omega))
    dsimp only
    go_wp2_with fail
    refine LD.out.mono ?_; rintro e w6 hq6
    clear LD
    rcases hq6 with ⟨hne, _⟩ | ⟨hE, k', b', hf', hk, hs, hb2, rfl, G6, at6, ch6, sb6⟩
    · exact absurd HK.out.1 hne
    · obtain rfl : k = k' := by have := HK.out.2.1; rw [hk] at this; injection this with this; exact this.symm
      obtain rfl : hf = hf' := by have := HK.out.2.2.1; rw [hs] at this; omega
      obtain rfl : b = b' := by have := HK.out.2.2.2; rw [hb2] at this; exact (Int.ofNat.inj this).symm
      obtain ⟨h1, hh1⟩ : ∃ h1, loadO h0 k b hf (codeI l) (dataL l) lq = h1 := ⟨_, rfl⟩
      rw [hh1] at HI1 HAS1 AT5 at6
      obtain ⟨s1, hs1⟩ : ∃ s1 : Sb, s1 = ⟨b, hf, codeI l, newX ((b : Int), ((2 * hf : Nat) : Int)) lq⟩ := ⟨_, rfl⟩
      rw [← hs1] at HAS1
      have AL0 : Hid (AlS w hb ob k k 0 h1 h1 F5 G6 s1 w6) := Lib.hid ⟨AT5.out.apart ch6 DJ5.out, at6, AlR.start HI1.out HAS1.out, fun i hf hg => (sb6 i hg).elim (DJ5.out i hf) (fun h => by have := AT5.out.lim i hf; omega), FL5.out, fun i hg => (sb6 i hg).elim (GL.out i) (fun h => Nat.le_trans B5.out.size h), Below.trans B5.out (ch6.below GL.out B5.out.size)⟩
      clear hE hk hs hb2 at6 ch6 sb6 AT5 DJ5 FL5 GL B5 R5 OA5 HI1 HAS1 hh1 hs1 HK OK LB N4 MK4 HI0 B4 B3 B2 B1
      dsimp only
      go_wp2_with fail
      go_loopw [16] (fun v wr => ∃ (j n0 : Nat) (h o : Ho) (F G : Nat → Prop) (s : Sb), v = .int .i64 (j : Int) ∧ j ≤ m ∧ n0 ≤ 40 * j ∧ Hid (AlS w hb ob k k n0 h o F G s wr)) (fun v _ => m - (intOf v).toNat)
      case atStart => exact ⟨0, 0, h1, h1, F5, G6, s1, rfl, by omega, by omega, AL0⟩
      case round =>
        obtain ⟨j, n0, h, o, F, G, s, rfl, hj, hn0, AL⟩ := hrel
        clear AL0
        by_cases hjm : j < m
        · as_aux_lemma =>
          obtain ⟨x, t, rfl, htr, hact⟩ := ACT.out j hjm
          have AC := hact wr AL.out.bel
          obtain ⟨c0, c1, c2', c3', c4, c5, d0, d1, d2, d3, d4, row⟩ := AC
          obtain ⟨rl, hrl⟩ : ∃ rl, t.r.length = rl := ⟨_, rfl⟩
          rw [hrl] at c5 htr
          have HR := Lib.hid hrl
          have RL := Lib.hid htr
          have ROW := Lib.hid row
          have DD := Lib.hid (And.intro d0 (And.intro d1 (And.intro d2 (And.intro d3 d4))))
          have kI : (j : Int) < (m : Int) := by omega
          have wj : IntKind.i64.wrap ((j : Int) + 1) = ((j + 1 : Nat) : Int) := by rw [show ((j + 1 : Nat) : Int) = (j : Int) + 1 by omega]; exact IntWalk.i64_in _ (by have := NM.out; omega)
          have NJ := Lib.hid (And.intro hj (And.intro hjm hn0))
          clear hact hrl htr row hj
          obtain ⟨td, tc, tg, ti, tn, tA, tcap, tr⟩ := t
          simp only at c0 c1 c2' c3' c4 c5 d0 d1 d2 d3 d4
          go_upto_region 16 with fail
          obtain ⟨wy, hwy⟩ : ∃ wy, wr.alloc (.cells #[.int .u8 td, .int .u8 tc, .int .u8 tg, .int .u8 ti, .int .u8 tn, .slice tA rl tcap] 38) = wy := ⟨_, rfl⟩
          have by_ : Below wr.heap.size wr wy := by rw [← hwy]; exact bel_al (Below.refl _ _) _
          have hY : HasB wy wr.heap.size 38 [.int .u8 td, .int .u8 tc, .int .u8 tg, .int .u8 ti, .int .u8 tn, .slice tA rl tcap] := by rw [← hwy]; exact HasB.newAt _ _ _ #[.int .u8 td, .int .u8 tc, .int .u8 tg, .int .u8 ti, .int .u8 tn, .slice tA rl tcap] rfl
          have YLT : Hid (wr.heap.size < wy.heap.size) := Lib.hid hY.lt
          have ALY := Lib.hid (AL.out.below by_)
          have ROWY := Lib.hid (ROW.out.below by_)
          have LIMY : Hid (∀ i, F i → i < wr.heap.size) := Lib.hid AL.out.ah.lim
          have LIMG : Hid (∀ i, G i → i < wr.heap.size) := Lib.hid AL.out.ao.lim
          have HY := Lib.hid hY
          rw [hwy]
          have WLY : Hid (w.heap.size ≤ wr.heap.size) := Lib.hid AL.out.bel.size
          clear hwy by_ hY c0 c1 c2' c3' c4 c5 AL ROW
          generalize wr.heap.size = Y at *
          have y0 := HY.out.cell 0
          have y1 := HY.out.cell 1
          have y2 := HY.out.cell 2
          have y3 := HY.out.cell 3
          have y4 := HY.out.cell 4
          have y5 := HY.out.cell 5
          simp only [List.getElem?_cons_succ, List.getElem?_cons_zero] at y0 y1 y2 y3 y4 y5
          obtain ⟨r, hr, hr7⟩ : ∃ r : Nat, td.tmod 7 = (r : Int) ∧ r < 7 := ⟨(td.tmod 7).toNat, by rw [Int.tmod_eq_emod_of_nonneg (by omega)]; omega, by rw [Int.tmod_eq_emod_of_nonneg (by omega)]; omega⟩
          by_cases hr2 : r < 2
          · -- one more is loaded
            obtain ⟨ci, hci, hcn⟩ : ∃ ci : Nat, tc.tmod (n : Int) = (ci : Int) ∧ ci < n := ⟨(tc.tmod n).toNat, by rw [Int.tmod_eq_emod_of_nonneg (by omega)]; have := Int.emod_nonneg tc (b := (n : Int)) (by omega); omega, by rw [Int.tmod_eq_emod_of_nonneg (by omega)]; have := Int.emod_lt_of_pos tc (b := (n : Int)) (by omega); have := Int.emod_nonneg tc (b := (n : Int)) (by omega); omega⟩
            obtain ⟨cA, cc, cll, hcl3, hct⟩ := CODE.out ci hcn
            obtain ⟨cl, hcl⟩ : ∃ cl, cll.length = cl := ⟨_, rfl⟩
            obtain ⟨hf2, p1, p2, p3⟩ := shl_a tg d2
            obtain ⟨sz2, hsz2⟩ : ∃ sz2 : Int, ((2 * hf2 : Nat) : Int) = sz2 := ⟨_, rfl⟩
            rw [hsz2] at p1 p3
            clear hsz2 p2
            have LB : Hid ((layL cll D8).length ≤ 4200 ∧ (layL cll D8).length = cl + 20) := Lib.hid (by
              rw [layL_len]
              have e8 : D8.length = 8 := rfl
              omega)
            have PW := Lib.hid p1
            have BY := Lib.hid (fun w' (b : Below w.heap.size w w') => bytes14 cA cc cl cll hcl (by omega) w' (hct w' b).2)
            have KS : Hid (∀ w', w'.heap[Y]? = wy.heap[Y]? → Below w.heap.size w w' → ((w'.cell? ⟨Y, 1, none⟩ = some (.int .u8 tc) ∧ w'.cell? ⟨Y, 2, none⟩ = some (.int .u8 tg) ∧ w'.cell? ⟨Y, 5, none⟩ = some (.slice tA rl tcap)) ∧ w'.cell? (xc.add ci) = some (.slice cA cl cc))) :=
              Lib.hid (fun w' hy b => ⟨⟨(cell_same (p := ⟨Y, 1, none⟩) hy).trans y1, (cell_same (p := ⟨Y, 2, none⟩) hy).trans y2, (cell_same (p := ⟨Y, 5, none⟩) hy).trans y5⟩, by have := (hct w' b).1; rw [hcl] at this; exact this⟩)
            have hsz := p3
            have wtc : IntKind.i64.wrap tc = tc := IntWalk.i64_in _ (by omega)
            have t1 : decide ((r : Int) < 2) = true := decide_eq_true (by omega)
            have t1' : decide (r < 2) = true := decide_eq_true hr2
            have hcd : decide (ci < n) = true := decide_eq_true hcn
            have hcd' : decide ((ci : Int) < (n : Int)) = true := decide_eq_true (by omega)
            have hnz : ((n : Int) == 0) = false := by simp; omega
            have hnz' : ¬ ((n : Int) = 0) := by omega
            have hnz2 : ¬ (n = 0) := by omega
            have AD := Lib.hid (ALY.out.below (Below.refl _ _).drew)
            have ROWD := Lib.hid (ROWY.out.below (Below.refl _ _).drew)
            have QD : Hid (wy.drew.heap[Y]? = wy.heap[Y]? ∧ Below w.heap.size w wy.drew) := Lib.hid ⟨rfl, AD.out.bel⟩
            have NFY : Hid (¬ F Y) := Lib.hid (fun hf => by have := LIMY.out _ hf; omega)
            clear d0 d1 d2 d3 d4 p1 p3 hcl hcl3 hct y1 y2 y3 y4 y5 hr2 hr7
            go_upto_region 17 with fail
            clear y0
            refine wp_region_noPanic ?_
            refine wp_region_held_drew (S := (fun w' => ((w'.cell? ⟨Y, 1, none⟩ = some (.int .u8 tc) ∧ w'.cell? ⟨Y, 2, none⟩ = some (.int .u8 tg) ∧ w'.cell? ⟨Y, 5, none⟩ = some (.slice tA rl tcap)) ∧ w'.cell? (xc.add ci) = some (.slice cA cl cc)))) (by kernel_rfl) ?_ (fun hHeld => ?_)
            · (try dsimp only)
              exact KS.out _ QD.out.1 QD.out.2
            refine wT 0 ?_
            refine wT 1 ?_
            refine wT 2 ?_
            refine wT 3 ?_
            refine wT 4 ?_
            refine wT 5 ?_
            refine wT 6 ?_
            refine wT 7 ?_
            refine wT 8 ?_
            refine wT 9 ?_
            refine wT 11 ?_
            refine wT 12 ?_
            refine wT 13 ?_
            refine wT 14 ?_
            refine wT 15 ?_
            refine wT 16 ?_
            refine wpAnyH_ready (rs := [10]) (by kernel_rfl) (by simp) ?_
            refine rC (fun K hK => ?_) ?_
            · go_simp
              (with_reducible refine Calls.mono (BY.out _ AD.out.bel) ?_)
              rintro e wb ⟨Ab, cb, rfl, rb, bb⟩
              have RB := Lib.hid rb
              have AB := Lib.hid (AD.out.below bb)
              have KB := Lib.hid (ROWD.out.below bb)
              have QD2 := Lib.hid (And.intro ((bb.block Y YLT.out).trans QD.out.1) (bel_then AD.out.bel bb))
              have YB := Lib.hid (Nat.lt_of_lt_of_le YLT.out bb.size)
              clear rb bb BY
              go_wp2_with fail
              refine hK.out _ _ ?_ (fun hHeld => ?_)
              · (try dsimp only)
                exact KS.out _ QD2.out.1 QD2.out.2
              clear hK K
              (try simp only [Act.put, lsA, lsZ, lsS])
              refine wpAnyH_ready (rs := [17]) (by kernel_rfl) (by simp) ?_
              refine rC (fun K hK => ?_) ?_
              · go_simp
                (with_reducible refine Calls.mono (AB.out.load RB.out LB.out.2 (by have := LB.out.1; have := LB.out.2; omega) PW.out KB.out HR.out (by have := RL.out; omega)) ?_)
                rintro e wl ⟨vl, h2, F2, rfl, al, cl2, sl⟩
                have AL := Lib.hid al
                have QD3 := Lib.hid (And.intro ((cl2.block Y YB.out NFY.out).trans QD2.out.1) al.bel)
                clear al cl2 sl RB
                go_wp2_with fail
                refine hK.out _ _ ?_ (fun hHeld => ?_)
                · (try dsimp only)
                  exact KS.out _ QD3.out.1 QD3.out.2
                clear hK K
                (try simp only [Act.put, lsA, lsZ, lsS])
                refine wpAnyH_done (by kernel_rfl) ?_ _
                refine NoPanic.normal ?_
                go_wp2_with fail
                go_roundw
                case rel => exact ⟨j + 1, n0, h2, o, F2, G, s, by go_num, by have := NJ.out; omega, by have := NJ.out; omega, AL⟩
                case measure => simp [intOf]; have := NJ.out; omega
              exact AllReadyH.nil
            exact AllReadyH.nil
          · obtain ⟨ee, he, he18⟩ : ∃ ee : Nat, ti.tmod 18 = (ee : Int) ∧ ee < 18 := ⟨(ti.tmod 18).toNat, by rw [Int.tmod_eq_emod_of_nonneg (by omega)]; omega, by rw [Int.tmod_eq_emod_of_nonneg (by omega)]; omega⟩
            obtain ⟨N, hN, hN40⟩ : ∃ N : Nat, tn.tmod 40 = (N : Int) ∧ N < 40 := ⟨(tn.tmod 40).toNat, by rw [Int.tmod_eq_emod_of_nonneg (by omega)]; omega, by rw [Int.tmod_eq_emod_of_nonneg (by omega)]; omega⟩
            have wti : IntKind.i64.wrap ti = ti := IntWalk.i64_in _ (by omega)
            have wtn : IntKind.i64.wrap tn = tn := IntWalk.i64_in _ (by omega)
            have EB := Lib.hid he18
            have NB := Lib.hid hN40
            have t1 : decide ((r : Int) < 2) = false := decide_eq_false (by omega)
            have t1' : decide (r < 2) = false := decide_eq_false hr2
            clear d0 d1 d2 d3 d4 hr2 hr7
            by_cases r6 : r = 6
            · subst r6
              by_cases hek : ee = k
              · subst hek
                go_wp2_with fail
                go_roundw
                case rel => exact ⟨j + 1, n0, h, o, F, G, s, by go_num, by have := NJ.out; omega, by have := NJ.out; omega, ALY⟩
                case measure => simp [intOf]; have := NJ.out; omega
              · have hek' : ((ee : Int) != (k : Int)) = true := by simp; omega
                have KC := Lib.hid (ALY.out.kill (x := (ee : Int)) (by unfold I64i; have := EB.out; omega) (by omega))
                go_wp2_with fail
                refine KC.out.mono ?_; rintro e w7 ⟨v7, h2, rfl, al, _⟩
                have AL := Lib.hid al
                clear al KC ALY
                dsimp only
                go_wp2_with fail
                go_roundw
                case rel => exact ⟨j + 1, n0, h2, o, F, G, s, by go_num, by have := NJ.out; omega, by have := NJ.out; omega, AL⟩
                case measure => simp [intOf]; have := NJ.out; omega
            · have r6' : ((r : Int) == 6) = false := by simp; omega
              have N30 : Hid (n0 ≤ 40000) := Lib.hid (by have := NJ.out; have := NM.out; omega)
              by_cases hek : ee = k
              · subst hek
                have RC := Lib.hid (ALY.out.own N30.out (n := N) (by have := NB.out; omega) (by have := EB.out; omega) (by have := EB.out; omega))
                go_wp2_with fail
                refine RC.out.mono ?_; rintro e w7 ⟨p, F2, rfl, ch7, sb7, b7, R7⟩
                have R7 := Lib.hid R7
                have y4' := (cell_same (p := ⟨Y, 4, none⟩) (ch7.block Y YLT.out (fun hf => by have := LIMY.out _ hf; omega))).trans y4
                clear y0 y1 y2 y3 y4 y5 ch7 sb7 b7 RC
                dsimp only
                go_wp2_with fail
                refine (R7.out _ (Below.refl _ _)).mono ?_; rintro e w8 ⟨rfl, h2, o2, G2, s2, al, _⟩
                have AL := Lib.hid al
                clear al y4' ALY R7
                dsimp only
                go_wp2_with fail
                go_roundw
                case rel => exact ⟨j + 1, n0 + N, h2, o2, F2, G2, s2, by go_num, by have := NJ.out; omega, by have := NJ.out; have := NB.out; omega, AL⟩
                case measure => simp [intOf]; have := NJ.out; omega
              · have hek' : ((ee : Int) == (k : Int)) = false := by simp; omega
                have RC := Lib.hid (ALY.out.run N30.out (x := (ee : Int)) (n := N) (by unfold I64i; have := EB.out; omega) (by have := NB.out; omega) (by omega))
                go_wp2_with fail
                refine RC.out.mono ?_; rintro e w7 ⟨p, q7, h2, F2, rfl, al, _⟩
                have AL := Lib.hid al
                clear al RC ALY y0 y1 y2 y3 y4 y5
                dsimp only
                go_wp2_with fail
                go_roundw
                case rel => exact ⟨j + 1, n0 + N, h2, o, F2, G, s, by go_num, by have := NJ.out; omega, by have := NJ.out; have := NB.out; omega, AL⟩
                case measure => simp [intOf]; have := NJ.out; omega
        · as_aux_lemma =>
          obtain rfl : j = m := by omega
          have TRB : Hid (s.x.Ok ∧ s.x.W.tr.length ≤ 50000 ∧ (∀ k t, h.has k t → t.x.W.tr.length ≤ 50000) ∧ (∀ k t, o.has k t → t.x.W.tr.length ≤ 50000)) := Lib.hid (by
            have b1 : ∀ k t, h.has k t → t.x.W.tr.length ≤ 50000 := fun k t ht => by have := (AL.out.al.hi.bi k t ht).tr; have := NM.out; omega
            have b2 : ∀ k t, o.has k t → t.x.W.tr.length ≤ 50000 := fun k t ht => by have := (AL.out.al.oi.bi k t ht).tr; have := NM.out; omega
            obtain ⟨_, _, _, _, _, _, _, _, I⟩ := AL.out.ah
            exact ⟨(I.sx k s AL.out.al.hs).1, b1 k s AL.out.al.hs, b1, b2⟩)
          have KI : Hid (I64i (k : Int)) := Lib.hid (by unfold I64i; have := K16.out; omega)
          obtain ⟨v0, v1, v2, v3, v4, v5, v6, v7, v8, v9, v10, _, hcs⟩ := bx_cs TRB.out.1.c
          have HCS : Hid (∀ RA rc TA tc, s.x.val RA rc TA tc = .agg #[.int .u32 v0, .int .u32 v1, .int .u32 v2, .int .u32 v3, .int .u32 v4, .int .u32 v5, .int .u32 v6, .int .u32 v7, .int .u32 v8, .int .u32 v9, .int .u32 v10, .slice RA s.x.W.rep.length rc, .int .i64 s.x.W.tk, .slice TA s.x.W.tr.length tc, .bool s.x.W.ov, .int .u32 s.x.W.cd, .int .i64 s.x.is, .int .i64 s.x.wh]) := Lib.hid (fun RA rc TA tc => by unfold Bx.val; rw [hcs])
          have E8 := fun w => eq8B v1 v2 v3 v4 v5 v6 v7 v8 w
          clear hcs hj hn0 hjm
          have BX := Lib.hid (hBox wr hb h F (k : Int) AL.out.ah TRB.out.2.2.1 KI.out)
          go_wp2_with fail
          refine BX.out.mono ?_; rintro e w7 ⟨b7, ⟨k', t, hk', ht, RA, rc, TA, tc, rfl, kr, er, _, _⟩ | ⟨hno, _⟩⟩
          rotate_left
          · exact absurd AL.out.al.hs (hno k _ rfl)
          obtain rfl : k = k' := by omega
          obtain rfl := Ho.one AL.out.al.hs ht
          have AL7 := Lib.hid (AL.out.below b7)
          have KR7 := Lib.hid kr
          have ER7 := Lib.hid er
          rw [HCS.out]
          clear b7 kr er ht hk' BX AL
          dsimp only
          go_upto_region 28 with fail
          obtain ⟨W8, hW8⟩ : ∃ W8, w7.alloc (.cells #[.int .u32 v0, .int .u32 v1, .int .u32 v2, .int .u32 v3, .int .u32 v4, .int .u32 v5, .int .u32 v6, .int .u32 v7, .int .u32 v8, .int .u32 v9, .int .u32 v10, .slice RA s.x.W.rep.length rc, .int .i64 s.x.W.tk, .slice TA s.x.W.tr.length tc, .bool s.x.W.ov, .int .u32 s.x.W.cd, .int .i64 s.x.is, .int .i64 s.x.wh] 63) = W8 := ⟨_, rfl⟩
          have b8 : Below w7.heap.size w7 W8 := by rw [← hW8]; exact bel_al (Below.refl _ _) _
          have H8 : Hid (HasB W8 w7.heap.size 63 [.int .u32 v0, .int .u32 v1, .int .u32 v2, .int .u32 v3, .int .u32 v4, .int .u32 v5, .int .u32 v6, .int .u32 v7, .int .u32 v8, .int .u32 v9, .int .u32 v10, .slice RA s.x.W.rep.length rc, .int .i64 s.x.W.tk, .slice TA s.x.W.tr.length tc, .bool s.x.W.ov, .int .u32 s.x.W.cd, .int .i64 s.x.is, .int .i64 s.x.wh]) := Lib.hid (by rw [← hW8]; exact HasB.newAt _ _ _ #[.int .u32 v0, .int .u32 v1, .int .u32 v2, .int .u32 v3, .int .u32 v4, .int .u32 v5, .int .u32 v6, .int .u32 v7, .int .u32 v8, .int .u32 v9, .int .u32 v10, .slice RA s.x.W.rep.length rc, .int .i64 s.x.W.tk, .slice TA s.x.W.tr.length tc, .bool s.x.W.ov, .int .u32 s.x.W.cd, .int .i64 s.x.is, .int .i64 s.x.wh] rfl)
          rw [hW8]
          have AL8 := Lib.hid (AL7.out.below b8)
          have KR8 := Lib.hid (KR7.out.below b8)
          have ER8 := Lib.hid (ER7.out.below b8)
          clear b8 hW8 AL7 KR7 ER7
          generalize w7.heap.size = X7 at *
          as_aux_lemma =>
          have BX := Lib.hid (hBox W8 ob o G (k : Int) AL8.out.ao TRB.out.2.2.2 KI.out)
          go_wp2_with fail
          refine BX.out.mono ?_; rintro e w9 ⟨b9, ⟨k', t, hk', ht, RB, rd, TB, td, rfl, kr, er, _, _⟩ | ⟨hno, _⟩⟩
          rotate_left
          · exact absurd AL8.out.al.os (hno k _ rfl)
          obtain rfl : k = k' := by omega
          obtain rfl := Ho.one AL8.out.al.os ht
          have AL9 := Lib.hid (AL8.out.below b9)
          have KR9 := Lib.hid (KR8.out.below b9)
          have ER9 := Lib.hid (ER8.out.below b9)
          have H9 := Lib.hid (H8.out.below b9)
          have KS9 := Lib.hid kr
          have ES9 := Lib.hid er
          rw [HCS.out]
          clear b9 kr er ht hk' BX AL8 KR8 ER8 H8
          dsimp only
          go_upto_region 29 with fail
          obtain ⟨W10, hW10⟩ : ∃ W10, w9.alloc (.cells #[.int .u32 v0, .int .u32 v1, .int .u32 v2, .int .u32 v3, .int .u32 v4, .int .u32 v5, .int .u32 v6, .int .u32 v7, .int .u32 v8, .int .u32 v9, .int .u32 v10, .slice RB s.x.W.rep.length rd, .int .i64 s.x.W.tk, .slice TB s.x.W.tr.length td, .bool s.x.W.ov, .int .u32 s.x.W.cd, .int .i64 s.x.is, .int .i64 s.x.wh] 63) = W10 := ⟨_, rfl⟩
          have b10 : Below w9.heap.size w9 W10 := by rw [← hW10]; exact bel_al (Below.refl _ _) _
          have G10 : Hid (HasB W10 w9.heap.size 63 [.int .u32 v0, .int .u32 v1, .int .u32 v2, .int .u32 v3, .int .u32 v4, .int .u32 v5, .int .u32 v6, .int .u32 v7, .int .u32 v8, .int .u32 v9, .int .u32 v10, .slice RB s.x.W.rep.length rd, .int .i64 s.x.W.tk, .slice TB s.x.W.tr.length td, .bool s.x.W.ov, .int .u32 s.x.W.cd, .int .i64 s.x.is, .int .i64 s.x.wh]) := Lib.hid (by rw [← hW10]; exact HasB.newAt _ _ _ #[.int .u32 v0, .int .u32 v1, .int .u32 v2, .int .u32 v3, .int .u32 v4, .int .u32 v5, .int .u32 v6, .int .u32 v7, .int .u32 v8, .int .u32 v9, .int .u32 v10, .slice RB s.x.W.rep.length rd, .int .i64 s.x.W.tk, .slice TB s.x.W.tr.length td, .bool s.x.W.ov, .int .u32 s.x.W.cd, .int .i64 s.x.is, .int .i64 s.x.wh] rfl)
          rw [hW10]
          have AL10 := Lib.hid (AL9.out.below b10)
          have KR10 := Lib.hid (KR9.out.below b10)
          have ER10 := Lib.hid (ER9.out.below b10)
          have KS10 := Lib.hid (KS9.out.below b10)
          have ES10 := Lib.hid (ES9.out.below b10)
          have H10 := Lib.hid (H9.out.below b10)
          clear b10 hW10 AL9 KR9 ER9 KS9 ES9 H9
          generalize w9.heap.size = X9 at *
          as_aux_lemma =>
          have BC := Lib.hid (hBytes W10 hb 64 h F (k : Int) AL10.out.ah AL10.out.al.hi.Z KI.out)
          go_wp2_with fail
          refine BC.out.mono ?_; rintro e w11 ⟨b11, ⟨k', t, hk', ht, A11, c11, rfl, r11, _⟩ | ⟨hno, _⟩⟩
          rotate_left
          · exact absurd AL10.out.al.hs (hno k _ rfl)
          obtain rfl : k = k' := by omega
          obtain rfl := Ho.one AL10.out.al.hs ht
          have BC := Lib.hid (hBytes w11 ob 64 o G (k : Int) (AL10.out.below b11).ao AL10.out.al.oi.Z KI.out)
          have R11 := Lib.hid r11
          have B11 := Lib.hid b11
          clear r11 b11 ht hk'
          dsimp only
          go_wp2_with fail
          refine BC.out.mono ?_; rintro e w12 ⟨b12, ⟨k', t, hk', ht, A12, c12, rfl, r12, _⟩ | ⟨hno, _⟩⟩
          rotate_left
          · exact absurd AL10.out.al.os (hno k _ rfl)
          obtain rfl : k = k' := by omega
          obtain rfl := Ho.one AL10.out.al.os ht
          have BB : Hid (Below W10.heap.size W10 w12) := Lib.hid (bel_then B11.out b12)
          have LN1 := bytesO_len AL10.out.al.hi.Z AL10.out.al.hs
          have LN2 := bytesO_len AL10.out.al.oi.Z AL10.out.al.os
          have cv1 := fun w' (b : Below w12.heap.size w12 w') => conv_row ((R11.out.below b12).below b) (2 * s.hf) LN1
          have cv2 := fun w' (b : Below w12.heap.size w12 w') => conv_row (r12.below b) (2 * s.hf) LN2
          rw [← AL10.out.al.bytesO] at cv2
          have cv1' := cv1 w12 (Below.refl _ _)
          have cv2' := cv2 w12 (Below.refl _ _)
          generalize strOfNums (bytesO h s) = str at *
          have WB := Lib.hid (fun w' (b : Below W10.heap.size W10 w') => worlds_any TRB.out.1 (by have := TRB.out.2.1; omega) w' RA RB TA TB rc rd tc td (KR10.out.below b) (KS10.out.below b) (ER10.out.below b) (ES10.out.below b))
          rw [HCS.out, HCS.out] at WB
          have BW := Lib.hid AL10.out.bel
          as_aux_lemma =>
          obtain ⟨a0, a1, a2, a3, a4, a5, a6, a7, a8, a9, a10, a11, a12, a13, a14, a15, a16, a17⟩ := has18 (H10.out.below BB.out)
          obtain ⟨d0, d1, d2, d3, d4, d5, d6, d7, d8, d9, d10, d11, d12, d13, d14, d15, d16, d17⟩ := has18 (G10.out.below BB.out)
          have HX := Lib.hid (H10.out.below BB.out)
          have GX := Lib.hid (G10.out.below BB.out)
          clear b12 r12 ht hk' BC R11 B11 LN1 LN2 cv1 cv2 AL10 KR10 KS10 ER10 ES10 H10 G10 HCS a11 a12 a13 a14 a15 d11 d12 d13 d14 d15 dq dn dn' dn0
          dsimp only
          go_wp2_with (first
            | (refine ld_g 63 (.tmp 23) rfl X7 (by rfl) _ HX.out rfl Tryz.underlying63 (by kernel_rfl) (by rfl) ?_)
            | (refine ld_g 63 (.tmp 25) rfl X9 (by rfl) _ GX.out rfl Tryz.underlying63 (by kernel_rfl) (by rfl) ?_))
          as_aux_lemma =>
          refine (WB.out _ BB.out).mono ?_; rintro e w13 ⟨rfl, b13⟩
          have BZ := Lib.hid (Below.trans BW.out ((bel_then BB.out b13).mono BW.out.size))
          clear b13 WB BB BW a0 a1 a2 a3 a4 a5 a6 a7 a8 a9 a10 a16 a17 d0 d1 d2 d3 d4 d5 d6 d7 d8 d9 d10 d16 d17 cv1' cv2' E8
          dsimp only
          go_wp2_with fail
          go_ret
          exact ⟨rfl, BZ.out⟩
theorem hostAlone_walk (A : Option Addr) (n cap : Nat) (A' : Option Addr) (m cap' : Nat) (A'' : Option Addr) (q cap'' : Nat) (w : World) (rA : RowsB w A n cap) (rB : AcsAt w A' m cap') (rC : ∃ l : List Int, q = l.length ∧ KRow .u32 w A'' cap'' l) :
    Calls Tryz.prog 4 #[.slice A n cap, .slice A' m cap', .slice A'' q cap''] w fun e w' => e = .returned (.bool true) ∧ Below w.heap.size w w' := by
  by_cases h : Few14 w A n A' m ∧ q ≤ 20
  · obtain ⟨l, hl, r⟩ := rC
    exact alone_main A A' A'' n cap m cap' q cap'' l hl.symm h.2 w rA rB r (fun w1 b => (few14 A A' n cap m cap' w1 (rA.below b) (rB.below b)).mono (fun e w' ⟨b, h1, _, h3⟩ => ⟨b, h1, h3⟩)) h.1
  · exact alone_skip A A' A'' n cap m cap' q cap'' w rA rB (fun hf => by
      rcases Nat.lt_or_ge 20 q with h9 | h9
      · exact h9
      · exact absurd ⟨hf, h9⟩ h)
end Go.Proofs.YtjmbaiijmhkdpaaGreat.Mm
