/- The statement WholeSafe, walked. -/
import Derived.Test.YteefmjhemhlapaaGreatZHoE
namespace Go.Proofs.YteefmjhemhlapaaGreat.Mm
open Go.ChangeShapes Go.WideShapes Go.ChangeAt Go.RowKit
set_option linter.unusedVariables false
set_option linter.unusedSimpArgs false
set_option maxRecDepth 10000
set_option maxHeartbeats 4000000
def inRg (L : List Rg) (a : Int) (k : Nat) : Bool := (L.take k).any fun r => decide (r.1 ≤ a) && decide (a < r.1 + r.2)
theorem inRg_s (L : List Rg) (a : Int) (k : Nat) (h : k < L.length) : inRg L a (k + 1) = (inRg L a k || (decide ((L.getD k (0, 0)).1 ≤ a) && decide (a < (L.getD k (0, 0)).1 + (L.getD k (0, 0)).2))) := by
  unfold inRg
  rw [List.take_succ_eq_append_getElem h, List.any_append]
  simp [List.getD, h]
theorem inRg_all {h : Ho} {L : List Rg} (A : RegsL 256 h L) (H : HoZ 256 h) (a : Nat) (ha : a < 16384) : wholeB h.T (a : Int) 1 = inRg L (a : Int) L.length := by
  have h1 : inRg L (a : Int) L.length = true ↔ ∃ r ∈ L, r.1 ≤ (a : Int) ∧ (a : Int) < r.1 + r.2 := by
    unfold inRg
    rw [List.take_length, List.any_eq_true]
    simp
  have h2 := A.there H a (by omega)
  have h3 : wholeB h.T (a : Int) 1 = h.T.getD (a / 64) false := by
    unfold wholeB
    rw [(liesB_iff _ _ _).2 ⟨by omega, by omega, by rw [H.zl]; omega⟩, Bool.true_and]
    show thr h.T a 1 = _
    unfold thr
    simp
  rw [h3, Bool.eq_iff_iff, h2, h1]
theorem SafS.byte {W w : World} {hb ab n0 : Nat} {h : Ho} {F : Nat → Prop} {cs : List Value} (S : SafS W hb ab n0 h F cs w) {k : Nat} {s : Sb} (hs : h.has k s) (i : Nat) (hi : i < 512) : (bytesO h s).getD i 0 = s.code.getD i 0 :=
  bytesO_code S.hi hs i (by rw [S.sz k s hs]; exact hi)
theorem code_beyond (l : List Int) (i : Nat) (h : l.length ≤ i) : l.getD i 0 = 0 := by simp [List.getD, List.getElem?_eq_none h]
theorem safe_skip (A B : Option Addr) (n ca m cb : Nat) (w : World) (hs : ¬ (n ≤ 6 ∧ m ≤ 40)) :
    Calls Tryz.prog 4 #[.slice A n ca, .slice B m cb] w fun e w' => e = .returned (.bool true) ∧ Below w.heap.size w w' := by
  by_cases k0 : 6 < n
  · have t0 : decide ((6 : Int) < (n : Int)) = true := decide_eq_true (by omega)
    go_enter Tryz.func4, Tryz.ntmps4
    go_wp2_with fail
    refine (goes14 _).mono ?_; rintro e w1 ⟨rfl, b1⟩
    have B1 := Lib.hid b1; clear b1
    dsimp only
    go_wp2_with fail
    refine (goes14 _).mono ?_; rintro e w2 ⟨rfl, b2⟩
    have B2 := Lib.hid (bel_then B1.out b2); clear b2
    dsimp only
    go_wp2_with fail
    go_ret
    exact ⟨rfl, B2.out⟩
  · have t0 : decide ((6 : Int) < (n : Int)) = false := decide_eq_false (by omega)
    have t1 : decide ((40 : Int) < (m : Int)) = true := decide_eq_true (by omega)
    go_enter Tryz.func4, Tryz.ntmps4
    go_wp2_with fail
    refine (goes14 _).mono ?_; rintro e w1 ⟨rfl, b1⟩
    have B1 := Lib.hid b1; clear b1
    dsimp only
    go_wp2_with fail
    refine (goes14 _).mono ?_; rintro e w2 ⟨rfl, b2⟩
    have B2 := Lib.hid (bel_then B1.out b2); clear b2
    dsimp only
    go_wp2_with fail
    go_ret
    exact ⟨rfl, B2.out⟩
set_option maxHeartbeats 32000000 in
theorem safe_main (A B : Option Addr) (n ca m cb : Nat) (lr : List Int) (hlr : lr.length = m) (hn : n ≤ 6) (hm : m ≤ 40) (w : World) (rA : RowsB w A n ca) (rr : RowAt w B cb lr) :
    Calls Tryz.prog 4 #[.slice A n ca, .slice B m cb] w fun e w' => e = .returned (.bool true) ∧ Below w.heap.size w w' := by
  have t0 : decide ((6 : Int) < (n : Int)) = false := decide_eq_false (by omega)
  have t1 : decide ((40 : Int) < (m : Int)) = false := decide_eq_false (by omega)
  have NC := Lib.hid (fun w' => hNew 256 (by omega) (by omega) w')
  rw [show (((64 * 256 : Nat)) : Int) = 16384 from rfl] at NC
  have IMG : Hid (∀ i, i < n → ∃ (x : Addr) (B : Option Addr) (c : Nat) (l : List Int), A = some x ∧ ∀ w', Below w.heap.size w w' → SlAt w' (x.add i) B c l) := Lib.hid (fun i hi => by
    obtain ⟨x, hx, xb, hxc⟩ := rA.2.2 (by omega)
    obtain ⟨B, c, l, ht⟩ := hxc i hi
    exact ⟨x, B, c, l, hx, fun w' b => ht.below b (by rw [block_add]; exact xb)⟩)
  have RR := Lib.hid (fun w' (b : Below w.heap.size w w') => rr.below b)
  have NM := Lib.hid (And.intro hn (And.intro hm (And.intro hlr (And.intro rA.1 rA.2.1))))
  clear rA rr hn hm hlr
  go_enter Tryz.func4, Tryz.ntmps4
  go_wp2_with fail
  refine (goes14 _).mono ?_; rintro e w1 ⟨rfl, b1⟩
  have B1 := Lib.hid b1; clear b1
  dsimp only
  go_wp2_with fail
  clear t0 t1
  refine (NC.out _).mono ?_; rintro e w3 ⟨hb, F3, rfl, at3, hF3, b3⟩
  have AT3 := Lib.hid at3
  have B3 := Lib.hid (bel_then B1.out b3)
  have FL := Lib.hid (fun i (hi : F3 i) => Nat.le_trans B1.out.size (hF3 i hi))
  clear at3 hF3 b3 NC
  dsimp only
  go_upto_region 7 with fail
  obtain ⟨W4, e4, S4⟩ : ∃ W4, w3.alloc (.cells #[.slice none 0 0, .slice none 0 0, .slice none 0 0, .slice none 0 0, .slice none 0 0, .slice none 0 0, .slice none 0 0, .slice none 0 0, .slice none 0 0, .slice none 0 0, .slice none 0 0, .slice none 0 0, .slice none 0 0, .slice none 0 0, .slice none 0 0, .slice none 0 0] 55) = W4 ∧ SafS w hb w3.heap.size 0 (newO 256) F3 [.slice none 0 0, .slice none 0 0, .slice none 0 0, .slice none 0 0, .slice none 0 0, .slice none 0 0, .slice none 0 0, .slice none 0 0, .slice none 0 0, .slice none 0 0, .slice none 0 0, .slice none 0 0, .slice none 0 0, .slice none 0 0, .slice none 0 0, .slice none 0 0] W4 := by
    have b4 := bel_al (Below.refl w3.heap.size w3) (.cells #[.slice none 0 0, .slice none 0 0, .slice none 0 0, .slice none 0 0, .slice none 0 0, .slice none 0 0, .slice none 0 0, .slice none 0 0, .slice none 0 0, .slice none 0 0, .slice none 0 0, .slice none 0 0, .slice none 0 0, .slice none 0 0, .slice none 0 0, .slice none 0 0] 55)
    exact ⟨_, rfl, AT3.out.below b4, newO_i 256 0, FL.out, HasB.newAt _ _ _ #[.slice none 0 0, .slice none 0 0, .slice none 0 0, .slice none 0 0, .slice none 0 0, .slice none 0 0, .slice none 0 0, .slice none 0 0, .slice none 0 0, .slice none 0 0, .slice none 0 0, .slice none 0 0, .slice none 0 0, .slice none 0 0, .slice none 0 0, .slice none 0 0] rfl, fun hf => by have := AT3.out.lim _ hf; omega, B3.out.size, rfl, fun v hv => by (simp at hv; exact ⟨_, _, _, hv⟩), fun k s hs => absurd hs newO_has, fun k s hs => absurd hs newO_has, bel_then B3.out b4⟩
  have SS := Lib.hid S4
  clear S4 AT3 FL B3 B1
  generalize w3.heap.size = ab at *
  go_wp2_with fail
  (try rw [e4])
  clear e4
  go_loopw [8] (fun v wr => ∃ (j : Nat) (h : Ho) (F : Nat → Prop) (cs : List Value), v = .int .i64 (j : Int) ∧ j ≤ n ∧ Hid (SafS w hb ab 0 h F cs wr)) (fun v _ => n - (intOf v).toNat)
  case atStart => exact ⟨0, _, _, _, rfl, by omega, SS⟩
  case round =>
    obtain ⟨j, h, F, cs, rfl, hj, SA⟩ := hrel
    clear SS
    by_cases hjn : j < n
    · obtain ⟨x, iB, ic, il, rfl, hat⟩ := IMG.out j hjn
      have sat := hat wr SA.out.bel
      obtain ⟨g0, grow⟩ := sat
      obtain ⟨cl, hcl⟩ : ∃ cl, il.length = cl := ⟨_, rfl⟩
      rw [hcl] at g0
      have gI : (j : Int) < (n : Int) := by omega
      have wj : IntKind.i64.wrap ((j : Int) + 1) = ((j + 1 : Nat) : Int) := by rw [show ((j + 1 : Nat) : Int) = (j : Int) + 1 by omega]; exact IntWalk.i64_in _ (by have := NM.out; omega)
      by_cases hbig : 2000 < cl
      · have d0 : decide ((2000 : Int) < (cl : Int)) = true := decide_eq_true (by omega)
        clear hat
        go_wp2_with fail
        go_ret
        exact ⟨rfl, SA.out.bel⟩
      · have d0 : decide ((2000 : Int) < (cl : Int)) = false := decide_eq_false (by omega)
        have IC := Lib.hid (imageC iB ic cl il hcl (by omega) wr grow)
        have HAT := Lib.hid (fun w' (b : Below w.heap.size w w') => (by have := hat w' b; unfold SlAt at this; rw [hcl] at this; exact this : w'.cell? (x.add j) = some (.slice iB cl ic) ∧ RowAt w' iB ic il))
        have NJ := Lib.hid (And.intro hj (And.intro hjn (And.intro hcl (by omega : cl ≤ 2000))))
        clear hat grow hcl hbig hj
        go_wp2_with fail
        refine IC.out.mono ?_; rintro e w5 (⟨hI, U, cu, V, cv, rfl, oU, oV, b5⟩ | ⟨hI, hN⟩)
        · dsimp only
          go_upto_region 13 with fail
          obtain ⟨W6, e6, H6, b6⟩ : ∃ W6, w5.alloc (.cells #[.slice U (codeI il).length cu, .slice V (dataL il).length cv] 57) = W6 ∧ HasB W6 w5.heap.size 57 [.slice U (codeI il).length cu, .slice V (dataL il).length cv] ∧ Below w5.heap.size w5 W6 :=
            ⟨_, rfl, HasB.newAt _ _ _ #[.slice U (codeI il).length cu, .slice V (dataL il).length cv] rfl, bel_al (Below.refl _ _) _⟩
          rw [e6]
          have SA6 := Lib.hid (SA.out.below (bel_then b5 b6))
          have HU := Lib.hid (oU.row.below b6)
          have UL : Hid (∀ a, U = some a → wr.heap.size ≤ a.block) := Lib.hid (fun a ha => by subst ha; exact (oU.own.lt a.block rfl).1)
          have UB : Hid (∀ a, U = some a → a.block < W6.heap.size) := Lib.hid (fun a ha => by subst ha; have := (oU.own.lt a.block rfl).2; have := b6.size; omega)
          have X5 : Hid (wr.heap.size ≤ w5.heap.size) := Lib.hid b5.size
          have HI := Lib.hid H6
          have FLI : Hid (∀ i, F i → i < wr.heap.size) := Lib.hid SA.out.ah.lim
          have ABL : Hid (ab < wr.heap.size) := Lib.hid SA.out.ar.lt
          have LD := Lib.hid (SA6.out.load (HAT.out W6 SA6.out.bel).2 NJ.out.2.2.1 (by have := NJ.out; omega))
          have g1 := (HAT.out W6 SA6.out.bel).1
          clear e6 H6 b6 oU oV b5 IC g0
          go_wp2_with fail
          refine LD.out.mono ?_; rintro e w7 (⟨E, hE, _, rfl, S7⟩ | ⟨k, F2, h2, _, hk, rfl, ch, sb, ar, bel, K⟩)
          · have q0 : (E == 0) = false := by simpa using hE
            have SA7 := Lib.hid S7
            clear S7 hE LD SA6 SA g1
            dsimp only
            go_wp2_with fail
            go_roundw
            case rel => exact ⟨j + 1, h, F, cs, by go_num, by have := NJ.out; omega, SA7⟩
            case measure => simp [intOf]; have := NJ.out; omega
          · have hI7 : HasB w7 w5.heap.size 57 [.slice U (codeI il).length cu, .slice V (dataL il).length cv] := HI.out.same (ch.block _ HI.out.lt (fun hf => by have := FLI.out _ hf; have := X5.out; omega))
            have HU7 := Lib.hid (HU.out.chF ch (.inr (fun a ha hf => by have := FLI.out _ hf; have := UL.out a ha; omega)))
            have UF2 : Hid (∀ a, U = some a → a.block < w7.heap.size ∧ w.heap.size ≤ a.block ∧ ¬ F2 a.block ∧ a.block ≠ ab) := Lib.hid (fun a ha => ⟨Nat.lt_of_lt_of_le (UB.out a ha) ch.size, by have := UL.out a ha; have := SA.out.bel.size; omega, fun hf => (sb _ hf).elim (fun hf => by have := FLI.out _ hf; have := UL.out a ha; omega) (fun h => by have := UB.out a ha; omega), by have := UL.out a ha; have := ABL.out; omega⟩)
            have i0 := hI7.cell 0
            simp only [List.getElem?_cons_zero] at i0
            have AR := Lib.hid ar
            have KK := Lib.hid K
            have HK := Lib.hid hk
            have LN := Lib.hid SA.out.ln
            clear hI7 ch sb ar bel K hk HU HI X5 FLI ABL UL UB LD SA6 g1
            obtain ⟨oA, oN, oC, hold⟩ : ∃ oA oN oC, cs[k]? = some (.slice oA oN oC) := by
              have h9 : k < cs.length := by rw [LN.out]; exact HK.out
              obtain ⟨A9, n9, c9, e9⟩ := SA.out.one (cs[k]) (List.getElem_mem _)
              exact ⟨A9, n9, c9, by rw [List.getElem?_eq_getElem h9, e9]⟩
            have a0 := AR.out.cell k
            rw [hold] at a0
            have af := AR.out.frozen k
            have k15 : IntKind.i64.wrap ((k : Int)) = (k : Int) := IntWalk.i64_in _ (by have := HK.out; omega)
            have k16 : decide (k < 16) = true := decide_eq_true HK.out
            have k16' : decide ((k : Int) < 16) = true := decide_eq_true (by have := HK.out; omega)
            have kb : bits BinOp.and IntKind.i64 (k : Int) 15 = (k : Int) := by
              have := HK.out
              have h16 : k = 0 ∨ k = 1 ∨ k = 2 ∨ k = 3 ∨ k = 4 ∨ k = 5 ∨ k = 6 ∨ k = 7 ∨ k = 8 ∨ k = 9 ∨ k = 10 ∨ k = 11 ∨ k = 12 ∨ k = 13 ∨ k = 14 ∨ k = 15 := by omega
              rcases h16 with rfl | rfl | rfl | rfl | rfl | rfl | rfl | rfl | rfl | rfl | rfl | rfl | rfl | rfl | rfl | rfl <;> rfl
            have k16n : k < 16 := HK.out
            clear SA
            dsimp only
            have CH : Chg ab ab w7 (w7.setCell ⟨ab, k, none⟩ (.slice U (codeI il).length cu)) := chg_set (Chg.refl _ _ _) _ (.inl rfl) _ _
            have S8 := Lib.hid (KK.out U cu _ (HU7.out.same CH.size (.inr (fun a ha => CH.block _ (UF2.out a ha).1 (UF2.out a ha).2.2.2 (UF2.out a ha).2.2.2))) UF2.out (has_set AR.out k _) CH)
            clear CH
            go_wp2_with fail
            go_roundw
            case rel => exact ⟨j + 1, h2, F2, _, by go_num, by have := NJ.out; omega, S8⟩
            case measure => simp [intOf]; have := NJ.out; omega
        · obtain ⟨rfl, b5⟩ := hN
          dsimp only
          go_upto_region 13 with fail
          obtain ⟨W6, e6, b6⟩ : ∃ W6, w5.alloc (.cells #[.slice none 0 0, .slice none 0 0] 57) = W6 ∧ Below w5.heap.size w5 W6 := ⟨_, rfl, bel_al (Below.refl _ _) _⟩
          rw [e6]
          have SA6 := Lib.hid (SA.out.below (bel_then b5 b6))
          have LD := Lib.hid (SA6.out.load (HAT.out W6 SA6.out.bel).2 NJ.out.2.2.1 (by have := NJ.out; omega))
          have g1 := (HAT.out W6 SA6.out.bel).1
          have HI := Lib.hid hI
          have q1 : (imgE il != 0) = true := by simpa using hI
          have q2 : (imgE il == 0) = false := by simpa using hI
          have q3 : (imgE il != imgE il) = false := by simp
          clear e6 b6 b5 IC g0 hI
          generalize imgE il = ie at *
          go_wp2_with fail
          refine LD.out.mono ?_; rintro e w7 (⟨E, hE, hEi, rfl, S7⟩ | ⟨k, F2, h2, h0, _⟩)
          · obtain rfl := hEi HI.out
            have SA7 := Lib.hid S7
            clear S7 hE hEi LD SA6 SA g1
            dsimp only
            go_wp2_with fail
            go_roundw
            case rel => exact ⟨j + 1, h, F, cs, by go_num, by have := NJ.out; omega, SA7⟩
            case measure => simp [intOf]; have := NJ.out; omega
          · exact absurd h0 HI.out
    · obtain rfl : j = n := by omega
      clear IMG hj hjn
      go_wp2_with fail
      generalize hq : wr = wq at *
      clear hq
      go_loopw [13] (fun v wr => ∃ (i n0 : Nat) (h : Ho) (F : Nat → Prop), v = .int .i64 (i : Int) ∧ i ≤ m ∧ n0 ≤ 64 * i ∧ Hid (SafS w hb ab n0 h F cs wr)) (fun v _ => m - (intOf v).toNat)
      case atStart => exact ⟨0, 0, h, F, rfl, by omega, by omega, SA⟩
      case round =>
        obtain ⟨i, n0, h, F, rfl, hi, hn0, SB⟩ := hrel
        clear SA
        by_cases him : i < m
        · obtain ⟨xr, hxr, xlt, xc⟩ := (RR.out w (Below.refl _ _)).2.2.2 (by intro e; have := NM.out.2.2.1; rw [e] at this; simp at this; omega)
          subst hxr
          have xb := (RR.out w (Below.refl _ _)).2.2.1 (lr.getD i 0) (by rw [List.getD_eq_getElem?_getD, List.getElem?_eq_getElem (by rw [NM.out.2.2.1]; exact him)]; exact List.getElem_mem _)
          have KS : Hid (∀ w', Below w.heap.size w w' → w'.cell? (xr.add i) = some (.int .u8 (lr.getD i 0))) := Lib.hid (fun w' b => (b.cell (by rw [block_add]; exact xlt)).trans (xc i (by rw [NM.out.2.2.1]; exact him)))
          generalize lr.getD i 0 = rv at *
          obtain ⟨pid, hpid, hp2⟩ : ∃ pid : Nat, rv.tmod 16 = (pid : Int) ∧ pid ≤ 15 := ⟨(rv.tmod 16).toNat, by rw [Int.tmod_eq_emod_of_nonneg (by omega)]; omega, by rw [Int.tmod_eq_emod_of_nonneg (by omega)]; omega⟩
          obtain ⟨N, hN, hN64⟩ : ∃ N : Nat, rv.tdiv 4 = (N : Int) ∧ N ≤ 64 := ⟨(rv.tdiv 4).toNat, by rw [Int.tdiv_eq_ediv_of_nonneg (by omega)]; omega, by rw [Int.tdiv_eq_ediv_of_nonneg (by omega)]; omega⟩
          have wrv : IntKind.i64.wrap rv = rv := IntWalk.i64_in _ (by omega)
          have wN : IntKind.i64.wrap (N : Int) = (N : Int) := IntWalk.i64_in _ (by omega)
          have wj : IntKind.i64.wrap ((i : Int) + 1) = ((i + 1 : Nat) : Int) := by rw [show ((i + 1 : Nat) : Int) = (i : Int) + 1 by omega]; exact IntWalk.i64_in _ (by have := NM.out; omega)
          have jn : decide (i < m) = true := decide_eq_true him
          have jn' : decide ((i : Int) < (m : Int)) = true := decide_eq_true (by omega)
          have SD := Lib.hid (SB.out.below (Below.refl _ _).drew)
          have RC := Lib.hid (SD.out.run (x := (pid : Int)) (n := N) (by have := NM.out; omega) (by unfold I64i; omega) (by omega))
          have NJ := Lib.hid (And.intro hi (And.intro him (And.intro hn0 hN64)))
          clear xb xlt xc hp2 hN64
          go_upto_region 21 with fail
          clear jn jn'
          refine wp_region_noPanic ?_
          refine wp_region_held_drew (S := (fun w' => w'.cell? (xr.add i) = some (.int .u8 rv))) (by kernel_rfl) ?_ (fun hHeld => ?_)
          · (try dsimp only)
            exact KS.out _ SD.out.bel
          refine wT 0 ?_
          refine wT 1 ?_
          refine wT 2 ?_
          refine wT 3 ?_
          refine wT 4 ?_
          refine wT 5 ?_
          refine wT 6 ?_
          refine wT 7 ?_
          refine wT 8 ?_
          refine wT 9 ?_
          refine wT 10 ?_
          refine wT 11 ?_
          refine wT 12 ?_
          refine wpAnyH_ready (rs := [13]) (by kernel_rfl) (by simp) ?_
          refine rC (fun K hK => ?_) ?_
          · go_simp
            (with_reducible refine Calls.mono RC.out ?_)
            rintro e wb ⟨vb, h2, F2, rfl, se⟩
            have SE := Lib.hid se
            clear se RC
            go_wp2_with fail
            refine hK.out _ _ ?_ (fun hHeld => ?_)
            · (try dsimp only)
              exact KS.out _ SE.out.bel
            clear hK K
            (try simp only [Act.put, lsA, lsZ, lsS])
            refine wpAnyH_done (by kernel_rfl) ?_ _
            refine NoPanic.normal ?_
            go_wp2_with fail
            go_roundw
            case rel => exact ⟨i + 1, n0 + N, h2, F2, by go_num, by have := NJ.out; omega, by have := NJ.out; omega, SE⟩
            case measure => simp [intOf]; have := NJ.out; omega
          exact AllReadyH.nil
        · obtain rfl : i = m := by omega
          clear RR him hi
          have SZ := Lib.hid (hRegs wr hb 256 h F SB.out.ah SB.out.hi.Z (by omega))
          go_wp2_with fail
          refine SZ.out.mono ?_; rintro e wg ⟨Ag, cg, L, rfl, hL, rL, _, bg⟩
          have HI := Lib.hid SB.out.hi
          have SG := Lib.hid (SB.out.below bg)
          have RL := Lib.hid rL
          have HLl := Lib.hid hL
          obtain ⟨nL, hnL⟩ : ∃ nL, nL = L.length := ⟨_, rfl⟩
          rw [← hnL]
          have HNL := Lib.hid hnL
          have hnLb : nL ≤ 9223372036854775807 := by have := rL.1; have := rL.2.1; unfold maxLen at *; omega
          have HREG : Hid (∀ k, k < nL → 0 ≤ (L.getD k (0, 0)).1 ∧ (L.getD k (0, 0)).1 ≤ 16384 ∧ 0 ≤ (L.getD k (0, 0)).2 ∧ (L.getD k (0, 0)).2 ≤ 16384) := Lib.hid (fun k hk => by
            have hm : L.getD k (0, 0) ∈ L := by rw [List.getD_eq_getElem?_getD, List.getElem?_eq_getElem (by omega)]; exact List.getElem_mem _
            obtain ⟨p1, p2, p3, p4⟩ := reg_iff.1 (hL.ri.reg _ hm)
            have := powS_pos p1
            omega)
          have HANY := Lib.hid (fun (a : Nat) (ha : a < 16384) => inRg_all hL SB.out.hi.Z a ha)
          have HSTEP := Lib.hid (fun (a : Int) (k : Nat) (hk : k < nL) => inRg_s L a k (by omega))
          clear hL rL bg hnL SZ SB
          go_wp2_with fail
          go_loopw [15] (fun v wr => ∃ (a : Nat), v = .int .i64 (a : Int) ∧ a ≤ 16384 ∧ Hid (Below wg.heap.size wg wr)) (fun v _ => 16384 - (intOf v).toNat)
          case atStart => exact ⟨0, rfl, by omega, Lib.hid (Below.refl _ _)⟩
          case round =>
            obtain ⟨a, rfl, ha, BA⟩ := hrel
            by_cases hal : a < 16384
            · have haI : (a : Int) < 16384 := by omega
              go_wp2_with fail
              generalize hq : wr = wa at *
              clear hq
              go_loopw [16, 17] (fun u v wr => ∃ (k : Nat), v = .int .i64 (k : Int) ∧ u = .bool (inRg L (a : Int) k) ∧ k ≤ nL ∧ Hid (Below wg.heap.size wg wr)) (fun _ v _ => nL - (intOf v).toNat)
              case atStart => exact ⟨0, rfl, rfl, by omega, BA⟩
              case round =>
                obtain ⟨k, rfl, rfl, hk, BK⟩ := hrel
                by_cases hkl : k < nL
                · obtain ⟨p, hp, hpb, hpc⟩ := (RL.out.below BK.out).2.2.2 (by intro e; have := HNL.out; rw [e] at this; simp at this; omega)
                  subst hp
                  obtain ⟨c0, c1⟩ := hpc k (by rw [← HNL.out]; exact hkl)
                  have hR := HREG.out k hkl
                  have HS := HSTEP.out (a : Int) k hkl
                  have hkI : (k : Int) < (nL : Int) := by omega
                  clear hpc hpb
                  generalize L.getD k (0, 0) = r at *
                  obtain ⟨ra, rb⟩ := r
                  simp only at hR HS c0 c1
                  have wab : IntKind.i64.wrap (ra + rb) = ra + rb := IntWalk.i64_in _ (by omega)
                  obtain ⟨r1, r2, r3, r4⟩ := hR
                  have HS' := Lib.hid HS
                  clear HS
                  cases hA : inRg L (a : Int) k
                  · cases hB : decide (ra ≤ (a : Int))
                    · have HN : Hid (inRg L (a : Int) (k + 1) = false) := Lib.hid (by rw [HS'.out, hA, hB]; rfl)
                      go_wp2_with fail
                      go_quiet (fail)
                      all_goals go_wp2
                      all_goals go_roundw
                      case rel => exact ⟨k + 1, by go_num, by rw [HN.out], hkl, Lib.hid (below_drewN BK.out _)⟩
                      case measure => simp [intOf]; omega
                    · cases hC : decide ((a : Int) < ra + rb)
                      · have HN : Hid (inRg L (a : Int) (k + 1) = false) := Lib.hid (by rw [HS'.out, hA, hB, hC]; rfl)
                        go_wp2_with fail
                        go_quiet (fail)
                        all_goals go_wp2
                        all_goals go_roundw
                        case rel => exact ⟨k + 1, by go_num, by rw [HN.out], hkl, Lib.hid (below_drewN BK.out _)⟩
                        case measure => simp [intOf]; omega
                      · have HN : Hid (inRg L (a : Int) (k + 1) = true) := Lib.hid (by rw [HS'.out, hA, hB, hC]; rfl)
                        go_wp2_with fail
                        go_quiet (fail)
                        all_goals go_wp2
                        all_goals go_roundw
                        case rel => exact ⟨k + 1, by go_num, by rw [HN.out], hkl, Lib.hid (below_drewN BK.out _)⟩
                        case measure => simp [intOf]; omega
                  · have HN : Hid (inRg L (a : Int) (k + 1) = true) := Lib.hid (by rw [HS'.out, hA]; rfl)
                    go_wp2_with fail
                    go_quiet (fail)
                    all_goals go_wp2
                    all_goals go_roundw
                    case rel => exact ⟨k + 1, by go_num, by rw [HN.out], hkl, Lib.hid (below_drewN BK.out _)⟩
                    case measure => simp [intOf]; omega
                · obtain rfl : k = nL := by omega
                  have TC := hThere wr hb h F (a : Int) (SG.out.ah.below BK.out) (by omega)
                  rw [HANY.out a hal, ← HNL.out] at TC
                  replace TC := Lib.hid TC
                  cases hA : inRg L (a : Int) k
                  all_goals
                    rw [hA] at TC
                    go_wp2_with fail
                    refine TC.out.mono ?_; rintro e wt ⟨rfl, rfl⟩
                    go_wp2_with fail
                    go_roundw
                    case rel => exact ⟨a + 1, by go_num, by omega, BK⟩
                    case measure => simp [intOf]; omega
            · obtain rfl : a = 16384 := by omega
              clear HANY HSTEP HREG RL HLl
              go_wp2_with fail
              generalize hq : wr = wb at *
              clear hq
              go_loopw [18] (fun v wr => ∃ (j : Nat), v = .int .i64 (j : Int) ∧ j ≤ 16 ∧ Hid (Below wg.heap.size wg wr)) (fun v _ => 16 - (intOf v).toNat)
              case atStart => exact ⟨0, rfl, by omega, BA⟩
              case round =>
                obtain ⟨j, rfl, hj, BJ⟩ := hrel
                by_cases hjl : j < 16
                · have SJ := Lib.hid (SG.out.below BJ.out)
                  have BC := Lib.hid (hBytes wr hb 256 h F (j : Int) SJ.out.ah SJ.out.hi.Z (by unfold I64i; omega))
                  have hjI : (j : Int) < 16 := by omega
                  go_wp2_with fail
                  refine BC.out.mono ?_; rintro e wc ⟨bc, ⟨k, s, hk, hs, A5, c5, rfl, r5, n5⟩ | ⟨hno, rfl⟩⟩
                  · obtain rfl : k = j := by omega
                    have SC := Lib.hid (SJ.out.below bc)
                    have BC2 := Lib.hid (bel_then BJ.out bc)
                    have hsz := SJ.out.sz k s hs
                    have HBY := Lib.hid (fun i (hi : i < 512) => SJ.out.byte hs i hi)
                    obtain ⟨Ac, cc, hcs, rc, _⟩ := SC.out.cd k s hs
                    have hcell := SC.out.ar.cell k
                    rw [hcs] at hcell
                    have RC := Lib.hid rc
                    have R5 := Lib.hid r5
                    have HL5 : Hid ((bytesO h s).length = 1024) := Lib.hid (by rw [bytesO_len SJ.out.hi.Z hs, hsz])
                    rw [hsz]
                    have HCB := Lib.hid (fun i (hi : s.code.length ≤ i) => code_beyond s.code i hi)
                    obtain ⟨nc, hnc⟩ : ∃ nc, nc = s.code.length := ⟨_, rfl⟩
                    rw [← hnc] at hcell HCB
                    have HNC := Lib.hid hnc
                    have HCE := Lib.hid hcell
                    have hncb : nc ≤ 9223372036854775807 := by have := rc.1; have := rc.2.1; unfold maxLen at *; omega
                    clear hcs rc r5 n5 bc hnc hcell hk hs BC hsz
                    go_wp2_with fail
                    go_loopw [21] (fun v wr => ∃ (i : Nat), v = .int .i64 (i : Int) ∧ i ≤ 512 ∧ Hid (Below wc.heap.size wc wr)) (fun v _ => 512 - (intOf v).toNat)
                    case atStart => exact ⟨0, rfl, by omega, Lib.hid (Below.refl _ _)⟩
                    case round =>
                      obtain ⟨i, rfl, hi, BI⟩ := hrel
                      by_cases hil : i < 512
                      · have hiI : (i : Int) < 512 := by omega
                        obtain ⟨y, hy, hyb, hyc⟩ := (R5.out.below BI.out).2.2.2 (by intro e; have := HL5.out; rw [e] at this; simp at this)
                        subst hy
                        have e5 := hyc i (by rw [HL5.out]; omega)
                        rw [HBY.out i hil] at e5
                        have ce := ((SC.out.ar.below BI.out).cell k).trans ((SC.out.ar.cell k).symm.trans HCE.out)
                        clear hyc hyb
                        have hi1024 : (i : Int) < 1024 := by omega
                        by_cases hin : i < nc
                        · obtain ⟨x, hx, hxb, hxc⟩ := (RC.out.below BI.out).2.2.2 (by intro e; have := HNC.out; rw [e] at this; simp at this; omega)
                          subst hx
                          have e6 := hxc i (by rw [← HNC.out]; exact hin)
                          have hinI : (i : Int) < (nc : Int) := by omega
                          clear hxc hxb
                          generalize s.code.getD i 0 = v at *
                          go_wp2_with fail
                          go_roundw
                          case rel => exact ⟨i + 1, by go_num, by omega, BI⟩
                          case measure => simp [intOf]; omega
                        · have h0 := HCB.out i (by omega)
                          rw [h0] at e5
                          have hinI : (nc : Int) ≤ (i : Int) := by omega
                          clear h0
                          go_wp2_with fail
                          go_roundw
                          case rel => exact ⟨i + 1, by go_num, by omega, BI⟩
                          case measure => simp [intOf]; omega
                      · obtain rfl : i = 512 := by omega
                        go_wp2_with fail
                        go_roundw
                        case rel => (repeat apply Exists.intro); exact ⟨⟨k + 1, by go_num, by omega, Lib.hid (bel_then BC2.out BI.out)⟩, rfl⟩
                        case measure => simp [intOf]; omega
                  · have BC2 := Lib.hid (bel_then BJ.out bc)
                    clear bc BC
                    go_wp2_with fail
                    go_roundw
                    case rel => (repeat apply Exists.intro); exact ⟨⟨j + 1, by go_num, by omega, BC2⟩, rfl⟩
                    case measure => simp [intOf]; omega
                · obtain rfl : j = 16 := by omega
                  go_wp2_with fail
                  go_ret
                  exact ⟨rfl, bel_then SG.out.bel BJ.out⟩
theorem wholeSafe_walk (A : Option Addr) (n ca : Nat) (B : Option Addr) (cb : Nat) (lr : List Int) (w : World) (rA : RowsB w A n ca) (rr : RowAt w B cb lr) :
    Calls Tryz.prog 4 #[.slice A n ca, .slice B lr.length cb] w fun e w' => e = .returned (.bool true) ∧ Below w.heap.size w w' := by
  by_cases hs : n ≤ 6 ∧ lr.length ≤ 40
  · exact safe_main A B n ca lr.length cb lr rfl hs.1 hs.2 w rA rr
  · exact safe_skip A B n ca lr.length cb w hs
end Go.Proofs.YteefmjhemhlapaaGreat.Mm
