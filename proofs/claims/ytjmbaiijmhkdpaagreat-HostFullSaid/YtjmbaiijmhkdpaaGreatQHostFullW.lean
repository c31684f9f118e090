/- The statement HostFull, walked. -/
import Derived.Test.YtjmbaiijmhkdpaaGreatQHostFill
namespace Go.Proofs.YtjmbaiijmhkdpaaGreat.Mm
open Go.ChangeShapes Go.WideShapes Go.ChangeAt Go.RowKit
set_option linter.unusedVariables false
set_option linter.unusedSimpArgs false
set_option maxRecDepth 10000
set_option maxHeartbeats 4000000
theorem full_skip (A : Option Addr) (ca c : Nat) (v : Int) (h : 96 < c) (w : World) :
    Calls Tryz.prog 6 #[.slice A c ca, .int .u8 v] w fun e w' => e = .returned (.bool true) ∧ Below w.heap.size w w' := by
  have q : decide ((96 : Int) < (c : Int)) = true := decide_eq_true (by omega)
  go_enter Tryz.func6, Tryz.ntmps6
  go_wp2_with fail
  refine (awake14 _).mono ?_; rintro e w1 ⟨rfl, b1⟩
  have B1 := Lib.hid b1; clear b1
  dsimp only
  go_wp2_with fail
  refine (awake14 _).mono ?_; rintro e w2 ⟨rfl, b2⟩
  have B2 := Lib.hid (bel_then B1.out b2); clear b2
  dsimp only
  go_wp2
  go_ret
  exact ⟨rfl, B2.out⟩
structure FlS (w : World) (hb k : Nat) (h : Ho) (F : Nat → Prop) (A3 : Option Addr) (c3 : Nat) (l : List Int) (wr : World) : Prop where
  a : HAt wr hb h F
  f : FullH 1024 128 k h
  r : RowAt wr A3 c3 l
  lo : ∀ i, F i → w.heap.size ≤ i
  of_ : ∀ a, A3 = some a → ¬ F a.block
  b : Below w.heap.size w wr
theorem FlS.next {w wr w' : World} {hb k : Nat} {h h' : Ho} {F F' : Nat → Prop} {A3 : Option Addr} {c3 k' : Nat} {l : List Int} (s : FlS w hb k h F A3 c3 l wr) (hl : 0 < l.length) (a' : HAt w' hb h' F') (f' : FullH 1024 128 k' h') (c : ChF F wr w') (sb : SubF wr F F') : FlS w hb k' h' F' A3 c3 l w' :=
  ⟨a', f', s.r.chF c (.inr (fun a ha => s.of_ a ha)), fun i hi => (sb i hi).elim (s.lo i) (fun h => Nat.le_trans s.b.size h), fun a ha hi => (sb _ hi).elim (s.of_ a ha) (fun h => row_lt s.r hl ha h), Below.trans s.b (c.below s.lo s.b.size)⟩
theorem FlS.below {w wr w' : World} {hb k : Nat} {h : Ho} {F : Nat → Prop} {A3 : Option Addr} {c3 : Nat} {l : List Int} (s : FlS w hb k h F A3 c3 l wr) (b : Below wr.heap.size wr w') : FlS w hb k h F A3 c3 l w' :=
  ⟨s.a.below b, s.f, s.r.below b, s.lo, s.of_, bel_then s.b b⟩
set_option maxHeartbeats 16000000 in
theorem full_main (A : Option Addr) (ca c : Nat) (C : List Int) (n : Nat) (hc : C.length = c) (h : c ≤ 96) (hn : n ≤ 255) (w : World) (rA : RowAt w A ca C) :
    Calls Tryz.prog 6 #[.slice A c ca, .int .u8 (n : Int)] w fun e w' => e = .returned (.bool true) ∧ Below w.heap.size w w' := by
  have q : decide ((96 : Int) < (c : Int)) = false := decide_eq_false (by omega)
  have wn : IntKind.i64.wrap (n : Int) = (n : Int) := IntWalk.i64_in _ (by omega)
  have tn : ((n : Int)).tmod 16 = ((n % 16 : Nat) : Int) := by rw [Int.tmod_eq_emod_of_nonneg (by omega)]; omega
  have hm16 : n % 16 < 16 := by omega
  obtain ⟨m, hm⟩ : ∃ m, n % 16 = m := ⟨_, rfl⟩
  rw [hm] at tn hm16
  have M16 := Lib.hid hm16
  clear hm hm16
  have HP2 : Hid (powS ((2 * 128 : Nat) : Int) = true) := Lib.hid (by decide)
  have NC := Lib.hid (fun w' => hNew 1024 (by omega) (by omega) w')
  rw [show (((64 * 1024 : Nat)) : Int) = 65536 from rfl] at NC
  have BY := Lib.hid (fun w' (b : Below w.heap.size w w') => bytes14n A ca c C hc (by omega) w' (rA.below b))
  have LB : Hid (Bytes (layL C D8) ∧ (layL C D8).length = c + 20 ∧ c ≤ 96) := Lib.hid ⟨layL_byte rA.2.2.1 D8_b (by omega) (by decide), by rw [layL_len, hc]; show 12 + c + 8 = _; omega, h⟩
  have DD : Hid ((dataL (layL C D8)).length = 8) := Lib.hid (by rw [lay_data]; rfl)
  have CC : Hid (codeI (layL C D8) = C ∧ C.length = c) := Lib.hid ⟨lay_code C D8, hc⟩
  clear rA hc h hn
  obtain ⟨l, hl⟩ : ∃ l, layL C D8 = l := ⟨_, rfl⟩
  rw [hl] at LB BY DD CC
  clear hl
  go_enter Tryz.func6, Tryz.ntmps6
  go_wp2_with fail
  refine (awake14 _).mono ?_; rintro e w1 ⟨rfl, b1⟩
  have B1 := Lib.hid b1; clear b1
  dsimp only
  go_wp2_with fail
  refine (NC.out _).mono ?_; rintro e w2 ⟨hb, F, rfl, at2, hF, b2⟩
  have AT2 := Lib.hid at2
  have B2 := Lib.hid (bel_then B1.out b2)
  have FF2 := Lib.hid (And.intro (fun i (hi : F i) => Nat.le_trans B1.out.size (hF i hi)) (fun i (hi : F i) => at2.lim i hi))
  clear at2 hF b2 NC
  dsimp only
  go_wp2_with fail
  refine (BY.out _ B2.out).mono ?_; rintro e w3 ⟨A3, c3, rfl, r3, b3, n3⟩
  obtain ⟨h0, hh0⟩ : ∃ h0, newO 1024 = h0 := ⟨_, rfl⟩
  have FU0 : Hid (FullH 1024 128 0 h0) := Lib.hid (hh0 ▸ FullH.start 1024 128)
  rw [hh0] at AT2
  clear hh0
  have S3 : Hid (FlS w hb 0 h0 F A3 c3 l w3) := Lib.hid ⟨AT2.out.below b3, FU0.out, r3, FF2.out.1, fun a ha hi => (by have := FF2.out.2 _ hi; have := n3 a ha; omega), bel_then B2.out b3⟩
  clear r3 b3 n3 AT2 B1 B2 FF2 BY FU0
  have LD := Lib.hid (hLoad w3 hb 1024 h0 F A3 c3 (c + 20) l 256 none 0 0 [] S3.out.a S3.out.f.Z (by omega) (by omega) S3.out.r LB.out.2.1 (by have := LB.out.2.2; omega) (by decide) (kRow_nil _ w3) rfl (by omega))
  dsimp only
  go_wp2_with fail
  refine LD.out.mono ?_; rintro e w4 hq
  rcases hq with ⟨hne, rfl, at4, b4⟩ | ⟨hE, k, b, hf', hk, hs, hb2, rfl, F4, at4, ch4, sb4⟩
  · have S4 := Lib.hid (S3.out.below b4)
    obtain ⟨E, hEE⟩ : ∃ E, loadE 1024 h0 (imgE l) (codeI l) (dataL l) 256 = E := ⟨_, rfl⟩
    rw [hEE] at hne ⊢
    have q2 : (E != 0) = true := by simpa using hne
    clear hEE hne b4 LD at4
    dsimp only
    go_wp2
    go_ret
    exact ⟨rfl, S4.out.b⟩
  · have OK0 := Lib.hid (ld_ok S3.out.f.Z hE hk hs hb2)
    obtain ⟨rfl, rfl, rfl⟩ := full_at S3.out.f (by omega) HP2.out (by omega) hk hs hb2
    have CL : Hid (imgE l = 0 ∧ (codeI l).length + 32 ≤ 128 ∧ (dataL l).length ≤ 128 ∧ Bytes (codeI l) ∧ Bytes (dataL l)) := Lib.hid ⟨OK0.out.e, OK0.out.c, OK0.out.d, code_bytes LB.out.1, data_bytes LB.out.1⟩
    have S4 := Lib.hid (S3.out.next (by rw [LB.out.2.1]; omega) at4 (S3.out.f.next (code := codeI l) (data := dataL l) (rep := []) (by omega) HP2.out (by omega) CL.out.2.2.2.1 CL.out.2.2.2.2 (by have := CL.out.2.1; omega) CL.out.2.2.1) ch4 sb4)
    obtain ⟨h1, hh1⟩ : ∃ h1, loadO h0 0 ((2 * 0 + 1) * (2 * 128)) 128 (codeI l) (dataL l) [] = h1 := ⟨_, rfl⟩
    rw [hh1] at S4
    clear hE hk hs hb2 at4 ch4 sb4 LD S3 OK0 hh1
    dsimp only
    go_wp2_with fail
    go_loopw [10] (fun v wr => ∃ (k : Nat) (h : Ho) (F : Nat → Prop), v = .int .i64 (k : Int) ∧ 1 ≤ k ∧ k ≤ 16 ∧ Hid (FlS w hb k h F A3 c3 l wr)) (fun v _ => 16 - (intOf v).toNat)
    case atStart => exact ⟨1, h1, F4, rfl, by omega, by omega, S4⟩
    case round =>
      obtain ⟨k, h, F5, rfl, hk1, hk2, S5⟩ := hrel
      clear S4
      by_cases hk16 : k < 16
      · have t1 : decide ((k : Int) < 16) = true := decide_eq_true (by omega)
        have t1' : decide (k < 16) = true := decide_eq_true hk16
        have wk : IntKind.i64.wrap ((k : Int) + 1) = ((k + 1 : Nat) : Int) := by rw [show ((k + 1 : Nat) : Int) = (k : Int) + 1 by omega]; exact IntWalk.i64_in _ (by omega)
        have LD := Lib.hid (hLoad wr hb 1024 h F5 A3 c3 (c + 20) l 256 none 0 0 [] S5.out.a S5.out.f.Z (by omega) (by omega) S5.out.r LB.out.2.1 (by have := LB.out.2.2; omega) (by decide) (kRow_nil _ wr) rfl (by omega))
        have K := Lib.hid (And.intro hk1 hk16)
        clear hk1 hk2
        go_wp2_with fail
        refine LD.out.mono ?_; rintro e w5 hq
        rcases hq with ⟨hne, _⟩ | ⟨hE, k', b, hf, hk, hs, hb2, rfl, F6, at6, ch6, sb6⟩
        · exact absurd (full_e S5.out.f K.out.2 HP2.out (by have := K.out.2; omega) CL.out.1 CL.out.2.1 CL.out.2.2.1) hne
        · obtain ⟨rfl, rfl, rfl⟩ := full_at S5.out.f K.out.2 HP2.out (by have := K.out.2; omega) hk hs hb2
          have S6 := Lib.hid (S5.out.next (by rw [LB.out.2.1]; omega) at6 (S5.out.f.next (code := codeI l) (data := dataL l) (rep := []) K.out.2 HP2.out (by have := K.out.2; omega) CL.out.2.2.2.1 CL.out.2.2.2.2 (by have := CL.out.2.1; omega) CL.out.2.2.1) ch6 sb6)
          obtain ⟨h6, hh6⟩ : ∃ h6, loadO h k' ((2 * k' + 1) * (2 * 128)) 128 (codeI l) (dataL l) [] = h6 := ⟨_, rfl⟩
          rw [hh6] at S6
          clear hE hk hs hb2 at6 ch6 sb6 LD hh6 S5
          dsimp only
          go_wp2_with fail
          go_roundw
          case rel => exact ⟨k' + 1, h6, F6, by go_num, by omega, by have := K.out; omega, S6⟩
          case measure => simp [intOf]; have := K.out; omega
      · obtain rfl : k = 16 := by omega
        clear hk1 hk2 hk16
        have LD := Lib.hid (hLoad wr hb 1024 h F5 A3 c3 (c + 20) l 256 none 0 0 [] S5.out.a S5.out.f.Z (by omega) (by omega) S5.out.r LB.out.2.1 (by have := LB.out.2.2; omega) (by decide) (kRow_nil _ wr) rfl (by omega))
        have LE7 := Lib.hid (S5.out.f.loadFull HP2.out (codeI l) (dataL l) CL.out.2.1 CL.out.2.2.1)
        go_wp2_with fail
        refine LD.out.mono ?_; rintro e w5 hq
        rcases hq with ⟨_, rfl, at5, b5⟩ | ⟨hE, _⟩
        · rw [CL.out.1, show (256 : Int) = ((2 * 128 : Nat) : Int) from rfl, LE7.out]
          have S6 := Lib.hid (S5.out.below b5)
          clear at5 b5 LD S5
          obtain ⟨s0, hs0, hsb, hsf⟩ := S6.out.f.lo m M16.out
          have HS0 := Lib.hid hs0
          have KC := Lib.hid (hKill w5 hb 1024 h F5 (m : Int) S6.out.a S6.out.f.Z (by have := M16.out; unfold I64i; omega))
          clear hs0 hsb hsf
          dsimp only
          go_wp2_with fail
          refine KC.out.mono ?_; rintro e w6 (⟨k, s', hk, hs', rfl, at7, ch7⟩ | ⟨hno, _⟩)
          · obtain rfl : k = m := by omega
            obtain rfl := Ho.one hs' HS0.out
            have FU := S6.out.f
            have LE0 := Lib.hid (FU.loadAgain (by omega) M16.out HP2.out hs' (codeI l) (dataL l) CL.out.2.1 CL.out.2.2.1)
            have GAP := Lib.hid (FU.gap (by omega) M16.out HP2.out hs')
            have FU9 := Lib.hid (FU.again (by omega) M16.out HP2.out hs' (code := codeI l) (data := dataL l) (rep := []) CL.out.2.2.2.1 CL.out.2.2.2.2 (by have := CL.out.2.1; omega) CL.out.2.2.1)
            have KZ := Lib.hid (FU.Z.kill hs')
            have R7 := Lib.hid (S6.out.r.chF ch7 (.inr (fun a ha => S6.out.of_ a ha)))
            have AT7 := Lib.hid at7
            have B7 := Lib.hid (Below.trans S6.out.b (ch7.below S6.out.lo S6.out.b.size))
            have LO7 := Lib.hid S6.out.lo
            obtain ⟨h7, hh7⟩ : ∃ h7, killO h k s' = h7 := ⟨_, rfl⟩
            rw [hh7] at LE0 GAP FU9 KZ AT7
            clear hk hs' at7 ch7 KC FU S6 HS0 hh7
            have LD := Lib.hid (hLoad w6 hb 1024 h7 F5 A3 c3 (c + 20) l 256 none 0 0 [] AT7.out KZ.out (by omega) (by omega) R7.out LB.out.2.1 (by have := LB.out.2.2; omega) (by decide) (kRow_nil _ w6) rfl (by omega))
            dsimp only
            go_wp2_with fail
            refine LD.out.mono ?_; rintro e w8 hq
            rcases hq with ⟨hne, _⟩ | ⟨hE, k9, b, hf9, hk, hs, hb2, rfl, F8, at8, ch8, sb8⟩
            · exact absurd (by rw [CL.out.1]; exact LE0.out) hne
            · obtain ⟨g1, g2, g3, g4⟩ := GAP.out
              obtain rfl : k9 = k := by rw [g3] at hk; injection hk with hk; exact hk.symm
              obtain rfl : hf9 = 128 := by omega
              have hb3 : b = (2 * k9 + 1) * (2 * 128) := by
                rw [show (256 : Int) = ((2 * 128 : Nat) : Int) from rfl, g4] at hb2
                exact (Int.ofNat.inj hb2).symm
              subst hb3
              have AT8 := Lib.hid at8
              have B8 := Lib.hid (Below.trans B7.out (ch8.below LO7.out B7.out.size))
              obtain ⟨h8, hh8⟩ : ∃ h8, loadO h7 k9 ((2 * k9 + 1) * (2 * 128)) 128 (codeI l) (dataL l) [] = h8 := ⟨_, rfl⟩
              rw [hh8] at FU9 AT8
              clear g1 g2 g3 g4 hE hk hs hb2 at8 ch8 sb8 LD AT7 R7 B7 GAP LE0 hh8 KZ
              have RC := Lib.hid (hRegs w8 hb 1024 h8 F8 AT8.out FU9.out.Z (by omega))
              have RN := Lib.hid (fun L (R : RegsL 1024 h8 L) => (by rw [R.one (FU9.out.row (by omega) HP2.out (.inr (by omega)))]; exact full_len _ _ : L.length = 16))
              dsimp only
              go_wp2_with fail
              refine RC.out.mono ?_; rintro e w9 ⟨A9, c9, L9, rfl, rl, rr, rn, b9⟩
              have hL := RN.out L9 rl
              rw [hL]
              have AT9 := Lib.hid (AT8.out.below b9)
              have B9 := Lib.hid (bel_then B8.out b9)
              clear rl rr rn b9 RC AT8 B8 hL
              have RC := Lib.hid (hRegs w9 hb 1024 h8 F8 AT9.out FU9.out.Z (by omega))
              dsimp only
              go_wp2_with fail
              refine RC.out.mono ?_; rintro e w10 ⟨A10, c10, L10, rfl, rl, rr, rn, b10⟩
              have hL := RN.out L10 rl
              have RT := Lib.hid (right_code A10 c10 L10.length L10 65536 rfl (by rw [hL]; omega) (by unfold I64r; omega) w10 rr)
              rw [show rgtB L10 65536 = true from rgt_iff.2 rl.ri, hL] at RT
              rw [hL]
              have B10 := Lib.hid (bel_then B9.out b10)
              clear rl rr rn b10 RC AT9 B9 hL
              dsimp only
              go_wp2_with fail
              refine RT.out.mono ?_; rintro e w11 ⟨rfl, b11⟩
              have B11 := Lib.hid (bel_then B10.out b11)
              clear b11
              dsimp only
              go_wp2_with fail
              go_ret
              exact ⟨rfl, B11.out⟩
          · exact absurd HS0.out (hno m _ rfl)
        · exact absurd hE (by rw [CL.out.1, show (256 : Int) = ((2 * 128 : Nat) : Int) from rfl, LE7.out]; decide)
theorem hostFull_walk (A : Option Addr) (ca : Nat) (C : List Int) (v : Int) (w : World) (rA : RowAt w A ca C) (wv : (Lit.int .u8 v).wf = true) :
    Calls Tryz.prog 6 #[.slice A C.length ca, .int .u8 v] w fun e w' => e = .returned (.bool true) ∧ Below w.heap.size w w' := by
  have hv := u8_bd wv
  obtain ⟨n, rfl⟩ : ∃ n : Nat, v = n := ⟨v.toNat, by omega⟩
  by_cases h : 96 < C.length
  · exact full_skip A ca _ _ h w
  · exact full_main A ca _ C n rfl (by omega) (by omega) w rA
end Go.Proofs.YtjmbaiijmhkdpaaGreat.Mm
