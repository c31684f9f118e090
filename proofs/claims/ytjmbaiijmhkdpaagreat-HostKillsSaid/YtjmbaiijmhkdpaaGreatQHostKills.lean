/- The statement HostKills, walked. -/
import Derived.Test.YtjmbaiijmhkdpaaGreatQHostFill
namespace Go.Proofs.YtjmbaiijmhkdpaaGreat.Mm
open Go.ChangeShapes Go.WideShapes Go.ChangeAt Go.RowKit
set_option linter.unusedVariables false
set_option linter.unusedSimpArgs false
set_option maxRecDepth 10000
set_option maxHeartbeats 4000000
theorem kills_skip (A : Option Addr) (ca c : Nat) (u v : Int) (h : 300 < c) (w : World) :
    Calls Tryz.prog 5 #[.slice A c ca, .int .u8 u, .int .u8 v] w fun e w' => e = .returned (.bool true) ∧ Below w.heap.size w w' := by
  have q : decide ((300 : Int) < (c : Int)) = true := decide_eq_true (by omega)
  go_enter Tryz.func5, Tryz.ntmps5
  go_wp2_with fail
  refine (awake14 _).mono ?_; rintro e w1 ⟨rfl, b1⟩
  have B1 := Lib.hid b1; clear b1
  dsimp only
  go_wp2_with fail
  refine (awake14 _).mono ?_; rintro e w2 ⟨rfl, b2⟩
  have B2 := Lib.hid (bel_then B1.out b2); clear b2
  dsimp only
  go_wp2
  go_ret
  exact ⟨rfl, B2.out⟩
set_option maxHeartbeats 32000000 in
theorem kills_main (A : Option Addr) (ca c : Nat) (C : List Int) (u : Int) (n : Nat) (size : Int) (hf : Nat) (hs0 : size = ((2 * hf : Nat) : Int)) (hc : C.length = c) (h : c ≤ 300) (hn : n ≤ 255) (hp : powS size = true) (hf5 : 64 ≤ hf ∧ hf ≤ 512) (w : World) (rA : RowAt w A ca C)
    (hsh : ∀ w : World, (Op.shift BinOp.shl IntKind.i64 128 IntKind.u8 (u.tmod 4)).run Tryz.prog w = .ok (.int .i64 size) w) :
    Calls Tryz.prog 5 #[.slice A c ca, .int .u8 u, .int .u8 (n : Int)] w fun e w' => e = .returned (.bool true) ∧ Below w.heap.size w w' := by
  have q : decide ((300 : Int) < (c : Int)) = false := decide_eq_false (by omega)
  have wn : IntKind.i64.wrap (n : Int) = (n : Int) := IntWalk.i64_in _ (by omega)
  have NC := Lib.hid (fun w' => hNew 256 (by omega) (by omega) w')
  rw [show (((64 * 256 : Nat)) : Int) = 16384 from rfl] at NC
  have BY := Lib.hid (fun w' (b : Below w.heap.size w w') => bytes14 A ca c C hc (by omega) w' (rA.below b))
  have LB : Hid (Bytes (layL C D8) ∧ (layL C D8).length = c + 20 ∧ c ≤ 300) := Lib.hid ⟨layL_byte rA.2.2.1 D8_b (by omega) (by decide), by rw [layL_len, hc]; show 12 + c + 8 = _; omega, h⟩
  have DD : Hid ((dataL (layL C D8)).length = 8) := Lib.hid (by rw [lay_data]; rfl)
  have HN := Lib.hid hn
  have SP := Lib.hid (And.intro hp (And.intro hs0 hf5))
  have HP2 : Hid (powS ((2 * hf : Nat) : Int) = true) := Lib.hid (hs0 ▸ hp)
  clear rA hc h hn hp hs0 hf5
  obtain ⟨l, hl⟩ : ∃ l, layL C D8 = l := ⟨_, rfl⟩
  rw [hl] at LB BY DD
  clear hl
  go_enter Tryz.func5, Tryz.ntmps5
  go_wp2_with fail
  refine (awake14 _).mono ?_; rintro e w1 ⟨rfl, b1⟩
  have B1 := Lib.hid b1; clear b1
  dsimp only
  go_wp2_with fail
  refine (BY.out _ B1.out).mono ?_; rintro e w2 ⟨A3, c3, rfl, r3, b3⟩
  have R2 := Lib.hid r3
  have B2 := Lib.hid (bel_then B1.out b3)
  clear r3 b3 BY B1
  dsimp only
  go_wp2_with fail
  refine (NC.out _).mono ?_; rintro e w3 ⟨hb, F, rfl, at3, hF, b3⟩
  have AT3 := Lib.hid at3
  have R3 := Lib.hid (R2.out.below b3)
  have B3 := Lib.hid (bel_then B2.out b3)
  have FF := Lib.hid (fun i (hi : F i) => Nat.le_trans B2.out.size (hF i hi))
  have OF := Lib.hid (fun a (ha : A3 = some a) (hi : F a.block) => (row_lt R2.out (by rw [LB.out.2.1]; omega) ha (hF _ hi) : False))
  clear at3 hF b3 NC R2 B2
  obtain ⟨h0, hh0⟩ : ∃ h0, newO 256 = h0 := ⟨_, rfl⟩
  have HI0 : Hid (HoI 256 0 h0) := Lib.hid (hh0 ▸ newO_i 256 0)
  have FU0 : Hid (FullH 256 hf 0 h0) := Lib.hid (hh0 ▸ FullH.start 256 hf)
  rw [hh0] at AT3
  clear hh0
  have LD := Lib.hid (hLoad w3 hb 256 h0 F A3 c3 (c + 20) l size none 0 0 [] AT3.out HI0.out.Z (by omega) (by omega) R3.out LB.out.2.1 (by have := LB.out.2.2; omega) SP.out.1 (kRow_nil _ w3) rfl (by omega))
  dsimp only
  go_wp2_with fail
  refine LD.out.mono ?_; rintro e w4 hq
  rcases hq with ⟨hne, rfl, at4, b4⟩ | ⟨hE, k, b, hf', hk, hs, hb2, rfl, F4, at4, ch4, sb4⟩
  · have B4 := Lib.hid (bel_then B3.out b4)
    have RC := Lib.hid (hRegs w4 hb 256 h0 F at4 HI0.out.Z (by omega))
    have RN := Lib.hid (fun L (R : RegsL 256 h0 L) => (R.one (FU0.out.row (by omega) HP2.out (.inl rfl)) : L = fullL ((2 * hf : Nat) : Int) 0))
    obtain ⟨E, hEE⟩ : ∃ E, loadE 256 h0 (imgE l) (codeI l) (dataL l) size = E := ⟨_, rfl⟩
    rw [hEE] at hne ⊢
    have q2 : (E != 0) = true := by simpa using hne
    clear hEE hne b4 LD at4
    dsimp only
    go_wp2_with fail
    refine RC.out.mono ?_; rintro e w5 ⟨A5, c5, L, rfl, rl, rr, rn, b5⟩
    have hL : L = [] := RN.out L rl
    subst hL
    have B5 := Lib.hid (bel_then B4.out b5)
    clear rl rr rn b5 RC RN
    dsimp only [List.length_nil]
    go_wp2
    go_ret
    exact ⟨rfl, B5.out⟩
  · have OK0 := Lib.hid (ld_ok HI0.out.Z hE hk hs hb2)
    obtain ⟨rfl, rfl, rfl⟩ := full_at FU0.out (by omega) HP2.out (by have := SP.out.2.2; omega) hk (SP.out.2.1 ▸ hs) (SP.out.2.1 ▸ hb2)
    have CL : Hid (imgE l = 0 ∧ (codeI l).length + 32 ≤ hf' ∧ (dataL l).length ≤ hf' ∧ Bytes (codeI l) ∧ Bytes (dataL l)) := Lib.hid ⟨OK0.out.e, OK0.out.c, OK0.out.d, code_bytes LB.out.1, data_bytes LB.out.1⟩
    have HI1 := Lib.hid (OK0.out.i HI0.out (by omega) LB.out.1 (rep := []) (fun v hv => by cases hv) (by simp))
    have FU1 := Lib.hid (FU0.out.next (code := codeI l) (data := dataL l) (rep := []) (by omega) HP2.out (by have := SP.out.2.2; omega) CL.out.2.2.2.1 CL.out.2.2.2.2 (by have := CL.out.2.1; omega) CL.out.2.2.1)
    have AT4 := Lib.hid at4
    have R4 := Lib.hid (R3.out.chF ch4 (.inr (fun a ha hi => OF.out a ha hi)))
    have OF4 := Lib.hid (fun a (ha : A3 = some a) (hi : F4 a.block) => ((sb4 _ hi).elim (OF.out a ha) (fun h9 => row_lt R3.out (by rw [LB.out.2.1]; omega) ha h9) : False))
    have B4 := Lib.hid (Below.trans B3.out (ch4.below FF.out B3.out.size))
    have FF4 := Lib.hid (fun i (hi : F4 i) => (sb4 i hi).elim (FF.out i) (fun h => Nat.le_trans B3.out.size h))
    clear hE hk hs hb2 at4 ch4 sb4 LD AT3 FF R3 OF B3
    obtain ⟨h1, hh1⟩ : ∃ h1, loadO h0 0 ((2 * 0 + 1) * (2 * hf')) hf' (codeI l) (dataL l) [] = h1 := ⟨_, rfl⟩
    rw [hh1] at HI1 FU1 AT4
    clear hh1 OK0 HI0 FU0
    -- the second
    have LD := Lib.hid (hLoad w4 hb 256 h1 F4 A3 c3 (c + 20) l size none 0 0 [] AT4.out HI1.out.Z (by omega) (by omega) R4.out LB.out.2.1 (by have := LB.out.2.2; omega) SP.out.1 (kRow_nil _ w4) rfl (by omega))
    dsimp only
    go_wp2_with fail
    refine LD.out.mono ?_; rintro e w5 hq
    rcases hq with ⟨hne, _⟩ | ⟨hE, k, b, hf, hk, hs, hb2, rfl, F5, at5, ch5, sb5⟩
    · exact absurd (SP.out.2.1 ▸ full_e FU1.out (by omega) HP2.out (by have := SP.out.2.2; omega) CL.out.1 CL.out.2.1 CL.out.2.2.1) hne
    · have OK1 := Lib.hid (ld_ok HI1.out.Z hE hk hs hb2)
      obtain ⟨rfl, rfl, rfl⟩ := full_at FU1.out (by omega) HP2.out (by have := SP.out.2.2; omega) hk (SP.out.2.1 ▸ hs) (SP.out.2.1 ▸ hb2)
      have HI2 := Lib.hid (OK1.out.i HI1.out (by omega) LB.out.1 (rep := []) (fun v hv => by cases hv) (by simp))
      have FU2 := Lib.hid (FU1.out.next (code := codeI l) (data := dataL l) (rep := []) (by omega) HP2.out (by have := SP.out.2.2; omega) CL.out.2.2.2.1 CL.out.2.2.2.2 (by have := CL.out.2.1; omega) CL.out.2.2.1)
      have AT5 := Lib.hid at5
      have R5 := Lib.hid (R4.out.chF ch5 (.inr (fun a ha hi => OF4.out a ha hi)))
      have OF5 := Lib.hid (fun a (ha : A3 = some a) (hi : F5 a.block) => ((sb5 _ hi).elim (OF4.out a ha) (fun h9 => row_lt R4.out (by rw [LB.out.2.1]; omega) ha h9) : False))
      have B5 := Lib.hid (Below.trans B4.out (ch5.below FF4.out B4.out.size))
      have FF5 := Lib.hid (fun i (hi : F5 i) => (sb5 i hi).elim (FF4.out i) (fun h => Nat.le_trans B4.out.size h))
      clear hE hk hs hb2 at5 ch5 sb5 LD AT4 FF4 R4 OF4 B4
      obtain ⟨h2, hh2⟩ : ∃ h2, loadO h1 1 ((2 * 1 + 1) * (2 * hf)) hf (codeI l) (dataL l) [] = h2 := ⟨_, rfl⟩
      rw [show (0 + 1 : Nat) = 1 from rfl] at *
      rw [hh2] at HI2 FU2 AT5
      clear hh2 OK1 HI1 FU1
      -- the regions
      have RC := Lib.hid (hRegs w5 hb 256 h2 F5 AT5.out HI2.out.Z (by omega))
      have RN := Lib.hid (fun L (R : RegsL 256 h2 L) => (R.one (FU2.out.row (by omega) HP2.out (.inr (by have := SP.out.2.2; omega))) : L = fullL ((2 * hf : Nat) : Int) 2))
      dsimp only
      go_wp2_with fail
      refine RC.out.mono ?_; rintro e w6 ⟨A6, c6, L6, rfl, rl, rr, rn, b6⟩
      have hL := RN.out L6 rl
      rw [show (fullL ((2 * hf : Nat) : Int) 2) = [((2 * (0 : Nat) + 1) * ((2 * hf : Nat) : Int), ((2 * hf : Nat) : Int)), ((2 * (1 : Nat) + 1) * ((2 * hf : Nat) : Int), ((2 * hf : Nat) : Int))] from rfl] at hL
      subst hL
      have WR6 := Lib.hid rr
      have WN6 := Lib.hid (fun a (ha : A6 = some a) (hi : F5 a.block) => (by have := AT5.out.lim _ hi; have := rn a ha; omega : False))
      have AT6 := Lib.hid (AT5.out.below b6)
      have R6 := Lib.hid (R5.out.below b6)
      have B6 := Lib.hid (bel_then B5.out b6)
      clear rl rr rn b6 RC RN AT5 R5 B5
      obtain ⟨s0, hs0, hsb, hsf⟩ := FU2.out.lo 0 (by omega)
      have HS0 := Lib.hid hs0
      -- run
      have RU := Lib.hid (hRun w6 hb 256 0 h2 F5 0 n AT6.out HI2.out (by omega) (by unfold I64i; omega) (by have := HN.out; omega))
      dsimp only [List.length_cons, List.length_nil]
      go_wp2_with fail
      refine RU.out.mono ?_; rintro e w7 (⟨k, s, hk, hs, rfl, F7, at7, ch7, sb7⟩ | ⟨hno, _⟩)
      · obtain rfl : k = 0 := by omega
        obtain rfl := Ho.one hs HS0.out
        have HI3 := Lib.hid (HI2.out.run HS0.out n).1
        have FU3 := Lib.hid (FU2.out.run HI2.out HS0.out n)
        have HAS3 : Hid ((runO h2 0 s n).has 0 ⟨s.b, s.hf, s.code, (slF h2.T n s.x h2.B).1⟩) := Lib.hid (has_set_same (Ho.has_lt HS0.out) _)
        have AT7 := Lib.hid at7
        have WR7 := Lib.hid (WR6.out.chF ch7 (.inr (fun a ha hi => WN6.out a ha hi)))
        have WN7 := Lib.hid (fun a (ha : A6 = some a) (hi : F7 a.block) => ((sb7 _ hi).elim (WN6.out a ha) (fun h9 => by obtain ⟨q9, h8, h7, _⟩ := WR6.out.2.2.2 (by simp); rw [ha] at h8; cases h8; omega) : False))
        have R7 := Lib.hid (R6.out.chF ch7 (.inr (fun a ha hi => OF5.out a ha hi)))
        have OF7 := Lib.hid (fun a (ha : A3 = some a) (hi : F7 a.block) => ((sb7 _ hi).elim (OF5.out a ha) (fun h9 => row_lt R6.out (by rw [LB.out.2.1]; omega) ha h9) : False))
        have B7 := Lib.hid (Below.trans B6.out (ch7.below FF5.out B6.out.size))
        have FF7 := Lib.hid (fun i (hi : F7 i) => (sb7 i hi).elim (FF5.out i) (fun h => Nat.le_trans B6.out.size h))
        generalize (slF h2.T n s.x h2.B).2.2 = steps at *
        obtain ⟨h3, hh3⟩ : ∃ h3, runO h2 0 s n = h3 := ⟨_, rfl⟩
        obtain ⟨s3, hs3⟩ : ∃ s3 : Sb, (⟨s.b, s.hf, s.code, (slF h2.T n s.x h2.B).1⟩ : Sb) = s3 := ⟨_, rfl⟩
        rw [hh3] at HI3 FU3 HAS3 AT7
        rw [hs3] at HAS3
        clear hk hs at7 ch7 sb7 RU AT6 R6 WR6 WN6 OF5 FF5 B6 hh3 hs3 HI2 FU2 HS0 hsb hsf hs0
        -- kill
        have KC := Lib.hid (hKill w7 hb 256 h3 F7 0 AT7.out HI3.out.Z (by unfold I64i; omega))
        dsimp only
        go_wp2_with fail
        refine KC.out.mono ?_; rintro e w8 (⟨k, s', hk, hs', rfl, at8, ch8⟩ | ⟨hno, _⟩)
        · obtain rfl : k = 0 := by omega
          obtain rfl := Ho.one hs' HAS3.out
          have AT8 := Lib.hid at8
          have HI4 := Lib.hid (HI3.out.kill HAS3.out)
          have LE4 := Lib.hid (FU3.out.loadAgain (by omega) (by omega) HP2.out HAS3.out (codeI l) (dataL l) CL.out.2.1 CL.out.2.2.1)
          have GAP := Lib.hid (FU3.out.gap (by omega) (by omega) HP2.out HAS3.out)
          have FU5 := Lib.hid (FU3.out.again (by omega) (by omega) HP2.out HAS3.out (code := codeI l) (data := dataL l) (rep := []) CL.out.2.2.2.1 CL.out.2.2.2.2 (by have := CL.out.2.1; omega) CL.out.2.2.1)
          have NO4 := Lib.hid (fun t => kill_no (h := h3) (k := 0) (s := s') t)
          have WR8 := Lib.hid (WR7.out.chF ch8 (.inr (fun a ha hi => WN7.out a ha hi)))
          have R8 := Lib.hid (R7.out.chF ch8 (.inr (fun a ha hi => OF7.out a ha hi)))
          have B8 := Lib.hid (Below.trans B7.out (ch8.below FF7.out B7.out.size))
          obtain ⟨h4, hh4⟩ : ∃ h4, killO h3 0 s' = h4 := ⟨_, rfl⟩
          rw [hh4] at AT8 HI4 LE4 GAP FU5 NO4
          clear hk hs' at8 ch8 KC AT7 R7 WR7 B7 hh4 HI3 FU3 HAS3
          -- Box: none
          have BX := Lib.hid (hBox w8 hb h4 F7 0 AT8.out (fun k t ht => by have := (HI4.out.bi k t ht).tr; have := HN.out; omega) (by unfold I64i; omega))
          dsimp only
          go_wp2_with fail
          refine BX.out.mono ?_; rintro e w9 ⟨b9, ⟨k, t, hk, ht, _⟩ | ⟨_, RX, rX, TX, tX, rfl⟩⟩
          · obtain rfl : k = 0 := by omega
            exact absurd ht (NO4.out t)
          · have LX := Lib.hid (bx_len zeroX_ok.c RX rX TX tX)
            unfold Bx.val
            generalize zeroX.cs RX rX TX tX = csX at *
            have AT9 := Lib.hid (AT8.out.below b9)
            have R9 := Lib.hid (R8.out.below b9)
            have WR9 := Lib.hid (WR8.out.below b9)
            have B9 := Lib.hid (bel_then B8.out b9)
            clear BX AT8 R8 WR8 B8 b9
            obtain ⟨W10, e10, X10, AT10, R10, WR10, B10, S10⟩ : ∃ W10, w9.alloc (.cells ([.int .u32 0, .int .u32 0, .int .u32 0, .int .u32 0, .int .u32 0, .int .u32 0, .int .u32 0, .int .u32 0, .int .u32 0, .int .u32 0, .int .u32 0, .slice none 0 0, .int .i64 0, .slice none 0 0, .bool false, .int .u32 0, .int .i64 0, .int .i64 0] : List Value).toArray 63) = W10 ∧ Hid (HasB W10 w9.heap.size 63 [.int .u32 0, .int .u32 0, .int .u32 0, .int .u32 0, .int .u32 0, .int .u32 0, .int .u32 0, .int .u32 0, .int .u32 0, .int .u32 0, .int .u32 0, .slice none 0 0, .int .i64 0, .slice none 0 0, .bool false, .int .u32 0, .int .i64 0, .int .i64 0]) ∧ Hid (HAt W10 hb h4 F7) ∧ Hid (RowAt W10 A3 c3 l) ∧ Hid (RgRow W10 A6 c6 [((2 * (0 : Nat) + 1) * ((2 * hf : Nat) : Int), ((2 * hf : Nat) : Int)), ((2 * (1 : Nat) + 1) * ((2 * hf : Nat) : Int), ((2 * hf : Nat) : Int))]) ∧ Hid (Below w.heap.size w W10) ∧ Hid (w.heap.size ≤ w9.heap.size) := by
              have b := bel_al (Below.refl w9.heap.size w9) (.cells ([.int .u32 0, .int .u32 0, .int .u32 0, .int .u32 0, .int .u32 0, .int .u32 0, .int .u32 0, .int .u32 0, .int .u32 0, .int .u32 0, .int .u32 0, .slice none 0 0, .int .i64 0, .slice none 0 0, .bool false, .int .u32 0, .int .i64 0, .int .i64 0] : List Value).toArray 63)
              exact ⟨_, rfl, Lib.hid (HasB.new w9 63 [.int .u32 0, .int .u32 0, .int .u32 0, .int .u32 0, .int .u32 0, .int .u32 0, .int .u32 0, .int .u32 0, .int .u32 0, .int .u32 0, .int .u32 0, .slice none 0 0, .int .i64 0, .slice none 0 0, .bool false, .int .u32 0, .int .i64 0, .int .i64 0]), Lib.hid (AT9.out.below b), Lib.hid (R9.out.below b), Lib.hid (WR9.out.below b), Lib.hid (bel_then B9.out b), Lib.hid B9.out.size⟩
            have LN := Lib.hid (fun i (hi : F7 i) => AT9.out.lim i hi)
            have RN9 := Lib.hid (fun a (ha : A3 = some a) => (row_lt' R9.out (by rw [LB.out.2.1]; omega) ha : a.block < w9.heap.size))
            have WL9 := Lib.hid (fun a (ha : A6 = some a) => (by obtain ⟨q9, h8, h7, _⟩ := WR9.out.2.2.2 (by simp); rw [ha] at h8; cases h8; exact h7 : a.block < w9.heap.size))
            clear AT9 R9 WR9 B9
            dsimp only
            go_wp2_with (first
              | (refine st_any rfl 63 (.tmp 17) (.tmp 86) rfl rfl w9.heap.size [.int .u32 0, .int .u32 0, .int .u32 0, .int .u32 0, .int .u32 0, .int .u32 0, .int .u32 0, .int .u32 0, .int .u32 0, .int .u32 0, .int .u32 0, .slice none 0 0, .int .i64 0, .slice none 0 0, .bool false, .int .u32 0, .int .i64 0, .int .i64 0] csX (by rfl) (by rfl) X10.out (by rw [LX.out.1]; rfl) (by rw [LX.out.1]; kernel_rfl) LX.out.2 ?_; intro W11 r11 c11
                 have AT11 := Lib.hid (AT10.out.same c11.size (fun i hi => c11.block i (AT10.out.lim i hi) (Nat.ne_of_lt (LN.out i hi)) (Nat.ne_of_lt (LN.out i hi))))
                 have R11 := Lib.hid (R10.out.same c11.size (.inr (fun a ha => c11.block _ (by have := RN9.out a ha; rw [← e10]; simp; omega) (Nat.ne_of_lt (RN9.out a ha)) (Nat.ne_of_lt (RN9.out a ha)))))
                 have WR11 := Lib.hid (WR10.out.grown c11.grown (.inr (fun a ha => Nat.ne_of_lt (WL9.out a ha))))
                 have B11 := Lib.hid (Below.trans B10.out (Below.ofNew c11 B10.out.size S10.out))
                 clear r11 c11))
            clear AT10 R10 WR10 B10 X10 e10 S10
            -- Run: none
            have RU := Lib.hid (hRun W11 hb 256 (0 + n) h4 F7 0 1 AT11.out HI4.out (by have := HN.out; omega) (by unfold I64i; omega) (by omega))
            rw [show ((1 : Nat) : Int) = 1 from rfl] at RU
            refine RU.out.mono ?_; rintro e w12 (⟨k, t, hk, ht, _⟩ | ⟨_, rfl, at12, b12⟩)
            · obtain rfl : k = 0 := by omega
              exact absurd ht (NO4.out t)
            · have AT12 := Lib.hid at12
              have R12 := Lib.hid (R11.out.below b12)
              have WR12 := Lib.hid (WR11.out.below b12)
              have B12 := Lib.hid (bel_then B11.out b12)
              clear at12 b12 RU AT11 R11 WR11 B11
              -- the third
              have LD := Lib.hid (hLoad w12 hb 256 h4 F7 A3 c3 (c + 20) l size none 0 0 [] AT12.out HI4.out.Z (by omega) (by omega) R12.out LB.out.2.1 (by have := LB.out.2.2; omega) SP.out.1 (kRow_nil _ w12) rfl (by omega))
              dsimp only
              go_wp2_with fail
              refine LD.out.mono ?_; rintro e w13 hq
              rcases hq with ⟨hne, _⟩ | ⟨hE, k, b, hf9, hk, hs, hb2, rfl, F13, at13, ch13, sb13⟩
              · exact absurd (by rw [CL.out.1, SP.out.2.1]; exact LE4.out) hne
              · obtain ⟨g1, g2, g3, g4⟩ := GAP.out
                obtain rfl : k = 0 := by rw [g3] at hk; injection hk with hk; exact hk.symm
                obtain rfl : hf9 = hf := by have := SP.out.2.1; omega
                have hb3 : b = (2 * 0 + 1) * (2 * hf9) := by rw [SP.out.2.1, g4] at hb2; exact (Int.ofNat.inj hb2).symm
                subst hb3
                have AT13 := Lib.hid at13
                have WR13 := Lib.hid (WR12.out.chF ch13 (.inr (fun a ha hi => WN7.out a ha hi)))
                have B13 := Lib.hid (Below.trans B12.out (ch13.below FF7.out B12.out.size))
                have WN13 := Lib.hid (fun i (hi : F13 i) => (sb13 i hi).elim (FF7.out i) (fun h => Nat.le_trans B12.out.size h))
                clear g1 g2 g3 g4 hE hk hs hb2 at13 ch13 sb13 LD AT12 R12 WR12 B12 GAP LE4
                obtain ⟨h5, hh5⟩ : ∃ h5, loadO h4 0 ((2 * 0 + 1) * (2 * hf9)) hf9 (codeI l) (dataL l) [] = h5 := ⟨_, rfl⟩
                rw [hh5] at FU5 AT13
                clear hh5
                have RC := Lib.hid (hRegs w13 hb 256 h5 F13 AT13.out FU5.out.Z (by omega))
                have RN := Lib.hid (fun L (R : RegsL 256 h5 L) => (R.one (FU5.out.row (by omega) HP2.out (.inr (by have := SP.out.2.2; omega))) : L = fullL ((2 * hf9 : Nat) : Int) 2))
                dsimp only
                go_wp2_with fail
                refine RC.out.mono ?_; rintro e w14 ⟨A14, c14, L14, rfl, rl, rr, rn, b14⟩
                have hL := RN.out L14 rl
                rw [show (fullL ((2 * hf9 : Nat) : Int) 2) = [((2 * (0 : Nat) + 1) * ((2 * hf9 : Nat) : Int), ((2 * hf9 : Nat) : Int)), ((2 * (1 : Nat) + 1) * ((2 * hf9 : Nat) : Int), ((2 * hf9 : Nat) : Int))] from rfl] at hL
                subst hL
                have NR14 := Lib.hid rr
                have AT14 := Lib.hid (AT13.out.below b14)
                have WR14 := Lib.hid (WR13.out.below b14)
                have B14 := Lib.hid (bel_then B13.out b14)
                clear rl rr rn b14 RC RN AT13 WR13 B13
                dsimp only [List.length_cons, List.length_nil]
                go_wp2_with fail
                refine (hLoad_nil A3 (c + 20) c3 128 none 0 0 _).mono ?_; rintro e w15 ⟨rfl, rfl⟩
                dsimp only
                go_wp2_with fail
                refine (hRun_nil 0 1 _).mono ?_; rintro e w16 ⟨rfl, b16⟩
                have AT16 := Lib.hid (AT14.out.below b16)
                have WR16 := Lib.hid (WR14.out.below b16)
                have NR16 := Lib.hid (NR14.out.below b16)
                have B16 := Lib.hid (bel_then B14.out b16)
                clear b16 AT14 WR14 NR14 B14
                dsimp only
                go_wp2_with fail
                refine (hBytes_nil 0 _).mono ?_; rintro e w17 ⟨rfl, b17⟩
                have AT17 := Lib.hid (AT16.out.below b17)
                have WR17 := Lib.hid (WR16.out.below b17)
                have NR17 := Lib.hid (NR16.out.below b17)
                have B17 := Lib.hid (bel_then B16.out b17)
                clear b17 AT16 WR16 NR16 B16
                dsimp only
                go_wp2_with fail
                obtain ⟨q1, rfl, d0, d1⟩ := rg_first WR17.out
                obtain ⟨q2, rfl, f0, f1⟩ := rg_first NR17.out
                simp only at d0 d1 f0 f1
                have KK := Lib.hid (hKill w17.drew hb 256 h5 F13 99 (AT17.out.below (Below.refl _ _).drew) FU5.out.Z (by unfold I64i; omega))
                obtain ⟨ra, hra⟩ : ∃ ra, (2 * ((0 : Nat) : Int) + 1) * ((2 * hf9 : Nat) : Int) = ra := ⟨_, rfl⟩
                obtain ⟨rb, hrb⟩ : ∃ rb, ((2 * hf9 : Nat) : Int) = rb := ⟨_, rfl⟩
                rw [hra] at d0 f0
                rw [hrb] at d1 f1
                have WQ : Hid (QAt q1 ra rb w17.drew) := Lib.hid ⟨d0, d1, (show q1.block < w17.heap.size from rg_lt WR17.out)⟩
                have NQ : Hid (QAt q2 ra rb w17.drew) := Lib.hid ⟨f0, f1, (show q2.block < w17.heap.size from rg_lt NR17.out)⟩
                have BQ := Lib.hid (bel_then B17.out (Below.refl _ _).drew)
                have DQ : Hid ((w17.drew.cell? q1 = some (.int .i64 ra) ∧ w17.drew.cell? ⟨q1.block, q1.off + 1, none⟩ = some (.int .i64 rb)) ∧ (w17.drew.cell? q2 = some (.int .i64 ra) ∧ w17.drew.cell? ⟨q2.block, q2.off + 1, none⟩ = some (.int .i64 rb))) := Lib.hid ⟨⟨d0, d1⟩, ⟨f0, f1⟩⟩
                clear hra hrb d0 d1 f0 f1 WR17 NR17 B17 AT17
                dsimp only [List.append]
                refine wp_region_noPanic ?_
                refine wp_region_held_drew (S := (fun w' => (w'.cell? q1 = some (.int .i64 ra) ∧ w'.cell? ⟨q1.block, q1.off + 1, none⟩ = some (.int .i64 rb)) ∧ (w'.cell? q2 = some (.int .i64 ra) ∧ w'.cell? ⟨q2.block, q2.off + 1, none⟩ = some (.int .i64 rb)))) (by kernel_rfl) ?_ (fun hHeld => ?_)
                · (try dsimp only)
                  exact DQ.out
                refine wT 0 ?_
                refine wT 1 ?_
                refine wT 2 ?_
                refine wT 3 ?_
                refine wT 4 ?_
                refine wT 5 ?_
                refine wT 6 ?_
                refine wT 7 ?_
                refine wT 8 ?_
                refine wT 9 ?_
                refine wT 10 ?_
                refine wT 11 ?_
                refine wT 12 ?_
                refine wT 13 ?_
                refine wT 14 ?_
                refine wT 15 ?_
                refine wT 16 ?_
                refine wT 17 ?_
                refine wT 18 ?_
                refine wT 19 ?_
                refine wpAnyH_ready (rs := [20]) (by kernel_rfl) (by simp) ?_
                refine rC (fun K hK => ?_) ?_
                · go_simp
                  (with_reducible refine KK.out.mono ?_)
                  rintro e w18 (⟨k, t, hk, ht, _⟩ | ⟨_, rfl, at18, b18⟩)
                  · exact absurd ht (has_16 FU5.out.Z (by omega) t)
                  have WQ20 := Lib.hid (WQ.out.below b18)
                  have NQ20 := Lib.hid (NQ.out.below b18)
                  have BQ20 := Lib.hid (bel_then BQ.out b18)
                  have DQ20 : Hid ((w18.cell? q1 = some (.int .i64 ra) ∧ w18.cell? ⟨q1.block, q1.off + 1, none⟩ = some (.int .i64 rb)) ∧ (w18.cell? q2 = some (.int .i64 ra) ∧ w18.cell? ⟨q2.block, q2.off + 1, none⟩ = some (.int .i64 rb))) := Lib.hid ⟨⟨WQ20.out.c0, WQ20.out.c1⟩, ⟨NQ20.out.c0, NQ20.out.c1⟩⟩
                  clear WQ NQ BQ
                  have WQ := WQ20
                  have NQ := NQ20
                  have BQ := BQ20
                  refine hK.out _ _ ?_ (fun hHeld => ?_)
                  · (try dsimp only)
                    exact DQ20.out
                  clear hK K
                  (try simp only [Act.put, lsA, lsZ, lsS])
                  refine wT 21 ?_
                  refine wT 22 ?_
                  refine wT 23 ?_
                  refine wT 24 ?_
                  refine wT 25 ?_
                  refine wT 26 ?_
                  refine wT 27 ?_
                  refine wT 28 ?_
                  refine wT 29 ?_
                  refine wT 30 ?_
                  refine wT 31 ?_
                  refine wT 32 ?_
                  refine wT 33 ?_
                  refine wT 34 ?_
                  refine wT 35 ?_
                  refine wT 36 ?_
                  refine wT 37 ?_
                  refine wT 38 ?_
                  refine wT 39 ?_
                  refine wT 40 ?_
                  refine wT 41 ?_
                  refine wT 42 ?_
                  refine wT 43 ?_
                  refine wT 44 ?_
                  refine wT 45 ?_
                  refine wT 46 ?_
                  refine wT 47 ?_
                  refine wT 48 ?_
                  refine wT 49 ?_
                  refine wT 50 ?_
                  refine wT 51 ?_
                  refine wT 52 ?_
                  refine wT 53 ?_
                  refine wT 54 ?_
                  refine wT 55 ?_
                  refine wT 56 ?_
                  refine wT 57 ?_
                  refine wT 58 ?_
                  refine wT 59 ?_
                  refine wT 60 ?_
                  refine wT 61 ?_
                  refine wT 62 ?_
                  refine wT 63 ?_
                  refine wT 64 ?_
                  refine wpAnyH_ready (rs := [65]) (by kernel_rfl) (by simp) ?_
                  refine rC (fun K hK => ?_) ?_
                  · go_simp
                    (with_reducible refine (hKill_nil 0 _).mono ?_)
                    rintro e w19 ⟨rfl, b19⟩
                    have WQ65 := Lib.hid (WQ.out.below b19)
                    have NQ65 := Lib.hid (NQ.out.below b19)
                    have BQ65 := Lib.hid (bel_then BQ.out b19)
                    have DQ65 : Hid ((w19.cell? q1 = some (.int .i64 ra) ∧ w19.cell? ⟨q1.block, q1.off + 1, none⟩ = some (.int .i64 rb)) ∧ (w19.cell? q2 = some (.int .i64 ra) ∧ w19.cell? ⟨q2.block, q2.off + 1, none⟩ = some (.int .i64 rb))) := Lib.hid ⟨⟨WQ65.out.c0, WQ65.out.c1⟩, ⟨NQ65.out.c0, NQ65.out.c1⟩⟩
                    clear WQ NQ BQ
                    have WQ := WQ65
                    have NQ := NQ65
                    have BQ := BQ65
                    refine hK.out _ _ ?_ (fun hHeld => ?_)
                    · (try dsimp only)
                      exact DQ65.out
                    clear hK K
                    (try simp only [Act.put, lsA, lsZ, lsS])
                    refine wT 66 ?_
                    refine wT 67 ?_
                    refine wT 68 ?_
                    refine wT 69 ?_
                    refine wpAnyH_ready (rs := [70]) (by kernel_rfl) (by simp) ?_
                    refine rC (fun K hK => ?_) ?_
                    · go_simp
                      (with_reducible refine (hRegs_nil _).mono ?_)
                      rintro e w20 ⟨rfl, hw20⟩
                      subst hw20
                      have DQ70 := DQ65
                      refine hK.out _ _ ?_ (fun hHeld => ?_)
                      · (try dsimp only)
                        exact DQ70.out
                      clear hK K
                      (try simp only [Act.put, lsA, lsZ, lsS])
                      refine wT 71 ?_
                      refine wT 72 ?_
                      refine wT 73 ?_
                      refine wT 74 ?_
                      refine wT 75 ?_
                      refine wpAnyH_ready (rs := [76]) (by kernel_rfl) (by simp) ?_
                      refine rC (fun K hK => ?_) ?_
                      · go_simp
                        (with_reducible refine (hThere_nil 0 _).mono ?_)
                        rintro e w21 ⟨rfl, hw21⟩
                        subst hw21
                        have DQ76 := DQ65
                        refine hK.out _ _ ?_ (fun hHeld => ?_)
                        · (try dsimp only)
                          exact DQ76.out
                        clear hK K
                        (try simp only [Act.put, lsA, lsZ, lsS])
                        refine wT 77 ?_
                        refine wT 78 ?_
                        refine wT 79 ?_
                        refine wpAnyH_done (by kernel_rfl) ?_ _
                        refine NoPanic.normal ?_
                        clear hHeld
                        go_wp2_with fail
                        go_ret
                        exact ⟨rfl, BQ.out⟩
                      exact AllReadyH.nil
                    exact AllReadyH.nil
                  exact AllReadyH.nil
                exact AllReadyH.nil
        · exact absurd HAS3.out (hno 0 _ rfl)
      · exact absurd HS0.out (hno 0 _ rfl)
theorem shl_is (u : Int) (hu : 0 ≤ u ∧ u ≤ 255) : ∃ hf : Nat, powS ((2 * hf : Nat) : Int) = true ∧ (64 ≤ hf ∧ hf ≤ 512) ∧ ∀ w : World, (Op.shift BinOp.shl IntKind.i64 128 IntKind.u8 (u.tmod 4)).run Tryz.prog w = .ok (.int .i64 ((2 * hf : Nat) : Int)) w := by
  have h4 : u.tmod 4 = 0 ∨ u.tmod 4 = 1 ∨ u.tmod 4 = 2 ∨ u.tmod 4 = 3 := by
    rw [Int.tmod_eq_emod_of_nonneg hu.1]
    omega
  rcases h4 with h | h | h | h
  · exact ⟨64, by decide, by omega, fun w => by rw [h]; rfl⟩
  · exact ⟨128, by decide, by omega, fun w => by rw [h]; rfl⟩
  · exact ⟨256, by decide, by omega, fun w => by rw [h]; rfl⟩
  · exact ⟨512, by decide, by omega, fun w => by rw [h]; rfl⟩
theorem hostKills_walk (A : Option Addr) (ca : Nat) (C : List Int) (u v : Int) (w : World) (rA : RowAt w A ca C) (wu : (Lit.int .u8 u).wf = true) (wv : (Lit.int .u8 v).wf = true) :
    Calls Tryz.prog 5 #[.slice A C.length ca, .int .u8 u, .int .u8 v] w fun e w' => e = .returned (.bool true) ∧ Below w.heap.size w w' := by
  have hv := u8_bd wv
  have hu := u8_bd wu
  obtain ⟨n, rfl⟩ : ∃ n : Nat, v = n := ⟨v.toNat, by omega⟩
  by_cases h : 300 < C.length
  · exact kills_skip A ca _ _ _ h w
  · obtain ⟨hf, h1, h2, h3⟩ := shl_is u hu
    exact kills_main A ca _ C u n _ hf rfl rfl (by omega) (by omega) h1 h2 w rA h3
end Go.Proofs.YtjmbaiijmhkdpaaGreat.Mm
