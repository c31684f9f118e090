/- The statement HostBytes, walked. -/
import Derived.Test.YtjmbaiijmhkdpaaGreatQHostW0
namespace Go.Proofs.YtjmbaiijmhkdpaaGreat.Mm
open Go.ChangeShapes Go.WideShapes Go.ChangeAt Go.RowKit
set_option linter.unusedVariables false
set_option linter.unusedSimpArgs false
set_option maxRecDepth 10000
set_option maxHeartbeats 4000000
theorem bytes_skip (A : Option Addr) (ca c : Nat) (v : Int) (h : 300 < c) (w : World) :
    Calls Tryz.prog 7 #[.slice A c ca, .int .u8 v] w fun e w' => e = .returned (.bool true) ∧ Below w.heap.size w w' := by
  have q : decide ((300 : Int) < (c : Int)) = true := decide_eq_true (by omega)
  go_enter Tryz.func7, Tryz.ntmps7
  go_wp2_with fail
  refine (awake14 _).mono ?_; rintro e w1 ⟨rfl, b1⟩
  have B1 := Lib.hid b1; clear b1
  dsimp only
  go_wp2_with fail
  refine (awake14 _).mono ?_; rintro e w2 ⟨rfl, b2⟩
  have B2 := Lib.hid (bel_then B1.out b2); clear b2
  dsimp only
  go_wp2
  go_ret
  exact ⟨rfl, B2.out⟩
theorem first_at {z hf : Nat} {l : List Int} {k b hf' : Nat} (hp : powS ((2 * hf : Nat) : Int) = true) (hn : 2 * hf + 2 * hf + 64 ≤ 64 * z) (hk : freeO (newO z) = some k) (hs : ((2 * hf : Nat) : Int) = ((2 * hf' : Nat) : Int)) (hb : takeV (regsU (newO z)) ((64 * z : Nat) : Int) ((2 * hf : Nat) : Int) = (b : Int)) : k = 0 ∧ b = 2 * hf ∧ hf' = hf := by
  have F := FullH.start z hf
  refine ⟨?_, ?_, by omega⟩
  · rw [F.free (by omega)] at hk
    injection hk with hk; exact hk.symm
  · rw [F.take hp (by omega)] at hb
    have := Int.ofNat.inj hb
    omega
theorem row_at {w : World} {A : Option Addr} {cap : Nat} {l : List Int} (r : RowAt w A cap l) {x : Addr} (hx : A = some x) {i : Nat} (hi : i < l.length) : w.cell? (x.add i) = some (.int .u8 (l.getD i 0)) := by
  obtain ⟨p, hp, _, hc⟩ := r.2.2.2 (by intro e; rw [e] at hi; simp at hi)
  rw [hx] at hp
  cases hp
  exact hc i hi
theorem row_some {w : World} {A : Option Addr} {cap : Nat} {l : List Int} (r : RowAt w A cap l) (h : 0 < l.length) : ∃ x, A = some x := by
  obtain ⟨p, hp, _⟩ := r.2.2.2 (by intro e; rw [e] at h; simp at h)
  exact ⟨p, hp⟩
set_option maxHeartbeats 16000000 in
theorem bytes_main (A : Option Addr) (ca c : Nat) (C : List Int) (n : Nat) (hc : C.length = c) (h : c ≤ 300) (hn : n ≤ 255) (w : World) (rA : RowAt w A ca C) :
    Calls Tryz.prog 7 #[.slice A c ca, .int .u8 (n : Int)] w fun e w' => e = .returned (.bool true) ∧ Below w.heap.size w w' := by
  have q : decide ((300 : Int) < (c : Int)) = false := decide_eq_false (by omega)
  have wn : IntKind.i64.wrap (n : Int) = (n : Int) := IntWalk.i64_in _ (by omega)
  have NC := Lib.hid (fun w' => hNew 64 (by omega) (by omega) w')
  rw [show (((64 * 64 : Nat)) : Int) = 4096 from rfl] at NC
  have BY := Lib.hid (fun w' (b : Below w.heap.size w w') => bytes14 A ca c C hc (by omega) w' (rA.below b))
  have RA := Lib.hid rA
  have HC := Lib.hid hc
  have LB : Hid (Bytes (layL C D8) ∧ (layL C D8).length = c + 20 ∧ c ≤ 300) := Lib.hid ⟨layL_byte rA.2.2.1 D8_b (by omega) (by decide), by rw [layL_len, hc]; show 12 + c + 8 = _; omega, h⟩
  have CD : Hid (codeI (layL C D8) = C ∧ dataL (layL C D8) = D8) := Lib.hid ⟨lay_code C D8, lay_data C D8⟩
  have HN := Lib.hid hn
  clear rA hc h hn
  obtain ⟨l, hl⟩ : ∃ l, layL C D8 = l := ⟨_, rfl⟩
  rw [hl] at LB CD BY
  clear hl
  go_enter Tryz.func7, Tryz.ntmps7
  go_wp2_with fail
  refine (awake14 _).mono ?_; rintro e w1 ⟨rfl, b1⟩
  have B1 := Lib.hid b1; clear b1
  dsimp only
  go_wp2_with fail
  refine (NC.out _).mono ?_; rintro e w2 ⟨hb, F, rfl, at2, hF, b2⟩
  have AT2 := Lib.hid at2
  have B2 := Lib.hid (bel_then B1.out b2)
  have FF := Lib.hid (fun i (hi : F i) => Nat.le_trans B1.out.size (hF i hi))
  clear at2 hF b2 NC
  dsimp only
  go_wp2_with fail
  refine (BY.out _ B2.out).mono ?_; rintro e w3 ⟨A3, c3, rfl, r3, b3⟩
  have R3 := Lib.hid r3
  have AT3 := Lib.hid (AT2.out.below b3)
  have B3 := Lib.hid (bel_then B2.out b3)
  clear r3 b3 AT2 BY
  obtain ⟨h0, hh0⟩ : ∃ h0, newO 64 = h0 := ⟨_, rfl⟩
  have HI0 : Hid (HoI 64 0 h0) := Lib.hid (hh0 ▸ newO_i 64 0)
  have HH0 := Lib.hid hh0
  rw [hh0] at AT3
  clear hh0
  have LD := Lib.hid (hLoad w3 hb 64 h0 F A3 c3 (c + 20) l 1024 none 0 0 [] AT3.out HI0.out.Z (by omega) (by omega) R3.out LB.out.2.1 (by have := LB.out.2.2; omega) (by decide) (kRow_nil _ w3) rfl (by omega))
  dsimp only
  go_wp2_with fail
  refine LD.out.mono ?_; rintro e w4 hq
  rcases hq with ⟨hne, rfl, _, b4⟩ | ⟨hE, k, b, hf, hk, hs, hb2, rfl, F', at4, ch4, sb4⟩
  · have B4 := Lib.hid (bel_then B3.out b4)
    obtain ⟨E, hEE⟩ : ∃ E, loadE 64 h0 (imgE l) (codeI l) (dataL l) 1024 = E := ⟨_, rfl⟩
    rw [hEE] at hne ⊢
    have q2 : (E != 0) = true := by simpa using hne
    clear hEE hne b4 LD
    dsimp only
    go_wp2
    go_ret
    exact ⟨rfl, B4.out⟩
  · have OK := Lib.hid (ld_ok HI0.out.Z hE hk hs hb2)
    obtain ⟨rfl, rfl, rfl⟩ := first_at (z := 64) (hf := 512) (l := l) (by decide) (by omega) (by rw [HH0.out]; exact hk) hs (by rw [HH0.out]; exact hb2)
    have HI1 := Lib.hid (OK.out.i HI0.out (by omega) LB.out.1 (rep := []) (fun v hv => by cases hv) (by simp))
    have HAS1 := Lib.hid (OK.out.has HI0.out.Z [])
    have LAT := Lib.hid (fun (i : Nat) (hi : i < 2 * 512) => load_at (k := 0) (b := 2 * 512) (hf := 512) (code := codeI l) (data := dataL l) (rep := []) HI0.out.Z OK.out.rg (by have := OK.out.c; omega) OK.out.d i hi)
    have AT4 := Lib.hid at4
    have B4 := Lib.hid (Below.trans B3.out (ch4.below FF.out B3.out.size))
    have FF4 := Lib.hid (fun i (hi : F' i) => (sb4 i hi).elim (FF.out i) (fun h => Nat.le_trans B3.out.size h))
    clear hE hk hs hb2 at4 ch4 sb4 LD AT3 FF HH0
    obtain ⟨h1, hh1⟩ : ∃ h1, loadO h0 0 (2 * 512) 512 (codeI l) (dataL l) [] = h1 := ⟨_, rfl⟩
    rw [hh1] at HI1 HAS1 LAT AT4
    obtain ⟨s1, hs1⟩ : ∃ s1 : Sb, s1 = ⟨2 * 512, 512, codeI l, newX (((2 * 512 : Nat) : Int), ((2 * 512 : Nat) : Int)) []⟩ := ⟨_, rfl⟩
    rw [← hs1] at HAS1
    have S1 : Hid (s1.b = 1024 ∧ s1.hf = 512 ∧ s1.code = C) := Lib.hid (by rw [hs1]; exact ⟨rfl, rfl, CD.out.1⟩)
    clear hh1 hs1
    have BC := Lib.hid (hBytes w4 hb 64 h1 F' 0 AT4.out HI1.out.Z (by unfold I64i; omega))
    dsimp only
    go_wp2_with fail
    refine BC.out.mono ?_; rintro e w5 ⟨b5, ⟨k, s, hk, hs, A5, c5, rfl, r5, n5⟩ | ⟨hno, _⟩⟩
    · obtain rfl : k = 0 := by omega
      obtain rfl := Ho.one hs HAS1.out
      rw [S1.out.2.1]
      have R5 := Lib.hid r5
      have AT5 := Lib.hid (AT4.out.below b5)
      have B5 := Lib.hid (bel_then B4.out b5)
      have N5 := Lib.hid (fun a (ha : A5 = some a) (hF : F' a.block) => (by have := AT4.out.lim _ hF; have := n5 a ha; omega : False))
      clear hk hs r5 n5 b5 BC AT4
      have RU := Lib.hid (hRun w5 hb 64 0 h1 F' 0 n AT5.out HI1.out (by omega) (by unfold I64i; omega) (by have := HN.out; omega))
      dsimp only
      go_wp2_with fail
      refine RU.out.mono ?_; rintro e w6 (⟨k, s, hk, hs, rfl, F6, at6, ch6, sb6⟩ | ⟨hno, _⟩)
      · obtain rfl : k = 0 := by omega
        obtain rfl := Ho.one hs HAS1.out
        have R6 := Lib.hid (R5.out.chF ch6 (.inr (fun a ha hF => N5.out a ha hF)))
        have HI2 := Lib.hid (HI1.out.run HAS1.out n).1
        have HAS2 : Hid ((runO h1 0 s n).has 0 ⟨s.b, s.hf, s.code, (slF h1.T n s.x h1.B).1⟩) := Lib.hid (has_set_same (Ho.has_lt HAS1.out) _)
        have AT6 := Lib.hid at6
        have B6 := Lib.hid (Below.trans B5.out (ch6.below FF4.out B5.out.size))
        clear hk hs at6 ch6 sb6 RU AT5 N5 R5
        obtain ⟨h2, hh2⟩ : ∃ h2, runO h1 0 s n = h2 := ⟨_, rfl⟩
        rw [hh2] at HI2 HAS2 AT6
        obtain ⟨s2, hs2⟩ : ∃ s2 : Sb, s2 = ⟨s.b, s.hf, s.code, (slF h1.T n s.x h1.B).1⟩ := ⟨_, rfl⟩
        rw [← hs2] at HAS2
        have S2 : Hid (s2.hf = 512 ∧ s2.code = C) := Lib.hid (by rw [hs2]; exact ⟨S1.out.2.1, S1.out.2.2⟩)
        clear hh2 hs2
        have BC := Lib.hid (hBytes w6 hb 64 h2 F6 0 AT6.out HI2.out.Z (by unfold I64i; omega))
        generalize (slF h1.T n s.x h1.B).2.2 = steps at *
        dsimp only
        go_wp2_with fail
        refine BC.out.mono ?_; rintro e w7 ⟨b7, ⟨k, t, hk, ht, A7, c7, rfl, r7, n7⟩ | ⟨hno, _⟩⟩
        · obtain rfl : k = 0 := by omega
          obtain rfl := Ho.one ht HAS2.out
          rw [S2.out.1]
          have R7 := Lib.hid r7
          have RA5 := Lib.hid (R6.out.below b7)
          have B7 := Lib.hid (bel_then B6.out b7)
          have RC := Lib.hid (RA.out.below B7.out)
          have V1 : Hid ((bytesO h1 s).length = 1024 ∧ (∀ i, i < 512 → (bytesO h1 s).getD i 0 = C.getD i 0) ∧ (∀ i, i < 512 → (bytesO h1 s).getD (512 + i) 0 = D8.getD i 0)) := Lib.hid (by
            refine ⟨by rw [bytesO_len HI1.out.Z HAS1.out, S1.out.2.1], fun i hi => by rw [bytesO_code HI1.out HAS1.out i (by rw [S1.out.2.1]; exact hi), S1.out.2.2], fun i hi => ?_⟩
            rw [bytesO_get h1 s (512 + i) (by rw [S1.out.2.1]; omega), S1.out.1, LAT.out (512 + i) (by omega), if_neg (by omega), CD.out.2, show 512 + i - 512 = i by omega])
          have V2 : Hid ((bytesO h2 t).length = 1024 ∧ (∀ i, i < 512 → (bytesO h2 t).getD i 0 = C.getD i 0)) := Lib.hid (by
            refine ⟨by rw [bytesO_len HI2.out.Z HAS2.out, S2.out.1], fun i hi => by rw [bytesO_code HI2.out HAS2.out i (by rw [S2.out.1]; exact hi), S2.out.2]⟩)
          generalize bytesO h1 s = La at *
          generalize bytesO h2 t = Lb at *
          clear hk ht r7 n7 b7 BC AT6 HI1 HI2 HAS1 HAS2 S1 S2 R6 LAT OK FF4 HI0 B1 B2 B3 B4 B5 B6
          obtain ⟨x5, rfl⟩ := row_some RA5.out (by rw [V1.out.1]; omega)
          obtain ⟨x7, rfl⟩ := row_some R7.out (by rw [V2.out.1]; omega)
          dsimp only
          go_wp2_with fail
          go_loopw [13] (fun v wr => ∃ j : Nat, v = .int .i64 (j : Int) ∧ j ≤ 512 ∧ w7 = wr) (fun v _ => 512 - (intOf v).toNat)
          case atStart => exact ⟨0, rfl, by omega, rfl⟩
          case round =>
            obtain ⟨j, rfl, hj, rfl⟩ := hrel
            by_cases hjl : j < 512
            · have t1 : decide ((j : Int) < 512) = true := decide_eq_true (by omega)
              have t1' : decide (j < 512) = true := decide_eq_true hjl
              have wj : IntKind.i64.wrap ((j : Int) + 1) = ((j + 1 : Nat) : Int) := by rw [show ((j + 1 : Nat) : Int) = (j : Int) + 1 by omega]; exact IntWalk.i64_in _ (by omega)
              have a0 := row_at RA5.out rfl (i := j) (by rw [V1.out.1]; omega)
              have b0 := row_at R7.out rfl (i := j) (by rw [V2.out.1]; omega)
              rw [V1.out.2.1 j hjl] at a0
              rw [V2.out.2 j hjl] at b0
              have g1 : decide (j < 1024) = true := decide_eq_true (by omega)
              by_cases hjc : j < c
              · obtain ⟨x, rfl⟩ := row_some RC.out (by rw [HC.out]; omega)
                have d0 := row_at RC.out rfl (i := j) (by rw [HC.out]; exact hjc)
                have t2 : decide ((j : Int) < (c : Int)) = true := decide_eq_true (by omega)
                have t2' : decide (j < c) = true := decide_eq_true hjc
                generalize C.getD j 0 = u at *
                go_wp2_with fail
                go_roundw
                case rel => exact ⟨j + 1, by go_num, by omega, by first | rfl | trivial⟩
                case measure => simp [intOf]; omega
              · have t2 : decide ((j : Int) < (c : Int)) = false := decide_eq_false (by omega)
                have t2' : decide (j < c) = false := decide_eq_false hjc
                have hz : C.getD j 0 = 0 := by
                  rw [List.getD_eq_getElem?_getD, List.getElem?_eq_none (by rw [HC.out]; omega)]; rfl
                rw [hz] at a0 b0
                go_wp2_with fail
                go_roundw
                case rel => exact ⟨j + 1, by go_num, by omega, by first | rfl | trivial⟩
                case measure => simp [intOf]; omega
            · obtain rfl : j = 512 := by omega
              go_wp2_with fail
              go_loopw [15] (fun v wr => ∃ j : Nat, v = .int .i64 (j : Int) ∧ j ≤ 512 ∧ w7 = wr) (fun v _ => 512 - (intOf v).toNat)
              case atStart => exact ⟨0, rfl, by omega, rfl⟩
              case round =>
                obtain ⟨j, rfl, hj2, rfl⟩ := hrel
                by_cases hj3 : j < 512
                · have t1 : decide ((j : Int) < 512) = true := decide_eq_true (by omega)
                  have t1' : decide (j < 512) = true := decide_eq_true hj3
                  have wj : IntKind.i64.wrap ((j : Int) + 1) = ((j + 1 : Nat) : Int) := by rw [show ((j + 1 : Nat) : Int) = (j : Int) + 1 by omega]; exact IntWalk.i64_in _ (by omega)
                  have wk : IntKind.i64.wrap (512 + (j : Int)) = ((512 + j : Nat) : Int) := by rw [show ((512 + j : Nat) : Int) = 512 + (j : Int) by omega]; exact IntWalk.i64_in _ (by omega)
                  have a0 := row_at RA5.out rfl (i := 512 + j) (by rw [V1.out.1]; omega)
                  rw [V1.out.2.2 j hj3] at a0
                  by_cases hj8 : j < 8
                  · have t2 : decide ((j : Int) < 8) = true := decide_eq_true (by omega)
                    have t2' : decide (j < 8) = true := decide_eq_true hj8
                    have t3 : decide ((8 : Int) ≤ (j : Int)) = false := decide_eq_false (by omega)
                    have t3' : decide (8 ≤ j) = false := decide_eq_false (by omega)
                    have hD : D8.getD j 0 = ((j + 1 : Nat) : Int) := by
                      have : j = 0 ∨ j = 1 ∨ j = 2 ∨ j = 3 ∨ j = 4 ∨ j = 5 ∨ j = 6 ∨ j = 7 := by omega
                      rcases this with rfl | rfl | rfl | rfl | rfl | rfl | rfl | rfl <;> rfl
                    rw [hD] at a0
                    have w8 : IntKind.u8.wrap ((j + 1 : Nat) : Int) = ((j + 1 : Nat) : Int) := by unfold IntKind.wrap; simp [IntKind.signed, IntKind.bits]; omega
                    obtain ⟨m, hm⟩ : ∃ m : Nat, j + 1 = m := ⟨_, rfl⟩
                    rw [hm] at a0 w8 wj
                    go_wp2_with fail
                    go_roundw
                    case rel => exact ⟨m, by first | rfl | go_num, by omega, by first | rfl | trivial⟩
                    case measure => simp [intOf]; omega
                  · have t2 : decide ((j : Int) < 8) = false := decide_eq_false (by omega)
                    have t2' : decide (j < 8) = false := decide_eq_false hj8
                    have t3 : decide ((8 : Int) ≤ (j : Int)) = true := decide_eq_true (by omega)
                    have t3' : decide (8 ≤ j) = true := decide_eq_true (by omega)
                    have hD : D8.getD j 0 = 0 := by
                      rw [List.getD_eq_getElem?_getD, List.getElem?_eq_none (by simp [D8]; omega)]; rfl
                    rw [hD] at a0
                    go_wp2_with fail
                    go_roundw
                    case rel => exact ⟨j + 1, by go_num, by omega, by first | rfl | trivial⟩
                    case measure => simp [intOf]; omega
                · obtain rfl : j = 512 := by omega
                  go_wp2_with fail
                  go_ret
                  exact ⟨rfl, B7.out⟩
        · exact absurd HAS2.out (hno 0 _ rfl)
      · exact absurd HAS1.out (hno 0 _ rfl)
    · exact absurd HAS1.out (hno 0 _ rfl)
theorem hostBytes_walk (A : Option Addr) (ca : Nat) (C : List Int) (v : Int) (w : World) (rA : RowAt w A ca C) (wv : (Lit.int .u8 v).wf = true) :
    Calls Tryz.prog 7 #[.slice A C.length ca, .int .u8 v] w fun e w' => e = .returned (.bool true) ∧ Below w.heap.size w w' := by
  have hv := u8_bd wv
  obtain ⟨n, rfl⟩ : ∃ n : Nat, v = n := ⟨v.toNat, by omega⟩
  by_cases h : 300 < C.length
  · exact bytes_skip A ca _ _ h w
  · exact bytes_main A ca _ C n rfl (by omega) (by omega) w rA
end Go.Proofs.YtjmbaiijmhkdpaaGreat.Mm
