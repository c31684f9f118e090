/- The statement BoxStays, walked, over the contracts of package box. -/
import Derived.Test.YtbgnkljeodandaaGreatKBxS
import Derived.Test.YtbgnkljeodandaaGreatKBxN
namespace Go.Proofs.YtbgnkljeodandaaGreat.Mm
open Go.ChangeShapes Go.WideShapes Go.ChangeAt Go.RowKit
set_option linter.unusedVariables false
set_option linter.unusedSimpArgs false

/-- safe code at 1024, as New lays it -/
theorem start_s {z : Nat} (hz : 33 ≤ z) (hz2 : z ≤ 1000) {code data rep : List Int} (hc : Bytes code) (hd : Bytes data) (hr : ∀ v ∈ rep, U32 v) (hl : rep.length ≤ 100000) (hv : verE code = 0) (h1 : code.length ≤ 480) (h2 : data.length ≤ 512) :
    Regn code 1024 512 z (newB (List.replicate (64 * z) 0) (1024, 1024) code data) ∧ BoxS code 1024 512 (newB (List.replicate (64 * z) 0) (1024, 1024) code data) (newX (1024, 1024) rep) (newB (List.replicate (64 * z) 0) (1024, 1024) code data) := by
  have hl2 := newB_len (B := List.replicate (64 * z) 0) (code := code) (data := data) (b := 1024) (s := 1024) (by rw [List.length_replicate]; omega) (by omega) (by omega)
  have R : Regn code 1024 512 z (newB (List.replicate (64 * z) 0) (1024, 1024) code data) := by
    refine ⟨by omega, by omega, hz2, hl2.trans List.length_replicate, by omega, hc, (ver_0 hv).1, fun i hi => ?_⟩
    have g1 := newB_get (B := List.replicate (64 * z) 0) (code := code) (data := data) (b := 1024) (s := 1024) (by rw [List.length_replicate]; omega) (by omega) (by omega) (1024 + i)
    refine g1.trans ?_
    rw [if_neg (by omega)]
    by_cases h : i < code.length
    · rw [if_pos (by omega), show 1024 + i - 1024 = i by omega]
    · rw [if_neg (by omega), if_pos (by omega)]
      simp [List.getD, show code.length ≤ i by omega]
  have I := start_i (z := z) (by omega) hc hd hr hl h1 h2
  exact ⟨R, fun i _ => rfl, fun _ => safe_start R I.byt I.ok.c rfl rfl rfl⟩
theorem low_same {B B' : List Int} (hl : B.length = B'.length) (h : ∀ i, i < 1024 + 512 → B.getD i 0 = B'.getD i 0) : (B.drop 1024).take 512 = (B'.drop 1024).take 512 := by
  apply ext_getD (0 : Int)
  · rw [List.length_take, List.length_take, List.length_drop, List.length_drop, hl]
  · intro i hi
    rw [List.length_take] at hi
    rw [getD_take' _ _ _ _ (by omega), getD_take' _ _ _ _ (by omega), getD_drop', getD_drop']
    exact h _ (by omega)
theorem cleared : wholeB (splice (newT (List.replicate 64 false) (1024, 1024)) (1024 / 64 : Int).toNat (List.replicate (1024 / 64 : Int).toNat false)) 1024 1 = false := by kernel_rfl
theorem stays_pure {C D : List Int} (hE : newK C D = 0) (hc : Bytes C) (hd : Bytes D) (n : Nat) :
    RgT (zonO (newK C D) 64) 1024 2048 ∧ BxI (zonO (newK C D) 64) 1024 2048 0 (boxO (newK C D) []) (memO (newK C D) 64 C D) ∧
      ((slF (zonO (newK C D) 64) n (boxO (newK C D) []) (memO (newK C D) 64 C D)).2.1.drop 1024).take 512 = ((memO (newK C D) 64 C D).drop 1024).take 512 ∧
      wholeB (splice (zonO (newK C D) 64) (1024 / 64 : Int).toNat (List.replicate (1024 / 64 : Int).toNat false)) 1024 1 = false ∧ (zonO (newK C D) 64).length = 64 := by
  obtain ⟨hv, k1, k2⟩ := newK_0 hE
  obtain ⟨rg, ss⟩ := start_s (z := 64) (rep := []) (by omega) (by omega) hc hd (fun v h => by cases h) (by simp) hv k1 k2
  have hO : boxO (newK C D) [] = newX (1024, 1024) [] := by unfold boxO; rw [if_pos hE]
  have hM : memO (newK C D) 64 C D = newB (List.replicate (64 * 64) 0) (1024, 1024) C D := by unfold memO; rw [if_pos hE]
  have hZ : zonO (newK C D) 64 = newT (List.replicate 64 false) (1024, 1024) := by unfold zonO; rw [if_pos hE]
  rw [hO, hM, hZ]
  have RT := newT_rg 64 (by omega)
  have I0 := start_i (z := 64) (rep := []) (by omega) hc hd (fun v h => by cases h) (by simp) k1 k2
  have SL := slF_safe rg RT n I0 ss
  have IY := slF_i n I0
  exact ⟨RT, I0, low_same (by rw [IY.len, I0.len]) SL.low, cleared, newT_len 64 (by omega)⟩
set_option maxRecDepth 10000 in
set_option maxHeartbeats 8000000 in
theorem vstays_few (AW : Hid AwB) (NC : Hid NewC) (SC : Hid SliceC) (CC : Hid ClearC) (A0 : Option Addr) (ca cl : Nat) (C : List Int) (D0 : Option Addr) (cd dl : Nat) (D : List Int) (n : Int)
    (hc : C.length = cl) (hd : D.length = dl) (h1 : cl ≤ 500) (h2 : dl ≤ 500) (hn : 0 ≤ n ∧ n ≤ 255) (w : World) (rA : RowAt w A0 ca C) (rD : RowAt w D0 cd D) :
    Calls Tryz.prog 4 #[.slice A0 cl ca, .slice D0 dl cd, .int .u8 n] w fun e w' => e = .returned (.bool true) ∧ Below w.heap.size w w' := by
  have B0 := Lib.hid (Below.refl w.heap.size w)
  have RA := Lib.hid rA
  have RD := Lib.hid rD
  have HCB := Lib.hid rA.2.2.1
  have HDB := Lib.hid rD.2.2.1
  clear rA rD
  obtain ⟨n0, n1⟩ := hn
  go_enter Tryz.func4, Tryz.ntmps4
  go_wp2_with fail
  refine (AW.out _).mono ?_; rintro e w1 ⟨rfl, hb1⟩
  have B1 := Lib.hid hb1; clear hb1
  go_wp2_with fail
  refine (new_m w 4096 64 (by decide) (by decide) (by decide) B1.out).mono ?_; rintro e w2 ⟨p, g, h, rfl, s, _⟩
  have S3 := Lib.hid (s.below (bel_al (Below.refl _ w2) (.cells #[.int .i64 1024, .int .i64 1024] 31)))
  have X3 : HasB (w2.alloc (.cells #[.int .i64 1024, .int .i64 1024] 31)) w2.heap.size 31 [.int .i64 1024, .int .i64 1024] := HasB.new w2 31 [.int .i64 1024, .int .i64 1024]
  replace X3 := Lib.hid X3
  clear s
  go_wp2_with fail
  generalize hw3 : w2.alloc (.cells #[.int .i64 1024, .int .i64 1024] 31) = w3 at *
  clear hw3
  have C1 := Lib.hid (NC.out p g h _ _ (1024, 1024) A0 ca cl C D0 cd dl D none 0 0 [] w3 (by unfold RgI; omega) hc (by omega) hd (by omega) rfl (by omega) S3.out.at_ (RA.out.below S3.out.bel) (RD.out.below S3.out.bel) (kRow_nil _ _) (RA.out.offG S3.out.g_) (RD.out.offG S3.out.g_))
  simp only at C1
  refine C1.out.mono ?_; rintro e w4 hN
  obtain ⟨QA, qc, TA, tc, rfl, q1, q2, q3, q4⟩ := new_u (by omega) (by omega) hN
  have S4 := Lib.hid (S3.out.chg q3 q4)
  have X4 := Lib.hid (hasb_pass X3.out S3.out.at_ q4 (by decide) (by decide))
  have I0 := Lib.hid (boxO_i (z := 64) (code := C) (data := D) (rep := []) (by omega) HCB.out HDB.out (fun v h => by cases h) (by simp))
  have L4 := Lib.hid (bx_len I0.out.ok.c QA qc TA tc)
  obtain ⟨W5, e5, x5, b5, -⟩ := boxX w4 ((boxO (newK C D) []).cs QA qc TA tc)
  have S5 := Lib.hid (S4.out.below b5)
  have X5 := Lib.hid (X4.out.below b5)
  have K5 := Lib.hid (q1.below b5)
  have V5 := Lib.hid (q2.below b5)
  have Y5 := Lib.hid x5
  unfold Bx.val
  replace e5 := Lib.hid e5
  clear hN C1 q1 q2 q3 q4 S3 X3 S4 X4 x5 b5 RA RD
  have PU := Lib.hid (fun h => stays_pure (C := C) (D := D) h HCB.out HDB.out n.toNat)
  have TR := boxO_tr (newK C D) []
  have hE : newK C D = 0 ∨ newK C D ≠ 0 := Classical.em _
  generalize newK C D = E at *
  generalize boxO E [] = x at *
  generalize memO E 64 C D = M at *
  generalize zonO E 64 = Z at *
  rcases hE with hE | hE
  · obtain ⟨rt, i0, lw, cl0, zl⟩ := PU.out hE
    have RT := Lib.hid rt
    have LW := Lib.hid lw
    have CL := Lib.hid cl0
    have IY := Lib.hid (slF_i n.toNat i0)
    have KL := slF_le (T := Z) n.toNat x M
    have LB : Go.Proofs.YtbgnkljeodandaaGreat.Mm.Bytes ((M.drop 1024).take 512) := take_byte (drop_byte i0.byt _) _
    have LL : ((M.drop 1024).take 512).length = 512 := by rw [List.length_take, List.length_drop, i0.len, zl]; omega
    have C2 := Lib.hid (fun w' (b : MemAt w' p g h M Z) (k : KRow .u32 w' QA qc x.W.rep) (v : EvRow w' TA tc x.W.tr) => SC.out x n p g h M Z w' QA qc TA tc i0.ok (by omega) (by omega) b k v)
    subst hE
    have W1 := rt.wh 1024 512 (by omega)
    rw [decide_eq_true (by omega)] at W1
    unfold Bx.val at C2
    generalize x.cs QA qc TA tc = cs at *
    clear rt lw cl0 i0 PU TR I0
    go_wp2_with (first
      | (refine st_box rfl (.tmp 10) (.tmp 47) rfl rfl w4 _ rfl rfl cs L4.out.1 L4.out.2 rfl rfl W5 e5.out ?_))
    refine (read_i S5.out.at_ 1024 512 W1).mono ?_; rintro e w6 ⟨rfl, hr6, hb6⟩
    have S6 := Lib.hid (S5.out.below hb6)
    have X6 := Lib.hid (X5.out.below hb6)
    have Y6 := Lib.hid (Y5.out.below hb6)
    have HR6 := Lib.hid hr6
    have gz := S5.out.at_.bytes.lt
    have hz := S5.out.at_.zones.lt
    have C3 := Lib.hid (C2.out w6 S6.out.at_ (K5.out.below hb6) (V5.out.below hb6))
    clear hr6 hb6 C2 S5 X5 Y5 K5 V5 e5
    go_wp2_with (first
      | (refine ld_box rfl (.tmp 10) rfl w4.heap.size rfl cs L4.out.1 Y6.out ?_))
    refine C3.out.mono ?_; rintro e w7 ⟨QB, qd, TB, td, rfl, q1, q2, q3, q4⟩
    have S7 := Lib.hid (S6.out.chg q3 q4.wide)
    have X7 := Lib.hid (hasb_pass X6.out S6.out.at_ q4.wide (by decide) (by decide))
    have HR7 := Lib.hid (HR6.out.chg q4 (by omega) (by omega))
    clear q1 q2 q3 q4 C3 S6 X6 Y6 HR6 L4
    generalize (slF Z n.toNat x M).2.2 = kk at *
    generalize (slF Z n.toNat x M).2.1 = M2 at *
    generalize (slF Z n.toNat x M).1 = y at *
    have L7 := Lib.hid (bx_len IY.out.ok.c QB qd TB td)
    obtain ⟨v0, v1, v2, v3, v4, v5, v6, v7, v8, v9, v10, ec, ev⟩ := bx_cs IY.out.ok.c
    obtain ⟨W8, e8, x8, b8, -⟩ := boxX w7 (y.cs QB qd TB td)
    have S8 := Lib.hid (S7.out.below b8)
    have X8 := Lib.hid (X7.out.below b8)
    have HR8 := Lib.hid (HR7.out.below b8)
    have Y8 := Lib.hid x8
    unfold Bx.val
    have EV := Lib.hid (ev QB qd TB td)
    generalize y.cs QB qd TB td = ds at *
    replace e8 := Lib.hid e8
    clear x8 b8 S7 X7 HR7 ec ev
    go_wp2_with (first
      | (refine st_box rfl (.tmp 14) (.tmp 62) rfl rfl w7 _ rfl rfl ds L7.out.1 L7.out.2 rfl rfl W8 e8.out ?_))
    refine (read_i S8.out.at_ 1024 512 W1).mono ?_; rintro e w9 ⟨rfl, hr9, hb9⟩
    rw [show (1024 : Int).toNat = 1024 from rfl, show (512 : Int).toNat = 512 from rfl, LW.out] at hr9
    have hr8 := HR8.out
    rw [show (1024 : Int).toNat = 1024 from rfl, show (512 : Int).toNat = 512 from rfl] at hr8
    have S9 := Lib.hid (S8.out.below hb9)
    have X9 := Lib.hid (X8.out.below hb9)
    have Y9 := Y8.out.below hb9
    rw [EV.out] at Y9
    have c16 := Y9.cell 16
    have c17 := Y9.cell 17
    simp only [List.getElem?_cons_succ, List.getElem?_cons_zero] at c16 c17
    have r8 := row_blk LB (by rw [LL]; unfold maxLen; omega) (hr8.below hb9)
    have r9 := row_blk LB (by rw [LL]; unfold maxLen; omega) hr9
    have v8 := conv_row r8 512 LL
    have v9 := conv_row r9 512 LL
    rw [LL] at v8 v9
    have hw0 : y.is = 0 → y.wh = 0 := fun h => IY.out.ok.wh0 (by omega)
    generalize y.is = is at *
    generalize y.wh = wh at *
    generalize (M.drop 1024).take 512 = L at *
    clear hr9 hr8 hb9 S8 X8 Y8 HR8 Y9 r8 r9 LW LB EV e8 L7
    have hkk : (kk : Int) ≤ n := by omega
    have hgt : ¬ (n < (kk : Int)) := by omega
    have ST : is ≠ 0 ∨ (is = 0 ∧ wh = 0) := by
      by_cases h : is = 0
      · exact .inr ⟨h, hw0 h⟩
      · exact .inl h
    clear hw0
    have xc := X9.out.cell 0
    have xd := X9.out.cell 1
    simp only [List.getElem?_cons_succ, List.getElem?_cons_zero] at xc xd
    rcases ST with hs | ⟨rfl, rfl⟩
    · have hs1 : (is == 0) = false := by simpa using hs
      clear hs
      go_wp2_with fail
      go_loopw [18] (fun v wr => ∃ k : Nat, v = .int .i64 k ∧ k ≤ 4096 ∧ w9 = wr) (fun v _ => 4096 - (intOf v).toNat)
      case atStart => exact ⟨0, rfl, by omega, rfl⟩
      case round =>
        obtain ⟨k, rfl, hk, rfl⟩ := hrel
        by_cases hlt : k < 4096
        · have hw := RT.out.wh k 1 (by omega)
          have hlt' : (k : Int) < 4096 := by omega
          by_cases hin : k < 1024
          · rw [decide_eq_false (by omega)] at hw
            have d1 : decide (1024 ≤ (k : Int)) = false := by simp; omega
            have TC := there_any S9.out.at_ k (by omega)
            rw [show wholeB Z (k : Int) 1 = false from hw] at TC
            replace TC := Lib.hid TC
            clear hw
            go_wp2_with fail
            refine TC.out.mono ?_; rintro e w' ⟨rfl, rfl⟩
            go_wp2_with fail
            go_roundw
            case rel => exact ⟨k + 1, by go_num, by omega, trivial⟩
            case measure => simp [intOf]; omega
          · have d1 : decide (1024 ≤ (k : Int)) = true := by simp; omega
            by_cases hin2 : k < 2048
            · rw [decide_eq_true (by omega)] at hw
              have d2 : decide ((k : Int) < 2048) = true := by simp; omega
              have TC := there_any S9.out.at_ k (by omega)
              rw [show wholeB Z (k : Int) 1 = true from hw] at TC
              replace TC := Lib.hid TC
              clear hw
              go_wp2_with fail
              refine TC.out.mono ?_; rintro e w' ⟨rfl, rfl⟩
              go_wp2_with fail
              go_roundw
              case rel => exact ⟨k + 1, by go_num, by omega, trivial⟩
              case measure => simp [intOf]; omega
            · rw [decide_eq_false (by omega)] at hw
              have d2 : decide ((k : Int) < 2048) = false := by simp; omega
              have TC := there_any S9.out.at_ k (by omega)
              rw [show wholeB Z (k : Int) 1 = false from hw] at TC
              replace TC := Lib.hid TC
              clear hw
              go_wp2_with fail
              refine TC.out.mono ?_; rintro e w' ⟨rfl, rfl⟩
              go_wp2_with fail
              go_roundw
              case rel => exact ⟨k + 1, by go_num, by omega, trivial⟩
              case measure => simp [intOf]; omega
        · obtain rfl : k = 4096 := by omega
          go_wp2_with fail
          refine (CC.out (1024, 1024) p g h M2 Z w9 (by rw [zl]; decide) S9.out.at_).mono ?_; rintro e w10 ⟨rfl, m10, c10⟩
          have S10 := Lib.hid (S9.out.chg m10 c10)
          clear m10 c10
          go_wp2_with fail
          refine (read_no S10.out.at_ 1024 1 (by omega) CL.out).mono ?_; rintro e w11 ⟨rfl, rfl⟩
          go_wp2
          go_ret
          exact ⟨rfl, S10.out.bel⟩
    · by_cases hkn : (kk : Int) < n
      · have hkd : decide ((kk : Int) < n) = true := by simp; omega
        go_wp2_with fail
        go_loopw [18] (fun v wr => ∃ k : Nat, v = .int .i64 k ∧ k ≤ 4096 ∧ w9 = wr) (fun v _ => 4096 - (intOf v).toNat)
        case atStart => exact ⟨0, rfl, by omega, rfl⟩
        case round =>
          obtain ⟨k, rfl, hk, rfl⟩ := hrel
          by_cases hlt : k < 4096
          · have hw := RT.out.wh k 1 (by omega)
            have hlt' : (k : Int) < 4096 := by omega
            by_cases hin : k < 1024
            · rw [decide_eq_false (by omega)] at hw
              have d1 : decide (1024 ≤ (k : Int)) = false := by simp; omega
              have TC := there_any S9.out.at_ k (by omega)
              rw [show wholeB Z (k : Int) 1 = false from hw] at TC
              replace TC := Lib.hid TC
              clear hw
              go_wp2_with fail
              refine TC.out.mono ?_; rintro e w' ⟨rfl, rfl⟩
              go_wp2_with fail
              go_roundw
              case rel => exact ⟨k + 1, by go_num, by omega, trivial⟩
              case measure => simp [intOf]; omega
            · have d1 : decide (1024 ≤ (k : Int)) = true := by simp; omega
              by_cases hin2 : k < 2048
              · rw [decide_eq_true (by omega)] at hw
                have d2 : decide ((k : Int) < 2048) = true := by simp; omega
                have TC := there_any S9.out.at_ k (by omega)
                rw [show wholeB Z (k : Int) 1 = true from hw] at TC
                replace TC := Lib.hid TC
                clear hw
                go_wp2_with fail
                refine TC.out.mono ?_; rintro e w' ⟨rfl, rfl⟩
                go_wp2_with fail
                go_roundw
                case rel => exact ⟨k + 1, by go_num, by omega, trivial⟩
                case measure => simp [intOf]; omega
              · rw [decide_eq_false (by omega)] at hw
                have d2 : decide ((k : Int) < 2048) = false := by simp; omega
                have TC := there_any S9.out.at_ k (by omega)
                rw [show wholeB Z (k : Int) 1 = false from hw] at TC
                replace TC := Lib.hid TC
                clear hw
                go_wp2_with fail
                refine TC.out.mono ?_; rintro e w' ⟨rfl, rfl⟩
                go_wp2_with fail
                go_roundw
                case rel => exact ⟨k + 1, by go_num, by omega, trivial⟩
                case measure => simp [intOf]; omega
          · obtain rfl : k = 4096 := by omega
            go_wp2_with fail
            refine (CC.out (1024, 1024) p g h M2 Z w9 (by rw [zl]; decide) S9.out.at_).mono ?_; rintro e w10 ⟨rfl, m10, c10⟩
            have S10 := Lib.hid (S9.out.chg m10 c10)
            clear m10 c10
            go_wp2_with fail
            refine (read_no S10.out.at_ 1024 1 (by omega) CL.out).mono ?_; rintro e w11 ⟨rfl, rfl⟩
            go_wp2
            go_ret
            exact ⟨rfl, S10.out.bel⟩
      · have hkd : decide ((kk : Int) < n) = false := by simp; omega
        clear hkn
        go_wp2_with fail
        go_loopw [18] (fun v wr => ∃ k : Nat, v = .int .i64 k ∧ k ≤ 4096 ∧ w9 = wr) (fun v _ => 4096 - (intOf v).toNat)
        case atStart => exact ⟨0, rfl, by omega, rfl⟩
        case round =>
          obtain ⟨k, rfl, hk, rfl⟩ := hrel
          by_cases hlt : k < 4096
          · have hw := RT.out.wh k 1 (by omega)
            have hlt' : (k : Int) < 4096 := by omega
            by_cases hin : k < 1024
            · rw [decide_eq_false (by omega)] at hw
              have d1 : decide (1024 ≤ (k : Int)) = false := by simp; omega
              have TC := there_any S9.out.at_ k (by omega)
              rw [show wholeB Z (k : Int) 1 = false from hw] at TC
              replace TC := Lib.hid TC
              clear hw
              go_wp2_with fail
              refine TC.out.mono ?_; rintro e w' ⟨rfl, rfl⟩
              go_wp2_with fail
              go_roundw
              case rel => exact ⟨k + 1, by go_num, by omega, trivial⟩
              case measure => simp [intOf]; omega
            · have d1 : decide (1024 ≤ (k : Int)) = true := by simp; omega
              by_cases hin2 : k < 2048
              · rw [decide_eq_true (by omega)] at hw
                have d2 : decide ((k : Int) < 2048) = true := by simp; omega
                have TC := there_any S9.out.at_ k (by omega)
                rw [show wholeB Z (k : Int) 1 = true from hw] at TC
                replace TC := Lib.hid TC
                clear hw
                go_wp2_with fail
                refine TC.out.mono ?_; rintro e w' ⟨rfl, rfl⟩
                go_wp2_with fail
                go_roundw
                case rel => exact ⟨k + 1, by go_num, by omega, trivial⟩
                case measure => simp [intOf]; omega
              · rw [decide_eq_false (by omega)] at hw
                have d2 : decide ((k : Int) < 2048) = false := by simp; omega
                have TC := there_any S9.out.at_ k (by omega)
                rw [show wholeB Z (k : Int) 1 = false from hw] at TC
                replace TC := Lib.hid TC
                clear hw
                go_wp2_with fail
                refine TC.out.mono ?_; rintro e w' ⟨rfl, rfl⟩
                go_wp2_with fail
                go_roundw
                case rel => exact ⟨k + 1, by go_num, by omega, trivial⟩
                case measure => simp [intOf]; omega
          · obtain rfl : k = 4096 := by omega
            go_wp2_with fail
            refine (CC.out (1024, 1024) p g h M2 Z w9 (by rw [zl]; decide) S9.out.at_).mono ?_; rintro e w10 ⟨rfl, m10, c10⟩
            have S10 := Lib.hid (S9.out.chg m10 c10)
            clear m10 c10
            go_wp2_with fail
            refine (read_no S10.out.at_ 1024 1 (by omega) CL.out).mono ?_; rintro e w11 ⟨rfl, rfl⟩
            go_wp2
            go_ret
            exact ⟨rfl, S10.out.bel⟩
  · have hq : (E != 0) = true := by simpa using hE
    generalize x.cs QA qc TA tc = cs at *
    clear PU TR I0 hE X5 K5 V5 Y5
    have B5 := Lib.hid S5.out.bel
    go_wp2_with (first
      | (refine st_box rfl (.tmp 10) (.tmp 47) rfl rfl w4 _ rfl rfl cs L4.out.1 L4.out.2 rfl rfl W5 e5.out ?_))
    go_ret
    exact ⟨rfl, B5.out⟩
theorem vstays_long (AW : Hid AwB) (A0 : Option Addr) (ca cl : Nat) (D0 : Option Addr) (cd dl : Nat) (n : Int)
    (m1 : cl ≤ maxLen) (m2 : dl ≤ maxLen) (hl : 500 < cl ∨ (cl ≤ 500 ∧ 500 < dl)) (w : World) :
    Calls Tryz.prog 4 #[.slice A0 cl ca, .slice D0 dl cd, .int .u8 n] w fun e w' => e = .returned (.bool true) ∧ Below w.heap.size w w' := by
  unfold maxLen at m1 m2
  rcases hl with h | ⟨h1, h⟩
  all_goals
    go_enter Tryz.func4, Tryz.ntmps4
    go_wp2_with fail
    refine (AW.out _).mono ?_; rintro e w1 ⟨rfl, hb1⟩
    have B1 := Lib.hid hb1; clear hb1
    go_wp2_with fail
    refine (AW.out _).mono ?_; rintro e w2 ⟨rfl, hb2⟩
    have B2 := Lib.hid (bel_then B1.out hb2); clear hb2
    go_wp2_with fail
    go_ret
    exact ⟨rfl, B2.out⟩
theorem vstays (AW : Hid AwB) (NC : Hid NewC) (SC : Hid SliceC) (CC : Hid ClearC) (A0 : Option Addr) (ca : Nat) (C : List Int) (D0 : Option Addr) (cd : Nat) (D : List Int) (n : Int) (w : World) (rA : RowAt w A0 ca C) (rD : RowAt w D0 cd D) (hn : (Lit.int .u8 n).wf = true) :
    Calls Tryz.prog 4 #[.slice A0 C.length ca, .slice D0 D.length cd, .int .u8 n] w fun e w' => e = .returned (.bool true) ∧ Below w.heap.size w w' := by
  by_cases h : C.length ≤ 500 ∧ D.length ≤ 500
  · exact vstays_few AW NC SC CC A0 ca _ C D0 cd _ D n rfl rfl h.1 h.2 (bounds_u8 hn) w rA rD
  · exact vstays_long AW A0 ca _ D0 cd _ n (Nat.le_trans rA.1 rA.2.1) (Nat.le_trans rD.1 rD.2.1) (by omega) w
end Go.Proofs.YtbgnkljeodandaaGreat.Mm
