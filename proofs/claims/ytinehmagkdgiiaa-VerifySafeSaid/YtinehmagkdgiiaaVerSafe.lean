/- The statement VerifySafe, walked, over the contracts of package verify. -/
import Derived.Test.YtinehmagkdgiiaaVerState
import Derived.Test.YtinehmagkdgiiaaVerC
namespace Go.Proofs.Ytinehmagkdgiiaa.Mm
open Go.ChangeShapes Go.WideShapes Go.ChangeAt Go.RowKit
set_option linter.unusedVariables false

set_option maxRecDepth 100000 in
set_option maxHeartbeats 8000000 in
theorem vsafe_main (AW : Hid AwC) (VC : Hid CodeC) (VF : Hid FitsC) (A : Option Addr) (cap n : Nat) (code : List Int) (hn : code.length = n) (h500 : n ≤ 500) (hE : verE code = 0) (r0 r1 r2 r3 r4 r5 r6 r7 : Int) (hr : ∀ x ∈ [r0, r1, r2, r3, r4, r5, r6, r7], U32 x) (lg pl : Int)
    (size half base z : Nat) (hsz : size = 2 * half) (hz : 4 * size = 64 * z) (h64 : 64 ≤ half) (h1024 : half ≤ 1024) (hbase : base = size ∨ base = 2 * size) (hfit : fitsB n size = true) (hnl : n < half) (hsh : ∀ w, (Op.shift BinOp.shl .i64 128 .u8 (lg.tmod 5)).run Try.prog w = .ok (.int .i64 size) w)
    (q d : Int) (hp1 : IntKind.i64.wrap pl = pl) (hp2 : pl.tmod 2 = q) (hp3 : IntKind.i64.wrap (1 + q) = d) (hp4 : IntKind.i64.wrap ((size : Int) * d) = base) (w : World) (r : RowAt w A cap code) :
    Calls Try.prog 4 #[.slice A n cap, .agg #[.int .u32 r0, .int .u32 r1, .int .u32 r2, .int .u32 r3, .int .u32 r4, .int .u32 r5, .int .u32 r6, .int .u32 r7], .int .u8 lg, .int .u8 pl] w fun e w' => e = .returned (.bool true) ∧ Below w.heap.size w w' := by
  have C1 := Lib.hid (fun w' (k : Below w.heap.size w w') => VC.out A cap n code hn w' (r.below k))
  have C7 := Lib.hid (fun w' (k : Below w.heap.size w w') => Starts_any A cap n code hn w' (r.below k))
  have hm0 := (ver_0 hE).1
  have hsc : scanE code = 0 := (rule_scan (may_0 hm0).1).1
  unfold StartsP at C7
  rw [hE] at C1
  rw [hsc] at C7
  have X0 := Lib.hid (HasB.new w 37 [.int .u32 r0, .int .u32 r1, .int .u32 r2, .int .u32 r3, .int .u32 r4, .int .u32 r5, .int .u32 r6, .int .u32 r7])
  have B0 := Lib.hid (bel_al (Below.refl w.heap.size w) (.cells #[.int .u32 r0, .int .u32 r1, .int .u32 r2, .int .u32 r3, .int .u32 r4, .int .u32 r5, .int .u32 r6, .int .u32 r7] 37))
  have V2 := Lib.hid (VF.out n size (by omega) (by omega))
  rw [hfit] at V2
  have W4 : IntKind.i64.wrap (4 * (size : Int)) = 4 * (size : Int) := IntWalk.i64_in _ (by omega)
  have wu1 : IntKind.u32.wrap (base : Int) = base := by show (base : Int) % 4294967296 = base; omega
  have wu2 : IntKind.u32.wrap (size : Int) = size := by show (size : Int) % 4294967296 = size; omega
  have td1 : (size : Int).tdiv 2 = half := by rw [Int.tdiv_eq_ediv_of_nonneg (by omega)]; omega
  have td2 : (size : Int) / 2 = half := by omega
  have wd1 : IntKind.i64.wrap (half : Int) = half := IntWalk.i64_in _ (by omega)
  obtain ⟨zl, hzl⟩ : ∃ zl, zl = base + half := ⟨_, rfl⟩
  obtain ⟨ze, hze⟩ : ∃ ze, ze = base + size := ⟨_, rfl⟩
  obtain ⟨zf, hzf⟩ : ∃ zf, zf = base + 2 * half + 3 := ⟨_, rfl⟩
  have wz1 : IntKind.i64.wrap ((base : Int) + half) = zl := by rw [hzl]; push_cast; exact IntWalk.i64_in _ (by omega)
  have wz2 : IntKind.i64.wrap ((base : Int) + size) = ze := by rw [hze]; push_cast; exact IntWalk.i64_in _ (by omega)
  have wz3 : IntKind.i64.wrap ((ze : Int) + 3) = zf := by rw [hzf, hze, hsz]; push_cast; exact IntWalk.i64_in _ (by omega)
  have h5 : n ≤ 500 := h500
  have hs0 : 128 ≤ (size : Int) := by omega
  have hs1 : (size : Int) ≤ 2048 := by omega
  have BU := Lib.hid (show U32 (base : Int) ∧ U32 (size : Int) ∧ (size : Int) = 2 * (half : Int) from ⟨⟨by omega, by omega⟩, ⟨by omega, by omega⟩, by omega⟩)
  have hRG : Regn code base half z (splice (List.replicate (64 * z) 0) base code) := ⟨by omega, by omega, by omega, by rw [splice_len _ _ _ (by rw [List.length_replicate]; omega), List.length_replicate], by omega, r.2.2.1, hm0, fun i hi => low_of (half := half) (by omega) i⟩
  have hBB : Bytes (splice (List.replicate (64 * z) (0 : Int)) base code) := fun x hx => by
    rcases splice_mem hx with h | h
    · rw [List.eq_of_mem_replicate h]; decide
    · exact r.2.2.1 x h
  obtain ⟨N, hN⟩ : ∃ N, N = 64 * z := ⟨_, rfl⟩
  have NI := Lib.hid (show 4 * (size : Int) = (N : Int) by omega)
  have EN := Lib.hid (show (4 * (size : Int)).toNat = N by omega)
  have WH := Lib.hid (show wholeB (List.replicate z true) 0 (4 * (size : Int)) = true by
    have := all_true z 0 (64 * z) (by omega)
    rwa [show ((64 * z : Nat) : Int) = 4 * (size : Int) by omega] at this)
  have WB := Lib.hid (show wholeB (List.replicate z true) (base : Int) (n : Int) = true from all_true z base n (by omega))
  have HZI := Lib.hid (show 4 * (size : Int) = 64 * (z : Int) by omega)
  have ZL := Lib.hid hzl
  have ZF := Lib.hid hzf
  have HSZ := Lib.hid hsz
  have HZ := Lib.hid hz
  have H64 := Lib.hid h64
  have H1024 := Lib.hid h1024
  have HBASE := Lib.hid hbase
  have HN := Lib.hid hn
  have HNN := Lib.hid hN
  have HR := Lib.hid hr
  have RG := Lib.hid hRG
  have BBY := Lib.hid hBB
  have R := Lib.hid r
  clear hsz hz h64 h1024 hbase hfit hn hE hr r h500 VC VF hzl hze hzf hRG hBB hN hm0 hsc hnl
  go_enter Try.func4, Try.ntmps4
  go_wp2_with fail
  refine (AW.out _).mono ?_; rintro e w1 ⟨rfl, hb1⟩
  have B1 := Lib.hid (bel_then B0.out hb1)
  have X1 := Lib.hid (X0.out.below hb1)
  clear hb1 X0 B0
  go_wp2_with fail
  refine (C1.out w1 B1.out).mono ?_; rintro e w2 ⟨rfl, hb2⟩
  have B2 := Lib.hid (bel_then B1.out hb2)
  have X2 := Lib.hid (X1.out.below hb2)
  clear hb2 X1 B1 C1
  go_wp2_with fail
  refine (V2.out w2).mono ?_; rintro e w3 ⟨rfl, hb3⟩
  have B3 := Lib.hid (bel_then B2.out hb3)
  have X3 := Lib.hid (X2.out.below hb3)
  clear hb3 X2 B2 V2
  go_wp2_with fail
  refine (new_m w _ z HZI.out (by have := HZ.out; have := H64.out; have := HSZ.out; omega) (by have := HZ.out; have := H1024.out; have := HSZ.out; omega) B3.out).mono ?_
  rintro e w4 ⟨p, g, h, rfl, s4, _, lg4, lh4, b4⟩
  have hbx := X3.out.lt
  have NG := Lib.hid (show w.heap.size ≠ g ∧ w.heap.size ≠ h from ⟨by omega, by omega⟩)
  have S4 := Lib.hid s4
  have X4 := Lib.hid (X3.out.below b4)
  clear s4 b4 X3 lg4 lh4 hbx
  go_wp2_with fail
  refine (set_m S4.out _ HZI.out).mono ?_; rintro e w5 ⟨rfl, s5, k5⟩
  have S5 := Lib.hid s5
  have X5 := Lib.hid (X4.out.chg k5 NG.out.1 NG.out.2)
  clear s5 k5 S4 X4
  have WR := write_m S5.out (base : Int) A cap code (R.out.below S5.out.bel) (by rw [HN.out]; exact WB.out)
  rw [HN.out, Int.toNat_natCast] at WR
  have WR := Lib.hid WR
  generalize splice (List.replicate (64 * z) (0 : Int)) base code = BB at *
  go_wp2_with fail
  refine WR.out.mono ?_; rintro e w6 ⟨rfl, s6, k6⟩
  have S6 := Lib.hid s6
  have X6 := Lib.hid (X5.out.chg k6 NG.out.1 NG.out.1)
  clear s6 k6 S5 X5 WR
  go_wp2_with fail
  refine (C7.out w6 S6.out.bel).mono ?_; rintro e w7 ⟨A7, c7, rfl, i7, b7⟩
  have S7 := Lib.hid (S6.out.below b7)
  have X7 := Lib.hid (X6.out.below b7)
  have I7 := Lib.hid i7
  clear i7 b7 S6 X6 C7
  have hx := X7.out
  have x0 := hx.cell 0
  have x1 := hx.cell 1
  have x2 := hx.cell 2
  have x3 := hx.cell 3
  have x4 := hx.cell 4
  have x5 := hx.cell 5
  have x6 := hx.cell 6
  have x7 := hx.cell 7
  simp only [List.getElem?_cons_zero, List.getElem?_cons_succ] at x0 x1 x2 x3 x4 x5 x6 x7
  clear hx
  obtain ⟨W8, e8, d8⟩ : ∃ W8, w7.alloc (.cells #[.int .u32 base, .int .u32 r0, .int .u32 r1, .int .u32 r2, .int .u32 r3, .int .u32 r4, .int .u32 r5, .int .u32 r6, .int .u32 r7, .int .u32 base, .int .u32 size] 47) = W8 ∧ HasB W8 w7.heap.size 47 (Cp.cs ⟨base, [r0, r1, r2, r3, r4, r5, r6, r7], base, size⟩) := ⟨_, rfl, HasB.new w7 47 _⟩
  have b8 : Below w7.heap.size w7 W8 := by rw [← e8]; exact bel_al (Below.refl _ _) _
  have D8 := Lib.hid d8
  have S8 := Lib.hid (S7.out.below b8)
  have I8 := Lib.hid (I7.out.below b8)
  have HLO := Lib.hid S7.out.bel.size
  clear d8 b8 S7 I7 X7
  have TK := Lib.hid (show ∀ L : List Int, L.length = 64 * z → ((L.drop (0 : Int).toNat).take N) = L from fun L hL => by rw [show (0 : Int).toNat = 0 from rfl, List.drop_zero, HNN.out, ← hL, List.take_length])
  have RN := read_i S8.out.at_ 0 (4 * (size : Int)) WH.out
  rw [EN.out, TK.out BB RG.out.hl] at RN
  have RN := Lib.hid RN
  go_wp2_with fail
  clear e8 x0 x1 x2 x3 x4 x5 x6 x7
  refine RN.out.mono ?_; rintro e w9 ⟨rfl, rn, b9⟩
  have hgw : g < W8.heap.size := S8.out.at_.bytes.lt
  have VS0 := Lib.hid (show VsS w p g h w7.heap.size W8.heap.size z A7 c7 (posI (scanL code)) BB ⟨base, [r0, r1, r2, r3, r4, r5, r6, r7], base, size⟩ BB w9 from ⟨S8.out.below b9, D8.out.below b9, rn, I8.out.below b9, HLO.out, hgw⟩)
  have SI0 := Lib.hid (safe_start RG.out BBY.out (c := ⟨base, [r0, r1, r2, r3, r4, r5, r6, r7], base, size⟩) ⟨BU.out.1, rfl, HR.out, BU.out.1, BU.out.2.1⟩ rfl BU.out.2.2 rfl)
  clear rn b9 hgw RN S8 D8 I8 HLO
  generalize w7.heap.size = D at *
  generalize W8.heap.size = wa at *
  have hlzb : (scanL code).length ≤ 4096 := scanL_len R.out.2.2.1
  generalize hlz : (scanL code).length = lz at *
  have LZ := Lib.hid (show (posI (scanL code)).length = lz by rw [posI_len]; exact hlz)
  clear hlz
  go_wp2
  go_loopw [19] (fun i wr => ∃ (k : Nat) (c : Cp) (B : List Int), i = .int .i64 k ∧ k ≤ 100 ∧ Hid (VsS w p g h D wa z A7 c7 (posI (scanL code)) BB c B wr) ∧ Hid (SafeI code base half BB c B)) (fun i _ => 100 - (intOf i).toNat)
  case atStart => exact ⟨0, _, _, rfl, by omega, VS0, SI0⟩
  case round =>
    obtain ⟨k, c, B, rfl, hk, VS, SI⟩ := hrel
    have BBL := Lib.hid (RG.out.hl.trans HNN.out.symm)
    by_cases hk100 : k < 100
    · obtain ⟨pp, hpc, hph, hpl⟩ := safe_place SI.out
      obtain ⟨x, hx⟩ : ∃ x, StepIs c B (List.replicate z true) x := step_or _ _ _
      have hok := step_ok SI.out.ok VS.out.m.at_.byte VS.out.m.at_.len hx
      have hsafe := safe_step RG.out SI.out hx
      have hd := step_any VS.out.m.at_ SI.out.ok hx
      obtain ⟨q0, q1, q2, q3, q4, q5, q6, q7, hq⟩ := SI.out.ok.eight
      obtain ⟨t0, t1, t2, t3, t4, t5, t6, t7, ht⟩ := hok.1.eight
      have hcs : c.cs = [.int .u32 c.pc, .int .u32 q0, .int .u32 q1, .int .u32 q2, .int .u32 q3, .int .u32 q4, .int .u32 q5, .int .u32 q6, .int .u32 q7, .int .u32 c.b, .int .u32 c.s] := by unfold Cp.cs; rw [hq]; rfl
      have hval : c.val = .agg #[.int .u32 c.pc, .int .u32 q0, .int .u32 q1, .int .u32 q2, .int .u32 q3, .int .u32 q4, .int .u32 q5, .int .u32 q6, .int .u32 q7, .int .u32 c.b, .int .u32 c.s] := by unfold Cp.val; rw [hcs]
      have hxc : x.c.cs = [.int .u32 x.c.pc, .int .u32 t0, .int .u32 t1, .int .u32 t2, .int .u32 t3, .int .u32 t4, .int .u32 t5, .int .u32 t6, .int .u32 t7, .int .u32 x.c.b, .int .u32 x.c.s] := by unfold Cp.cs; rw [ht]; rfl
      have hxv : x.c.val = .agg #[.int .u32 x.c.pc, .int .u32 t0, .int .u32 t1, .int .u32 t2, .int .u32 t3, .int .u32 t4, .int .u32 t5, .int .u32 t6, .int .u32 t7, .int .u32 x.c.b, .int .u32 x.c.s] := by unfold Cp.val; rw [hxc]
      have D6 := VS.out.d
      rw [hcs] at D6
      rw [hval] at hd
      obtain ⟨⟨k0, k1, k2, k3, k4, k5, k6, k7, k8, k9, k10⟩, _⟩ := has11 D6
      have hpb := SI.out.ok.pc
      have wpc : IntKind.i64.wrap c.pc = c.pc := IntWalk.i64_in _ (by obtain ⟨a1, a2⟩ := hpb; omega)
      have wsub : IntKind.i64.wrap (c.pc - (base : Int)) = (pp : Int) := by rw [hpc, show (base : Int) + (pp : Int) - (base : Int) = (pp : Int) by omega]; exact IntWalk.i64_in _ (by have := H1024.out; omega)
      have g1 : decide ((half : Int) ≤ (pp : Int)) = false := decide_eq_false (by omega)
      have g2 : decide (half ≤ pp) = false := decide_eq_false (by omega)
      obtain ⟨b0, hb0⟩ : ∃ b0, decide (n ≤ pp) = b0 := ⟨_, rfl⟩
      have hb1 : decide ((n : Int) ≤ (pp : Int)) = b0 := by rw [← hb0]; exact decide_eq_decide.2 (by omega)
      have HPL := Lib.hid (show b0 = true ∨ (pp : Int) ∈ posI (scanL code) from by
        rcases hpl with hh | hh
        · exact .inl (by rw [← hb0]; exact decide_eq_true (by rw [← HN.out]; exact hh))
        · exact .inr hh)
      have HD := Lib.hid hd
      have HXC := Lib.hid hxc
      have HXV := Lib.hid hxv
      have HOKC := Lib.hid SI.out.ok
      have HS := Lib.hid hsafe
      have hk1 : (k : Int) < 100 := by omega
      clear hx hok hsafe hd hcs hval hxc hxv hq ht D6 hpb hpc hpl hph VS0 SI0
      go_wp2
      go_loopw [21, 22] (fun f i wq => ∃ (t : Nat) (b : Bool), i = .int .i64 t ∧ t ≤ lz ∧ f = .bool b ∧ Hid (b = (b0 || anyE (posI (scanL code)) t pp)) ∧ wq = wr) (fun _ i _ => lz - (intOf i).toNat)
      case atStart => exact ⟨0, b0, rfl, Nat.zero_le _, rfl, Lib.hid (by rw [anyE_0]; simp), rfl⟩
      case round =>
        obtain ⟨t, b, rfl, ht, rfl, HF, rfl⟩ := hrel
        by_cases htl : t < lz
        · obtain ⟨a, rfl, hab, hc⟩ := VS.out.row.2.2 (by intro e; have := LZ.out; rw [e] at this; simp at this; omega)
          have e1 := hc t (by rw [LZ.out]; exact htl)
          have HSt := Lib.hid (anyE_step (A := posI (scanL code)) (pp : Int) (by rw [LZ.out]; exact htl : t < (posI (scanL code)).length))
          clear hc
          generalize (posI (scanL code)).getD t 0 = P at *
          cases b
          · cases hqq : (P == (pp : Int))
            · have HF2 := Lib.hid (show false = (b0 || anyE (posI (scanL code)) (t + 1) pp) by rw [HSt.out, ← Bool.or_assoc, ← HF.out, hqq]; rfl)
              go_wp2
              go_roundw
              case rel => exact ⟨t + 1, _, by go_num, by omega, rfl, HF2, trivial⟩
              case measure => simp [intOf]; omega
            · have HF2 := Lib.hid (show true = (b0 || anyE (posI (scanL code)) (t + 1) pp) by rw [HSt.out, ← Bool.or_assoc, ← HF.out, hqq]; rfl)
              go_wp2
              go_roundw
              case rel => exact ⟨t + 1, _, by go_num, by omega, rfl, HF2, trivial⟩
              case measure => simp [intOf]; omega
          · have HF2 := Lib.hid (show true = (b0 || anyE (posI (scanL code)) (t + 1) pp) by rw [HSt.out, ← Bool.or_assoc, ← HF.out]; rfl)
            go_wp2
            go_roundw
            case rel => exact ⟨t + 1, _, by go_num, by omega, rfl, HF2, trivial⟩
            case measure => simp [intOf]; omega
        · obtain rfl : t = lz := by omega
          have hbt : b = true := by
            rw [HF.out]
            rcases HPL.out with hh | hh
            · rw [hh]; rfl
            · have := anyE_all hh
              rw [LZ.out] at this
              rw [this, Bool.or_true]
          subst hbt
          clear HF HPL
          go_wp2_with fail
          refine HD.out.mono ?_; rintro e w7 ⟨rfl, m7, c7'⟩
          rw [HXV.out]
          obtain ⟨W8, e8, vt⟩ := VS.out.step m7 c7' #[.int .u32 x.c.pc, .int .u32 t0, .int .u32 t1, .int .u32 t2, .int .u32 t3, .int .u32 t4, .int .u32 t5, .int .u32 t6, .int .u32 t7, .int .u32 x.c.b, .int .u32 x.c.s] HXC.out.symm
          obtain ⟨W9, e9⟩ : ∃ W9, (((((((((((W8.setCell ⟨D, 0, none⟩ (.int .u32 x.c.pc)).setCell ⟨D, 1, none⟩ (.int .u32 t0)).setCell ⟨D, 2, none⟩ (.int .u32 t1)).setCell ⟨D, 3, none⟩ (.int .u32 t2)).setCell ⟨D, 4, none⟩ (.int .u32 t3)).setCell ⟨D, 5, none⟩ (.int .u32 t4)).setCell ⟨D, 6, none⟩ (.int .u32 t5)).setCell ⟨D, 7, none⟩ (.int .u32 t6)).setCell ⟨D, 8, none⟩ (.int .u32 t7)).setCell ⟨D, 9, none⟩ (.int .u32 x.c.b)).setCell ⟨D, 10, none⟩ (.int .u32 x.c.s)) = W9 := ⟨_, rfl⟩
          have vt9 := vt.put HOKC.out _ _ _ _ _ _ _ _ _ _ _ HXC.out
          rw [e9] at vt9
          have VT9 := Lib.hid vt9
          have hE8 := vt.e
          rw [HXC.out] at hE8
          have hD8 := vt.d
          obtain ⟨u0, u1, u2, u3, u4, u5, u6, u7, u8, u9, u10, hu⟩ : ∃ a0 a1 a2 a3 a4 a5 a6 a7 a8 a9 a10, c.cs = [a0, a1, a2, a3, a4, a5, a6, a7, a8, a9, a10] := by
            have hl := Cp.cs_len HOKC.out
            generalize c.cs = L at hl
            match L, hl with
            | [a0, a1, a2, a3, a4, a5, a6, a7, a8, a9, a10], _ => exact ⟨_, _, _, _, _, _, _, _, _, _, _, rfl⟩
          rw [hu] at hD8
          obtain ⟨⟨l0, l1, l2, l3, l4, l5, l6, l7, l8, l9, l10⟩, _⟩ := has11 hE8
          obtain ⟨⟨v0, v1, v2, v3, v4, v5, v6, v7, v8, v9, v10⟩, ⟨f0, f1, f2, f3, f4, f5, f6, f7, f8, f9, f10⟩⟩ := has11 hD8
          obtain ⟨⟨n0, n1⟩, _⟩ := has2 vt9.eo
          clear hu hE8 hD8 vt vt9 m7 c7' k0 k1 k2 k3 k4 k5 k6 k7 k8 k9 k10 HD VS
          have HSI := SI
          rcases HS.out with ⟨hw, hB⟩ | ⟨hw, hI⟩
          · have SX := Lib.hid VT9.out.s
            have SAME := Lib.hid (show ∀ i, i < base + half ∨ base + 2 * half + 3 ≤ i → x.B.getD i 0 = BB.getD i 0 by rw [hB]; exact SI.out.same)
            have BXL := Lib.hid (show x.B.length = N by rw [hB]; exact SI.out.len.trans BBL.out)
            have TK2 := Lib.hid (TK.out x.B (by rw [hB]; exact SI.out.len.trans RG.out.hl))
            clear HS HSI SI hB VT9
            generalize x.what = wh at *
            rcases hw with rfl | rfl
            · skip
              have RN := Lib.hid (fun (W : World) (m : MSt w p g h x.B (List.replicate z true) W) => read_i m.at_ 0 (4 * (size : Int)) WH.out)
              have RN2 := Lib.hid (RN.out _ SX.out.m)
              rw [EN.out, TK2.out] at RN2
              clear RN
              go_wp2_with fail
              refine RN2.out.mono ?_; rintro e w20 ⟨rfl, rn, b20⟩
              have SY := Lib.hid (SX.out.below b20)
              have BN := Lib.hid (bel_then SX.out.m.bel b20)
              have NW := Lib.hid rn
              clear rn b20 RN2 SX
              generalize W9.heap.size = nw at *
              go_wp2
              go_loopw [27] (fun i wr => ∃ (j : Nat), i = .int .i64 j ∧ j ≤ N ∧ Hid (Below w20.heap.size w20 wr)) (fun i _ => N - (intOf i).toNat)
              case atStart => exact ⟨0, rfl, Nat.zero_le _, Lib.hid (Below.refl _ _)⟩
              case round =>
                obtain ⟨j, rfl, hj, HB⟩ := hrel
                by_cases hjl : j < N
                · have en := getD_u8 (NW.out.below HB.out) j (by rw [BXL.out]; exact hjl)
                  have ew := getD_u8 (SY.out.ra.below HB.out) j (by rw [BBL.out]; exact hjl)
                  have hS := SAME.out j
                  generalize x.B.getD j 0 = vb at *
                  generalize BB.getD j 0 = va at *
                  have hjN : (j : Int) < 4 * (size : Int) := by have := NI.out; omega
                  by_cases hv : vb = va
                  · subst hv
                    clear hS
                    go_wp2_with fail
                    go_quiet (fail)
                    go_wp2
                    go_roundw
                    case rel => exact ⟨j + 1, by go_num, by omega, Lib.hid (below_drewN HB.out _)⟩
                    case measure => simp [intOf]; omega
                  · have hv1 : (vb != va) = true := by simpa using hv
                    have hz1 : ¬ (j < base + half ∨ base + 2 * half + 3 ≤ j) := fun hh => hv (hS hh)
                    have q1 : decide ((j : Int) < (zl : Int)) = false := decide_eq_false (by have := ZL.out; omega)
                    have q2 : decide (j < zl) = false := decide_eq_false (by have := ZL.out; omega)
                    have q3 : decide ((zf : Int) ≤ (j : Int)) = false := decide_eq_false (by have := ZF.out; omega)
                    have q4 : decide (zf ≤ j) = false := decide_eq_false (by have := ZF.out; omega)
                    clear hS hz1 hv
                    go_wp2_with fail
                    go_quiet (fail)
                    go_wp2
                    go_roundw
                    case rel => exact ⟨j + 1, by go_num, by omega, Lib.hid (below_drewN HB.out _)⟩
                    case measure => simp [intOf]; omega
                · obtain rfl : j = N := by omega
                  have hjN : ¬ ((j : Int) < 4 * (size : Int)) := by have := NI.out; omega
                  go_wp2
                  go_ret
                  exact ⟨rfl, bel_then BN.out HB.out⟩
            · skip
              have RN := Lib.hid (fun (W : World) (m : MSt w p g h x.B (List.replicate z true) W) => read_i m.at_ 0 (4 * (size : Int)) WH.out)
              have RN2 := Lib.hid (RN.out _ SX.out.m)
              rw [EN.out, TK2.out] at RN2
              clear RN
              go_wp2_with fail
              refine RN2.out.mono ?_; rintro e w20 ⟨rfl, rn, b20⟩
              have SY := Lib.hid (SX.out.below b20)
              have BN := Lib.hid (bel_then SX.out.m.bel b20)
              have NW := Lib.hid rn
              clear rn b20 RN2 SX
              generalize W9.heap.size = nw at *
              go_wp2
              go_loopw [27] (fun i wr => ∃ (j : Nat), i = .int .i64 j ∧ j ≤ N ∧ Hid (Below w20.heap.size w20 wr)) (fun i _ => N - (intOf i).toNat)
              case atStart => exact ⟨0, rfl, Nat.zero_le _, Lib.hid (Below.refl _ _)⟩
              case round =>
                obtain ⟨j, rfl, hj, HB⟩ := hrel
                by_cases hjl : j < N
                · have en := getD_u8 (NW.out.below HB.out) j (by rw [BXL.out]; exact hjl)
                  have ew := getD_u8 (SY.out.ra.below HB.out) j (by rw [BBL.out]; exact hjl)
                  have hS := SAME.out j
                  generalize x.B.getD j 0 = vb at *
                  generalize BB.getD j 0 = va at *
                  have hjN : (j : Int) < 4 * (size : Int) := by have := NI.out; omega
                  by_cases hv : vb = va
                  · subst hv
                    clear hS
                    go_wp2_with fail
                    go_quiet (fail)
                    go_wp2
                    go_roundw
                    case rel => exact ⟨j + 1, by go_num, by omega, Lib.hid (below_drewN HB.out _)⟩
                    case measure => simp [intOf]; omega
                  · have hv1 : (vb != va) = true := by simpa using hv
                    have hz1 : ¬ (j < base + half ∨ base + 2 * half + 3 ≤ j) := fun hh => hv (hS hh)
                    have q1 : decide ((j : Int) < (zl : Int)) = false := decide_eq_false (by have := ZL.out; omega)
                    have q2 : decide (j < zl) = false := decide_eq_false (by have := ZL.out; omega)
                    have q3 : decide ((zf : Int) ≤ (j : Int)) = false := decide_eq_false (by have := ZF.out; omega)
                    have q4 : decide (zf ≤ j) = false := decide_eq_false (by have := ZF.out; omega)
                    clear hS hz1 hv
                    go_wp2_with fail
                    go_quiet (fail)
                    go_wp2
                    go_roundw
                    case rel => exact ⟨j + 1, by go_num, by omega, Lib.hid (below_drewN HB.out _)⟩
                    case measure => simp [intOf]; omega
                · obtain rfl : j = N := by omega
                  have hjN : ¬ ((j : Int) < 4 * (size : Int)) := by have := NI.out; omega
                  go_wp2
                  go_ret
                  exact ⟨rfl, bel_then BN.out HB.out⟩
          · have HI := Lib.hid hI
            clear HS HSI SI hI
            generalize x.what = wh at *
            rcases hw with rfl | rfl
            · go_wp2
              go_roundw
              case rel => exact ⟨k + 1, x.c, x.B, by go_num, by omega, Lib.hid VT9.out.s, HI⟩
              case measure => simp [intOf]; omega
            · go_wp2
              go_roundw
              case rel => exact ⟨k + 1, x.c, x.B, by go_num, by omega, Lib.hid VT9.out.s, HI⟩
              case measure => simp [intOf]; omega
    · obtain rfl : k = 100 := by omega
      have SX := VS
      have SAME := Lib.hid SI.out.same
      have BXL := Lib.hid (SI.out.len.trans BBL.out)
      have TK2 := Lib.hid (TK.out B (SI.out.len.trans RG.out.hl))
      clear SI VS VS0 SI0
      have RN := Lib.hid (fun (W : World) (m : MSt w p g h B (List.replicate z true) W) => read_i m.at_ 0 (4 * (size : Int)) WH.out)
      have RN2 := Lib.hid (RN.out _ SX.out.m)
      rw [EN.out, TK2.out] at RN2
      clear RN
      go_wp2_with fail
      refine RN2.out.mono ?_; rintro e w20 ⟨rfl, rn, b20⟩
      have SY := Lib.hid (SX.out.below b20)
      have BN := Lib.hid (bel_then SX.out.m.bel b20)
      have NW := Lib.hid rn
      clear rn b20 RN2 SX
      generalize wr.heap.size = nw at *
      go_wp2
      go_loopw [27] (fun i wr => ∃ (j : Nat), i = .int .i64 j ∧ j ≤ N ∧ Hid (Below w20.heap.size w20 wr)) (fun i _ => N - (intOf i).toNat)
      case atStart => exact ⟨0, rfl, Nat.zero_le _, Lib.hid (Below.refl _ _)⟩
      case round =>
        obtain ⟨j, rfl, hj, HB⟩ := hrel
        by_cases hjl : j < N
        · have en := getD_u8 (NW.out.below HB.out) j (by rw [BXL.out]; exact hjl)
          have ew := getD_u8 (SY.out.ra.below HB.out) j (by rw [BBL.out]; exact hjl)
          have hS := SAME.out j
          generalize B.getD j 0 = vb at *
          generalize BB.getD j 0 = va at *
          have hjN : (j : Int) < 4 * (size : Int) := by have := NI.out; omega
          by_cases hv : vb = va
          · subst hv
            clear hS
            go_wp2_with fail
            go_quiet (fail)
            go_wp2
            go_roundw
            case rel => exact ⟨j + 1, by go_num, by omega, Lib.hid (below_drewN HB.out _)⟩
            case measure => simp [intOf]; omega
          · have hv1 : (vb != va) = true := by simpa using hv
            have hz1 : ¬ (j < base + half ∨ base + 2 * half + 3 ≤ j) := fun hh => hv (hS hh)
            have q1 : decide ((j : Int) < (zl : Int)) = false := decide_eq_false (by have := ZL.out; omega)
            have q2 : decide (j < zl) = false := decide_eq_false (by have := ZL.out; omega)
            have q3 : decide ((zf : Int) ≤ (j : Int)) = false := decide_eq_false (by have := ZF.out; omega)
            have q4 : decide (zf ≤ j) = false := decide_eq_false (by have := ZF.out; omega)
            clear hS hz1 hv
            go_wp2_with fail
            go_quiet (fail)
            go_wp2
            go_roundw
            case rel => exact ⟨j + 1, by go_num, by omega, Lib.hid (below_drewN HB.out _)⟩
            case measure => simp [intOf]; omega
        · obtain rfl : j = N := by omega
          have hjN : ¬ ((j : Int) < 4 * (size : Int)) := by have := NI.out; omega
          go_wp2
          go_ret
          exact ⟨rfl, bel_then BN.out HB.out⟩
end Go.Proofs.Ytinehmagkdgiiaa.Mm
