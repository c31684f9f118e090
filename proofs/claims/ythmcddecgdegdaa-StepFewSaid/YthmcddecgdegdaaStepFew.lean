/- The statement StepFew, walked. -/
import Derived.Test.YthmcddecgdegdaaStepSame
import Derived.Test.YthmcddecgdegdaaStepFewMath
import Derived.Deep.DeepCutAuto
namespace Go.Proofs.Ythmcddecgdegdaa.Mm
open Go.ChangeShapes Go.WideShapes Go.ChangeAt Go.RowKit
set_option linter.unusedVariables false

/-- the memory, the processor, in a round's head -/
structure FewS (w : World) (p g h D : Nat) (c : Cp) (B : List Int) (W : World) : Prop where
  m : MSt w p g h B T4 W
  d : HasB W D 57 c.cs
  lo : w.heap.size ≤ D
/-- behind the step -/
structure FewT (w : World) (p g h D E wa nw : Nat) (c : Cp) (x : Ou) (A : List Int) (W : World) : Prop where
  m : MSt w p g h x.B T4 W
  d : HasB W D 57 c.cs
  e : HasB W E 57 x.c.cs
  eo : HasB W (E + 1) 60 [.int .i64 x.what, .int .i64 x.gate]
  ra : HasB W wa 5 (((A.drop 0).take 192).map (Value.int .u8))
  rn : HasB W nw 5 (((x.B.drop 0).take 192).map (Value.int .u8))
  lo : w.heap.size ≤ D
theorem FewT.below {w W W' : World} {p g h D E wa nw : Nat} {c : Cp} {x : Ou} {A : List Int} (t : FewT w p g h D E wa nw c x A W) (b : Below W.heap.size W W') : FewT w p g h D E wa nw c x A W' :=
  ⟨t.m.below b, t.d.below b, t.e.below b, t.eo.below b, t.ra.below b, t.rn.below b, t.lo⟩
theorem FewT.put {w W : World} {p g h D E wa nw : Nat} {c : Cp} {A : List Int} {x : Ou} (t : FewT w p g h D E wa nw c x A W) (hl : c.cs.length = 11) (v0 v1 v2 v3 v4 v5 v6 v7 v8 v9 v10 : Value) (hx : x.c.cs = [v0, v1, v2, v3, v4, v5, v6, v7, v8, v9, v10]) :
    FewS w p g h D x.c x.B (((((((((((W.setCell ⟨D, 0, none⟩ v0).setCell ⟨D, 1, none⟩ v1).setCell ⟨D, 2, none⟩ v2).setCell ⟨D, 3, none⟩ v3).setCell ⟨D, 4, none⟩ v4).setCell ⟨D, 5, none⟩ v5).setCell ⟨D, 6, none⟩ v6).setCell ⟨D, 7, none⟩ v7).setCell ⟨D, 8, none⟩ v8).setCell ⟨D, 9, none⟩ v9).setCell ⟨D, 10, none⟩ v10) := by
  have c1 : Chg D D W (((((((((((W.setCell ⟨D, 0, none⟩ v0).setCell ⟨D, 1, none⟩ v1).setCell ⟨D, 2, none⟩ v2).setCell ⟨D, 3, none⟩ v3).setCell ⟨D, 4, none⟩ v4).setCell ⟨D, 5, none⟩ v5).setCell ⟨D, 6, none⟩ v6).setCell ⟨D, 7, none⟩ v7).setCell ⟨D, 8, none⟩ v8).setCell ⟨D, 9, none⟩ v9).setCell ⟨D, 10, none⟩ v10) := chg_set (chg_set (chg_set (chg_set (chg_set (chg_set (chg_set (chg_set (chg_set (chg_set (chg_set (Chg.refl _ _ _) _ (.inl rfl) _ _) _ (.inl rfl) _ _) _ (.inl rfl) _ _) _ (.inl rfl) _ _) _ (.inl rfl) _ _) _ (.inl rfl) _ _) _ (.inl rfl) _ _) _ (.inl rfl) _ _) _ (.inl rfl) _ _) _ (.inl rfl) _ _) _ (.inl rfl) _ _
  have b1 := c1.below t.m.bel t.m.bel.size t.lo t.lo
  have hd := t.d
  obtain ⟨a0, a1, a2, a3, a4, a5, a6, a7, a8, a9, a10, ha⟩ : ∃ a0 a1 a2 a3 a4 a5 a6 a7 a8 a9 a10, c.cs = [a0, a1, a2, a3, a4, a5, a6, a7, a8, a9, a10] := by
    generalize c.cs = L at hl
    match L, hl with
    | [a0, a1, a2, a3, a4, a5, a6, a7, a8, a9, a10], _ => exact ⟨_, _, _, _, _, _, _, _, _, _, _, rfl⟩
  rw [ha] at hd
  have n1 := t.m.at_.own.ne hd (by decide)
  have n2 := t.m.at_.bytes.ne hd (by decide)
  have n3 := t.m.at_.zones.ne hd (by decide)
  exact ⟨t.m.keep c1 b1 ⟨⟨n1, n2, n3⟩, ⟨n1, n2, n3⟩⟩, by rw [hx]; exact has_set (has_set (has_set (has_set (has_set (has_set (has_set (has_set (has_set (has_set (has_set (hd) 0 _) 1 _) 2 _) 3 _) 4 _) 5 _) 6 _) 7 _) 8 _) 9 _) 10 _, t.lo⟩
def FewRel (w : World) (p g h D : Nat) (i : Value) (w' : World) : Prop := ∃ (k : Nat) (c : Cp) (B : List Int), k ≤ 60 ∧ i = .int .i64 k ∧ c.Ok ∧ FewS w p g h D c B w'
/-- so many have been looked at -/
def CntRel (w7 : World) (P : Nat → Bool) (n : Nat) (r i : Value) (w' : World) : Prop := ∃ j : Nat, j ≤ n ∧ i = .int .i64 j ∧ r = .int .i64 (cnt P j) ∧ Sm w7 w'
theorem few_long (c : Cp) (o : c.Ok) (A : Option Addr) (n cap : Nat) (hn : 1000 < n) (w : World) :
    Calls Try.prog 7 #[c.val, .slice A n cap] w fun e w' => e = .returned (.bool true) ∧ Below w.heap.size w w' := by
  have hnI : decide (1000 < (n : Int)) = true := decide_eq_true (by omega)
  obtain ⟨r0, r1, r2, r3, r4, r5, r6, r7, hr⟩ := o.eight
  obtain ⟨pc, r, b, s⟩ := c
  simp only at hr
  subst hr
  rw [val_lit]
  go_enter Try.func7, Try.ntmps7
  go_wp2_with fail
  refine (awake4 _).mono ?_; rintro e w1 ⟨rfl, hb1⟩
  have HB1 := Lib.hid (bel_then (bel_al (Below.refl _ _) _) hb1)
  clear hb1
  go_wp2_with fail
  refine (awake4 _).mono ?_; rintro e w2 ⟨rfl, hb2⟩
  have HB2 := Lib.hid (bel_then HB1.out hb2)
  clear hb2
  go_wp2_with fail
  go_ret
  exact ⟨rfl, HB2.out⟩

set_option maxRecDepth 100000 in
set_option maxHeartbeats 8000000 in
theorem few_n (pc r0 r1 r2 r3 r4 r5 r6 r7 b s : Int) (o : (⟨pc, [r0, r1, r2, r3, r4, r5, r6, r7], b, s⟩ : Cp).Ok) (A : Option Addr) (cap : Nat) (l : List Int) (n : Nat) (hl : l.length = n) (hn : n ≤ 1000) (w : World) (hr : RowAt w A cap l) :
    Calls Try.prog 7 #[Cp.val ⟨pc, [r0, r1, r2, r3, r4, r5, r6, r7], b, s⟩, .slice A n cap] w fun e w' => e = .returned (.bool true) ∧ Below w.heap.size w w' := by
  have hnI : decide (1000 < (n : Int)) = false := decide_eq_false (by omega)
  have HR := Lib.hid hr
  have HL := Lib.hid hl
  have HO := Lib.hid o
  obtain ⟨W0, e0, k0⟩ : ∃ W0, w.alloc (.cells #[.int .u32 pc, .int .u32 r0, .int .u32 r1, .int .u32 r2, .int .u32 r3, .int .u32 r4, .int .u32 r5, .int .u32 r6, .int .u32 r7, .int .u32 b, .int .u32 s] 54) = W0 ∧ HasB W0 w.heap.size 54 [.int .u32 pc, .int .u32 r0, .int .u32 r1, .int .u32 r2, .int .u32 r3, .int .u32 r4, .int .u32 r5, .int .u32 r6, .int .u32 r7, .int .u32 b, .int .u32 s] := ⟨_, rfl, HasB.newAt _ _ _ _ rfl⟩
  have b0 : Below w.heap.size w W0 := by rw [← e0]; exact bel_al (Below.refl _ _) _
  have K0 := Lib.hid k0
  have B0 := Lib.hid b0
  clear hr hl o k0 b0
  rw [val_lit]
  go_enter Try.func7, Try.ntmps7
  go_wp2_with fail
  refine (awake4 _).mono ?_; rintro e w1 ⟨rfl, hb1⟩
  have B1 := Lib.hid (bel_then B0.out hb1)
  have K1 := Lib.hid (K0.out.below hb1)
  clear hb1 e0 K0
  go_wp2_with fail
  have MA := made_any A cap l (by rw [HL.out]; exact hn) w1 (HR.out.below B1.out)
  rw [HL.out] at MA
  refine MA.mono ?_
  clear MA
  rintro e w2 ⟨pa, ga, ha, xa, ca, ya, da, rfl, sa, lpa⟩
  have K2 := Lib.hid (K1.out.below sa.m.bel)
  have B2 := Lib.hid (bel_then B1.out sa.m.bel)
  have SA := Lib.hid sa
  clear sa K1
  obtain ⟨W3, e3, b3⟩ := boxM w2 (.slice (some ⟨xa, 0, none⟩) 256 ca) (.slice (some ⟨ya, 0, none⟩) 256 da)
  have S3 := (SA.out.m.old B1.out).below b3
  have K3 := K2.out.below b3
  obtain ⟨⟨k0, k1, k2, k3, k4, k5, k6, k7, k8, k9, k10⟩, _⟩ := has11 K3
  replace S3 := Lib.hid S3
  clear b3 SA K2 B2 K3 lpa
  go_wp2_with fail
  clear e3 k0 k1 k2 k3 k4 k5 k6 k7 k8 k9 k10
  have OF := of_try pc r0 r1 r2 r3 r4 r5 r6 r7 b s W3
  refine OF.mono ?_; rintro e w4 ⟨rfl, hb4⟩
  obtain ⟨W5, e5, d5⟩ : ∃ W5, w4.alloc (.cells #[.int .u32 pc, .int .u32 r0, .int .u32 r1, .int .u32 r2, .int .u32 r3, .int .u32 r4, .int .u32 r5, .int .u32 r6, .int .u32 r7, .int .u32 b, .int .u32 s] 57) = W5 ∧ HasB W5 w4.heap.size 57 (#[.int .u32 pc, .int .u32 r0, .int .u32 r1, .int .u32 r2, .int .u32 r3, .int .u32 r4, .int .u32 r5, .int .u32 r6, .int .u32 r7, .int .u32 b, .int .u32 s] : Array Value).toList := ⟨_, rfl, HasB.newAt _ _ _ _ rfl⟩
  have b5 : Below w4.heap.size w4 W5 := by rw [← e5]; exact bel_al (Below.refl _ _) _
  have FS0 : FewS w pa ga ha w4.heap.size ⟨pc, [r0, r1, r2, r3, r4, r5, r6, r7], b, s⟩ (B4 l) W5 := ⟨S3.out.below (bel_then hb4 b5), d5, (S3.out.below hb4).bel.size⟩
  replace FS0 := Lib.hid FS0
  clear OF hb4 b5 d5 S3
  go_wp2_with fail
  clear e5
  generalize w4.heap.size = D at *
  go_loopw [8] (fun i w' => FewRel w pa ga ha D i w') (fun i _ => 60 - (intOf i).toNat)
  case atStart => exact ⟨0, _, _, by decide, rfl, HO.out, FS0.out⟩
  case round =>
    obtain ⟨k, c, B, hk, rfl, ok, fs⟩ := hrel
    have FS := Lib.hid fs
    have OK := Lib.hid ok
    clear fs ok FS0
    by_cases hk60 : k < 60
    · have kI : (k : Int) < 60 := by omega
      have RA := read_i FS.out.m.at_ 0 192 (T4_yes 0 192 (by decide))
      go_wp2_with fail
      refine RA.mono ?_; rintro e w6 ⟨rfl, ra, b6⟩
      have M6 := FS.out.m.below b6
      have hgw : ga < wr.heap.size := FS.out.m.at_.bytes.lt
      have D6 := FS.out.d.below b6
      generalize hwa : wr.heap.size = wa at *
      obtain ⟨x, hx⟩ : ∃ x, StepIs c B T4 x := step_or _ _ _
      have hok := step_ok OK.out M6.at_.byte M6.at_.len hx
      have hfew := step_few M6.at_.byte M6.at_.len hx
      have hd := step_any M6.at_ OK.out hx
      obtain ⟨q0, q1, q2, q3, q4, q5, q6, q7, hq⟩ := OK.out.eight
      obtain ⟨t0, t1, t2, t3, t4, t5, t6, t7, ht⟩ := hok.1.eight
      have hcs : c.cs = [.int .u32 c.pc, .int .u32 q0, .int .u32 q1, .int .u32 q2, .int .u32 q3, .int .u32 q4, .int .u32 q5, .int .u32 q6, .int .u32 q7, .int .u32 c.b, .int .u32 c.s] := by unfold Cp.cs; rw [hq]; rfl
      have hval : c.val = .agg #[.int .u32 c.pc, .int .u32 q0, .int .u32 q1, .int .u32 q2, .int .u32 q3, .int .u32 q4, .int .u32 q5, .int .u32 q6, .int .u32 q7, .int .u32 c.b, .int .u32 c.s] := by unfold Cp.val; rw [hcs]
      have D6' := D6
      rw [hcs] at D6'
      rw [hval] at hd
      obtain ⟨⟨k0, k1, k2, k3, k4, k5, k6, k7, k8, k9, k10⟩, _⟩ := has11 D6'
      have HCS := Lib.hid hcs
      have HD := Lib.hid hd
      have HOK := Lib.hid hok
      have HFEW := Lib.hid hfew
      have RA6 := Lib.hid ra
      have HM6 := Lib.hid M6
      have HD6 := Lib.hid D6
      clear RA ra b6 M6 D6 D6' hx hok hfew hd hq hcs hval hwa
      have hxc : x.c.cs = [.int .u32 x.c.pc, .int .u32 t0, .int .u32 t1, .int .u32 t2, .int .u32 t3, .int .u32 t4, .int .u32 t5, .int .u32 t6, .int .u32 t7, .int .u32 c.b, .int .u32 c.s] := by unfold Cp.cs; rw [ht, HFEW.out.1.1, HFEW.out.1.2]; rfl
      have hxv : x.c.val = .agg #[.int .u32 x.c.pc, .int .u32 t0, .int .u32 t1, .int .u32 t2, .int .u32 t3, .int .u32 t4, .int .u32 t5, .int .u32 t6, .int .u32 t7, .int .u32 c.b, .int .u32 c.s] := by unfold Cp.val; rw [hxc]
      have HXC := Lib.hid hxc
      have HXV := Lib.hid hxv
      clear hxc hxv ht
      go_wp2_with fail
      refine HD.out.mono ?_; rintro e w7 ⟨rfl, m7, c7⟩
      have M7 := HM6.out.chg m7 c7.wide
      have D7 := HD6.out.pass HM6.out.at_ c7 (by decide)
      have RA7 := RA6.out.chg c7 (by omega) (by omega)
      rw [HXV.out]
      obtain ⟨W8, e8, x8, o8, b8⟩ := boxC w7 #[.int .u32 x.c.pc, .int .u32 t0, .int .u32 t1, .int .u32 t2, .int .u32 t3, .int .u32 t4, .int .u32 t5, .int .u32 t6, .int .u32 t7, .int .u32 c.b, .int .u32 c.s] x.what x.gate
      have M8 := Lib.hid (M7.below b8)
      have D8 := Lib.hid (D7.below b8)
      have RA8 := Lib.hid (RA7.below b8)
      have x8' : HasB W8 w7.heap.size 57 x.c.cs := by rw [HXC.out]; exact x8
      have X8 := Lib.hid x8'
      have O8 := Lib.hid o8
      clear x8 x8' o8 b8 RA7 D7 M7 m7 c7 HD HM6 HD6 RA6 k0 k1 k2 k3 k4 k5 k6 k7 k8 k9 k10
      go_wp2_with fail
      clear e8
      generalize w7.heap.size = E at *
      have RN := read_i M8.out.at_ 0 192 (T4_yes 0 192 (by decide))
      refine RN.mono ?_; rintro e w9 ⟨rfl, rn, b9⟩
      have FT : FewT w pa ga ha D E wa W8.heap.size c x B w9 := ⟨M8.out.below b9, D8.out.below b9, X8.out.below b9, O8.out.below b9, RA8.out.below b9, rn, FS.out.lo⟩
      replace FT := Lib.hid FT
      clear RN rn b9 M8 D8 RA8 X8 O8
      generalize W8.heap.size = nw at *
      go_wp2_with fail
      obtain ⟨PA, hPA⟩ : ∃ P, regP c.r x.c.r = P := ⟨_, rfl⟩
      have HPA := Lib.hid hPA
      clear hPA
      go_loopw [15, 17] (fun r i w' => CntRel w9 PA 8 r i w') (fun _ i _ => 8 - (intOf i).toNat)
      case atStart => exact ⟨0, Nat.zero_le _, rfl, rfl, Sm.refl _⟩
      case round =>
        obtain ⟨j, hj, rfl, rfl, hs⟩ := hrel
        have HS := Lib.hid hs
        clear hs
        by_cases hjl : j < 8
        · have FT' := FT.out.below HS.out.bel
          have ce := (FT'.e.cell (1 + j)).trans (Cp.cs_reg HOK.out.1 j hjl)
          have cd := (FT'.d.cell (1 + j)).trans (Cp.cs_reg OK.out j hjl)
          have hpp : regP c.r x.c.r j = (x.c.reg j != c.reg j) := by unfold regP Cp.reg; rw [Int.toNat_natCast]
          have j0 : (0 : Int) ≤ (j : Int) := by omega
          have j1 : (j : Int) < 8 := by omega
          have hcl := cnt_lek PA j
          have cy : PA j = true → cnt PA (j + 1) = cnt PA j + 1 := cnt_y
          have cn : PA j = false → cnt PA (j + 1) = cnt PA j := cnt_n
          have hpj : PA j = (x.c.reg (j : Int) != c.reg (j : Int)) := by rw [← HPA.out]; exact hpp
          clear FT' hpp
          generalize cnt PA j = cj at *
          have hc0 : (0 : Int) ≤ (cj : Int) := by omega
          have hc1 : (cj : Int) ≤ 1000 := by omega
          obtain ⟨cj1, hcj1⟩ : ∃ q, cnt PA (j + 1) = q := ⟨_, rfl⟩
          rw [hcj1] at cy cn
          have HJ1 := Lib.hid hcj1
          clear hcj1
          generalize c.reg (j : Int) = va at *
          generalize x.c.reg (j : Int) = vb at *
          by_cases hv : vb = va
          · have hv1 : (vb != va) = false := by simp [hv]
            have hcc := cn (by rw [hpj, hv1])
            have HCC := Lib.hid hcc
            have HV := Lib.hid hv
            clear hv hcc hpj cy cn
            go_wp2_with fail
            go_quiet (fail)
            go_wp2_with fail
            go_roundw
            case rel => exact ⟨j + 1, hjl, by go_num, by rw [HJ1.out, HCC.out], HS.out.drewN _⟩
            case measure => simp [intOf]; omega
          · have hv1 : (vb != va) = true := by simpa using hv
            have hcc := cy (by rw [hpj, hv1])
            have HCC := Lib.hid hcc
            clear hv hcc hpj cy cn
            go_wp2_with fail
            go_quiet (fail)
            go_wp2_with fail
            go_roundw
            case rel => exact ⟨j + 1, hjl, by go_num, by rw [HJ1.out, HCC.out]; go_num, HS.out.drewN _⟩
            case measure => simp [intOf]; omega
        have hjn : j = 8 := by omega
        subst hjn
        have FTA2 := Lib.hid (FT.out.below HS.out.bel)
        clear HS hjl hj
        go_wp2_with fail
        obtain ⟨PZ, hPZ⟩ : ∃ P, regP ((B.drop 0).take 192) ((x.B.drop 0).take 192) = P := ⟨_, rfl⟩
        have HPZ := Lib.hid hPZ
        clear hPZ
        go_loopw [16, 18] (fun r i w' => CntRel wr PZ 192 r i w') (fun _ i _ => 192 - (intOf i).toNat)
        case atStart => exact ⟨0, Nat.zero_le _, rfl, rfl, Sm.refl _⟩
        case round =>
          obtain ⟨j, hj, rfl, rfl, hs⟩ := hrel
          have HS := Lib.hid hs
          clear hs
          by_cases hjl : j < 192
          · have FT' := FTA2.out.below HS.out.bel
            have hla : ((B.drop 0).take 192).length = 192 := by have := FS.out.m.at_.len; simp [T4] at this; rw [List.length_take, List.length_drop]; omega
            have hlb : ((x.B.drop 0).take 192).length = 192 := by have := FT'.m.at_.len; simp [T4] at this; rw [List.length_take, List.length_drop]; omega
            have ce := getD_u8 FT'.rn j (by rw [hlb]; exact hjl)
            have cd := getD_u8 FT'.ra j (by rw [hla]; exact hjl)
            have hpp : regP ((B.drop 0).take 192) ((x.B.drop 0).take 192) j = (((x.B.drop 0).take 192).getD j 0 != ((B.drop 0).take 192).getD j 0) := rfl
            clear hla hlb
            have j0 : (0 : Int) ≤ (j : Int) := by omega
            have j1 : (j : Int) < 192 := by omega
            have hcl := cnt_lek PZ j
            have cy : PZ j = true → cnt PZ (j + 1) = cnt PZ j + 1 := cnt_y
            have cn : PZ j = false → cnt PZ (j + 1) = cnt PZ j := cnt_n
            have hpj : PZ j = (((x.B.drop 0).take 192).getD j 0 != ((B.drop 0).take 192).getD j 0) := by rw [← HPZ.out]; exact hpp
            clear FT' hpp
            generalize cnt PZ j = cj at *
            have hc0 : (0 : Int) ≤ (cj : Int) := by omega
            have hc1 : (cj : Int) ≤ 1000 := by omega
            obtain ⟨cj1, hcj1⟩ : ∃ q, cnt PZ (j + 1) = q := ⟨_, rfl⟩
            rw [hcj1] at cy cn
            have HJ1 := Lib.hid hcj1
            clear hcj1
            generalize ((B.drop 0).take 192).getD j 0 = va at *
            generalize ((x.B.drop 0).take 192).getD j 0 = vb at *
            by_cases hv : vb = va
            · have hv1 : (vb != va) = false := by simp [hv]
              have hcc := cn (by rw [hpj, hv1])
              have HCC := Lib.hid hcc
              have HV := Lib.hid hv
              clear hv hcc hpj cy cn
              go_wp2_with fail
              go_quiet (fail)
              go_wp2_with fail
              go_roundw
              case rel => exact ⟨j + 1, hjl, by go_num, by rw [HJ1.out, HCC.out], HS.out.drewN _⟩
              case measure => simp [intOf]; omega
            · have hv1 : (vb != va) = true := by simpa using hv
              have hcc := cy (by rw [hpj, hv1])
              have HCC := Lib.hid hcc
              clear hv hcc hpj cy cn
              go_wp2_with fail
              go_quiet (fail)
              go_wp2_with fail
              go_roundw
              case rel => exact ⟨j + 1, hjl, by go_num, by rw [HJ1.out, HCC.out]; go_num, HS.out.drewN _⟩
              case measure => simp [intOf]; omega
          have hjn : j = 192 := by omega
          subst hjn
          have FTZ2 := Lib.hid (FTA2.out.below HS.out.bel)
          clear HS hjl hj
          have F9 := FTZ2.out
          have hE := F9.e
          have hD := F9.d
          rw [HXC.out] at hE
          rw [HCS.out] at hD
          obtain ⟨⟨k0, k1, k2, k3, k4, k5, k6, k7, k8, k9, k10⟩, _⟩ := has11 hE
          obtain ⟨⟨l0, l1, l2, l3, l4, l5, l6, l7, l8, l9, l10⟩, ⟨f0, f1, f2, f3, f4, f5, f6, f7, f8, f9, f10⟩⟩ := has11 hD
          obtain ⟨⟨n0, n1⟩, _⟩ := has2 F9.eo
          have fc := few_cnt HFEW.out
          rw [HPA.out, HPZ.out] at fc
          obtain ⟨fc1, fc2, fc3⟩ := fc
          obtain ⟨rc, hrc⟩ : ∃ q, cnt PA 8 = q := ⟨_, rfl⟩
          obtain ⟨yc, hyc⟩ : ∃ q, cnt PZ 192 = q := ⟨_, rfl⟩
          rw [hrc, hyc] at fc3
          rw [hrc] at fc1
          rw [hyc] at fc2
          have d1 : decide (1 < (rc : Int)) = false := decide_eq_false (by omega)
          have d2 : decide (4 < (yc : Int)) = false := decide_eq_false (by omega)
          have hk60' : (k : Int) + 1 ≤ 60 := by omega
          rw [hrc, hyc]
          clear F9 hE hD
          by_cases hwe : x.what = 0 ∨ x.what = 2
          · have d3 : rc = 0 ∨ (0 < rc ∧ yc = 0) := by omega
            clear fc1 fc2 fc3 hrc hyc
            have hg : x.what = 0 → x.gate = 0 := by
              intro h
              rcases HOK.out.2.2.2 with h2 | h2
              · omega
              · exact h2
            rcases hwe with hw | hw
            · have hg' := hg hw
              clear hg
              rcases d3 with rfl | ⟨d3, rfl⟩
              all_goals
                obtain ⟨Wn, en⟩ : ∃ Wn, (((((((((((wr.setCell ⟨D, 0, none⟩ (.int .u32 x.c.pc)).setCell ⟨D, 1, none⟩ (.int .u32 t0)).setCell ⟨D, 2, none⟩ (.int .u32 t1)).setCell ⟨D, 3, none⟩ (.int .u32 t2)).setCell ⟨D, 4, none⟩ (.int .u32 t3)).setCell ⟨D, 5, none⟩ (.int .u32 t4)).setCell ⟨D, 6, none⟩ (.int .u32 t5)).setCell ⟨D, 7, none⟩ (.int .u32 t6)).setCell ⟨D, 8, none⟩ (.int .u32 t7)).setCell ⟨D, 9, none⟩ (.int .u32 c.b)).setCell ⟨D, 10, none⟩ (.int .u32 c.s)) = Wn := ⟨_, rfl⟩
                have FN := FTZ2.out.put (by rw [HCS.out]; rfl) _ _ _ _ _ _ _ _ _ _ _ HXC.out
                rw [en] at FN
                replace FN := Lib.hid FN
                go_wp2_with fail
                go_roundw
                case rel => exact ⟨k + 1, x.c, x.B, by omega, by go_num, HOK.out.1, FN.out⟩
                case measure => simp [intOf]; omega
            · clear hg
              rcases d3 with rfl | ⟨d3, rfl⟩
              all_goals
                obtain ⟨Wn, en⟩ : ∃ Wn, (((((((((((wr.setCell ⟨D, 0, none⟩ (.int .u32 x.c.pc)).setCell ⟨D, 1, none⟩ (.int .u32 t0)).setCell ⟨D, 2, none⟩ (.int .u32 t1)).setCell ⟨D, 3, none⟩ (.int .u32 t2)).setCell ⟨D, 4, none⟩ (.int .u32 t3)).setCell ⟨D, 5, none⟩ (.int .u32 t4)).setCell ⟨D, 6, none⟩ (.int .u32 t5)).setCell ⟨D, 7, none⟩ (.int .u32 t6)).setCell ⟨D, 8, none⟩ (.int .u32 t7)).setCell ⟨D, 9, none⟩ (.int .u32 c.b)).setCell ⟨D, 10, none⟩ (.int .u32 c.s)) = Wn := ⟨_, rfl⟩
                have FN := FTZ2.out.put (by rw [HCS.out]; rfl) _ _ _ _ _ _ _ _ _ _ _ HXC.out
                rw [en] at FN
                replace FN := Lib.hid FN
                go_wp2_with fail
                go_roundw
                case rel => exact ⟨k + 1, x.c, x.B, by omega, by go_num, HOK.out.1, FN.out⟩
                case measure => simp [intOf]; omega
          · have hsame : x.c = c ∧ x.B = B := by
              rcases HOK.out.2.2.1 with h | h | h
              · exact absurd (.inl h) hwe
              · exact absurd (.inr h) hwe
              · exact h
            have hg : x.gate = 0 := by
              rcases HOK.out.2.2.2 with h | h
              · exact absurd (.inr h) hwe
              · exact h
            obtain ⟨hxc, hxb⟩ := hsame
            have z1 : rc = 0 := by rw [← hrc, ← HPA.out, hxc]; exact cnt_zero (fun i => by unfold regP; simp) 8
            have z2 : yc = 0 := by rw [← hyc, ← HPZ.out, hxb]; exact cnt_zero (fun i => by unfold regP; simp) 192
            clear fc1 fc2 fc3 hrc hyc
            subst z1 z2
            have hll := HXC.out
            rw [hxc, HCS.out] at hll
            simp only [List.cons.injEq, Value.int.injEq, true_and, and_true] at hll
            obtain ⟨m0, m1, m2, m3, m4, m5, m6, m7⟩ := hll
            subst m0 m1 m2 m3 m4 m5 m6 m7
            have hpc : x.c.pc = c.pc := by rw [hxc]
            rw [hpc] at k0
            have w0 : (x.what != 0) = true := by rw [bne_iff_ne]; exact fun h => hwe (.inl h)
            have w2 : (x.what != 2) = true := by rw [bne_iff_ne]; exact fun h => hwe (.inr h)
            have E8 := eq8 q0 q1 q2 q3 q4 q5 q6 q7 wr
            clear hxc hxb hwe hpc
            go_wp2_with fail
            go_ret
            exact ⟨rfl, FTZ2.out.m.bel⟩
    · have hk1 : decide ((k : Int) < 60) = false := decide_eq_false (by omega)
      go_wp2_with fail
      go_ret
      exact ⟨rfl, FS.out.m.bel⟩
theorem stepFew_walk (c : Cp) (A : Option Addr) (cap : Nat) (l : List Int) (w : World) (o : c.Ok) (hr : RowAt w A cap l) :
    Calls Try.prog 7 #[c.val, .slice A l.length cap] w fun e w' => e = .returned (.bool true) ∧ Below w.heap.size w w' := by
  by_cases h : 1000 < l.length
  · exact few_long c o A _ cap h w
  · obtain ⟨r0, r1, r2, r3, r4, r5, r6, r7, hx⟩ := o.eight
    obtain ⟨pc, r, b, s⟩ := c
    simp only at hx
    subst hx
    exact few_n pc r0 r1 r2 r3 r4 r5 r6 r7 b s o A cap l _ rfl (by omega) w hr
end Go.Proofs.Ythmcddecgdegdaa.Mm
