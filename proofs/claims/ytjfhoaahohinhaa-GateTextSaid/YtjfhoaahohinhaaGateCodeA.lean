/- Package gate as it landed: Owns, a gate's digit, the next reply, the sum. -/
import Derived.Test.YtjfhoaahohinhaaGateC
import Derived.Test.YtjfhoaahohinhaaMeA
namespace Go.Proofs.Ytjfhoaahohinhaa.Mm
open Go.ChangeShapes Go.WideShapes Go.ChangeAt Go.RowKit
set_option linter.unusedVariables false

set_option maxHeartbeats 2000000 in
theorem owns_code : OwnsC := by
  intro c at_ n o ha hn w
  obtain ⟨r0, r1, r2, r3, r4, r5, r6, r7, hr⟩ := o.eight
  have hb := o.b
  have hs := o.s
  obtain ⟨pc, r, b, s⟩ := c
  simp only at hr hb hs
  subst hr
  clear o
  unfold U32 at hb hs ha hn
  obtain ⟨b0, b1⟩ := hb
  obtain ⟨s0, s1⟩ := hs
  obtain ⟨a0, a1⟩ := ha
  obtain ⟨n0, n1⟩ := hn
  have hh : 0 ≤ s / 2 ∧ s / 2 < 2147483648 := by omega
  obtain ⟨h0, h1⟩ := hh
  have et : s.tdiv 2 = s / 2 := Int.tdiv_eq_ediv_of_nonneg s0
  have HD := Lib.hid (show ownsB b s at_ n = (decide (b + s / 2 ≤ at_) && decide (at_ + n ≤ b + s / 2 + s / 2)) from rfl)
  show Calls Try.prog 9 #[.agg #[.int .u32 pc, .int .u32 r0, .int .u32 r1, .int .u32 r2, .int .u32 r3, .int .u32 r4, .int .u32 r5, .int .u32 r6, .int .u32 r7, .int .u32 b, .int .u32 s], .int .u32 at_, .int .u32 n] w fun e w' => e = .returned (.bool (ownsB b s at_ n)) ∧ Below w.heap.size w w'
  by_cases k1 : b + s / 2 ≤ at_
  · by_cases k2 : at_ + n ≤ b + s / 2 + s / 2
    · have hq : ownsB b s at_ n = true := by rw [HD.out]; simp [k1, k2]
      rw [hq]
      clear HD hq
      generalize s / 2 = h at *
      go_enter Try.func9, Try.ntmps9
      go_wp2_with fail
      go_ret
      exact ⟨rfl, bel_al (Below.refl _ _) _⟩
    · have hq : ownsB b s at_ n = false := by rw [HD.out]; simp [k1, k2]
      rw [hq]
      clear HD hq
      generalize s / 2 = h at *
      go_enter Try.func9, Try.ntmps9
      go_wp2_with fail
      go_ret
      exact ⟨rfl, bel_al (Below.refl _ _) _⟩
  · have hq : ownsB b s at_ n = false := by rw [HD.out]; simp [k1]
    rw [hq]
    clear HD hq
    generalize s / 2 = h at *
    go_enter Try.func9, Try.ntmps9
    go_wp2_with fail
    go_ret
    exact ⟨rfl, bel_al (Below.refl _ _) _⟩

theorem digit_code (g : Int) (h0 : -9223372036854775808 ≤ g) (h1 : g ≤ 9223372036854775807) (w : World) :
    Calls Try.prog 25 #[.int .i64 g] w fun e w' => e = .returned (.int .u8 (if 0 ≤ g ∧ g ≤ 9 then 48 + g else 63)) ∧ w = w' := by
  by_cases k0 : 0 ≤ g
  · by_cases k9 : g ≤ 9
    · rw [if_pos ⟨k0, k9⟩]
      go_enter Try.func25, Try.ntmps25
      go_wp2_with fail
      go_ret
      exact ⟨by simp, rfl⟩
    · rw [if_neg (by omega)]
      go_enter Try.func25, Try.ntmps25
      go_wp2_with fail
      go_ret
      exact ⟨rfl, rfl⟩
  · rw [if_neg (by omega)]
    go_enter Try.func25, Try.ntmps25
    go_wp2_with fail
    go_ret
    exact ⟨rfl, rfl⟩

/-- the next reply: what it says -/
theorem take_code (w : World) (g : Nat) (W : Wd) (o : W.Ok) (RA : Option Addr) (rc : Nat) (TA : Option Addr) (tc : Nat)
    (H : HasB w g 40 [.slice RA W.rep.length rc, .int .i64 W.tk, .slice TA W.tr.length tc, .bool W.ov, .int .u32 W.cd]) (R : KRow .u32 w RA rc W.rep) (hoff : W.rep ≠ [] → Off RA g) :
    Calls Try.prog 21 #[.pointer (some ⟨g, 0, none⟩)] w fun e w' => e = .returned (.int .u32 (repV W)) ∧ w' = w.setCell ⟨g, 1, none⟩ (.int .i64 (repT W)) := by
  obtain ⟨t0, t1⟩ := o.tk
  have hrep := o.rep
  have em : max W.tk 0 = W.tk := by omega
  obtain ⟨⟨c0, c1, _, _, _⟩, ⟨f0, f1, _, _, _⟩⟩ := has5 H
  by_cases k : W.tk < W.rep.length
  · have ev : repV W = W.rep.getD W.tk.toNat 0 := by unfold repV; rw [em, if_pos k]
    have et : repT W = W.tk + 1 := by unfold repT; rw [em, if_pos k]
    rw [ev, et]
    obtain ⟨p, rfl, hc, hwf⟩ := R.at (i := W.tk.toNat) (by omega)
    have hpb : p.block ≠ g := hoff (by intro e; rw [e] at k; simp at k; omega) p rfl
    obtain ⟨j, hj⟩ : ∃ j : Nat, W.tk = j := ⟨W.tk.toNat, by omega⟩
    rw [hj] at c1 k hc ⊢
    rw [Int.toNat_natCast] at hc ⊢
    have hg1 : w.cell? ⟨g, 1, none⟩ = some (.int .i64 j) := c1
    have hs : (w.setCell ⟨g, 1, none⟩ (.int .i64 ((j : Int) + 1))).cell? (p.add j) = some (.int .u32 (W.rep.getD j 0)) := by
      rw [World.cell?_setCell_other _ _ _ _ (by intro e; exact hpb (by have := congrArg Addr.block e; rw [block_add] at this; exact this.symm))]; exact hc
    have hs0 : (w.setCell ⟨g, 1, none⟩ (.int .i64 ((j : Int) + 1))).cell? ⟨g, 0, none⟩ = some (.slice (some p) W.rep.length rc) := by
      rw [World.cell?_setCell_other _ _ _ _ (by simp)]; exact c0
    clear hc hj H R hwf ev et em hg1 o
    generalize W.rep.getD j 0 = y at *
    generalize W.rep.length = rl at *
    have hk : decide (rl ≤ j) = false := by simp; omega
    have hk' : j < rl := by omega
    go_enter Try.func21, Try.ntmps21
    go_wp2_with fail
    go_ret
    exact ⟨rfl, rfl⟩
  · have ev : repV W = 0 := by unfold repV; rw [em, if_neg k]
    have et : repT W = W.tk := by unfold repT; rw [em, if_neg k]
    rw [ev, et, set_same H 1 _ rfl]
    obtain ⟨j, hj⟩ : ∃ j : Nat, W.tk = j := ⟨W.tk.toNat, by omega⟩
    rw [hj] at c1 k
    clear hj H R ev et em o
    generalize W.rep.length = rl at *
    have hk : decide (rl ≤ j) = true := by simp; omega
    have hk' : rl ≤ j := by omega
    go_enter Try.func21, Try.ntmps21
    go_wp2_with fail
    go_ret
    exact ⟨rfl, rfl⟩

theorem rowH {w : World} {g : Nat} {l : List Int} (h : HasB w g 5 (l.map (Value.int .u8))) (hb : Bytes l) (hm : l.length ≤ maxLen) : RowAt w (some ⟨g, 0, none⟩) l.length l := by
  refine ⟨Nat.le_refl _, hm, hb, fun _ => ⟨_, rfl, h.lt, fun i hi => ?_⟩⟩
  have e : (⟨g, 0, none⟩ : Addr).add i = ⟨g, i, none⟩ := by
    unfold Addr.add
    by_cases h0 : i = 0
    · subst h0; rfl
    · rw [if_neg h0]; simp
  rw [e, h.cell i, List.getElem?_map, List.getD_eq_getElem?_getD, List.getElem?_eq_getElem hi]; rfl
theorem sumV_no {c : Cp} {B : List Int} {T : List Bool} (h : ownsB c.b c.s (c.reg 0) (c.reg 1) = false) : sumV c B T = 4294967295 := by unfold sumV; rw [h]; rfl
theorem sumV_no2 {c : Cp} {B : List Int} {T : List Bool} (h : wholeB T (c.reg 0) (c.reg 1) = false) : sumV c B T = 4294967295 := by unfold sumV; rw [h, Bool.and_false]; rfl
theorem sumV_yes {c : Cp} {B : List Int} {T : List Bool} (h : ownsB c.b c.s (c.reg 0) (c.reg 1) = true) (h2 : wholeB T (c.reg 0) (c.reg 1) = true) : sumV c B T = fnvL 2166136261 ((B.drop (c.reg 0).toNat).take (c.reg 1).toNat) := by unfold sumV; rw [h, h2]; rfl
set_option maxHeartbeats 2000000 in
theorem sum_code (c : Cp) (o : c.Ok) (w : World) (p g h : Nat) (B : List Int) (T : List Bool) (m : MemAt w p g h B T) :
    Calls Try.prog 22 #[c.val, .pointer (some ⟨p, 0, none⟩)] w fun e w' => e = .returned (.int .u32 (sumV c B T)) ∧ Below w.heap.size w w' := by
  have u0 := o.reg 0 (by omega) (by omega)
  have u1 := o.reg 1 (by omega) (by omega)
  have OW := Lib.hid (owns_code c (c.reg 0) (c.reg 1) o u0 u1)
  have M0 := Lib.hid (fun w' (b : Below w.heap.size w w') => m.below b)
  have NO := Lib.hid (fun (h : ownsB c.b c.s (c.reg 0) (c.reg 1) = false) => sumV_no (c := c) (B := B) (T := T) h)
  have NO2 := Lib.hid (fun (h : wholeB T (c.reg 0) (c.reg 1) = false) => sumV_no2 (c := c) (B := B) (T := T) h)
  have YES := Lib.hid (fun (h : ownsB c.b c.s (c.reg 0) (c.reg 1) = true) (h2 : wholeB T (c.reg 0) (c.reg 1) = true) => sumV_yes (c := c) (B := B) (T := T) h h2)
  have RI := Lib.hid (fun w' (m' : MemAt w' p g h B T) (hw : wholeB T (c.reg 0) (c.reg 1) = true) => read_i m' (c.reg 0) (c.reg 1) hw)
  have RN := Lib.hid (fun w' (m' : MemAt w' p g h B T) (hw : wholeB T (c.reg 0) (c.reg 1) = false) => read_no m' (c.reg 0) (c.reg 1) (by have := u0; unfold U32 at this; omega) hw)
  have HB8 := Lib.hid (show Bytes ((B.drop (c.reg 0).toNat).take (c.reg 1).toNat) from fun x hx => m.byte x (List.mem_of_mem_drop (List.mem_of_mem_take hx)))
  have LL := Lib.hid (fun (hw : wholeB T (c.reg 0) (c.reg 1) = true) => (show ((B.drop (c.reg 0).toNat).take (c.reg 1).toNat).length = (c.reg 1).toNat from by
    obtain ⟨h0, h1, h2⟩ := whole_lies hw
    have := m.len
    rw [List.length_take, List.length_drop]
    omega))
  clear m
  obtain ⟨r0, r1, r2, r3, r4, r5, r6, r7, hr⟩ := o.eight
  obtain ⟨pc, r, b, s⟩ := c
  simp only at hr
  subst hr
  clear o
  simp only [show (⟨pc, [r0, r1, r2, r3, r4, r5, r6, r7], b, s⟩ : Cp).reg 0 = r0 from rfl, show (⟨pc, [r0, r1, r2, r3, r4, r5, r6, r7], b, s⟩ : Cp).reg 1 = r1 from rfl] at *
  generalize sumV ⟨pc, [r0, r1, r2, r3, r4, r5, r6, r7], b, s⟩ B T = sv at *
  generalize hob : ownsB b s r0 r1 = ob at *
  generalize hwb : wholeB T r0 r1 = wb at *
  generalize (B.drop r0.toNat).take r1.toNat = X at *
  have hj : r1.toNat ≤ 4294967295 := by unfold U32 at u1; omega
  generalize r1.toNat = j at *
  clear hob hwb
  have OW2 : Hid (∀ w', Calls Try.prog 9 #[.agg #[.int .u32 pc, .int .u32 r0, .int .u32 r1, .int .u32 r2, .int .u32 r3, .int .u32 r4, .int .u32 r5, .int .u32 r6, .int .u32 r7, .int .u32 b, .int .u32 s], .int .u32 r0, .int .u32 r1] w' fun e w'' => e = .returned (.bool ob) ∧ Below w'.heap.size w' w'') := OW
  clear OW
  unfold U32 at u0 u1
  obtain ⟨a0, a1⟩ := u0
  obtain ⟨n0, n1⟩ := u1
  show Calls Try.prog 22 #[.agg #[.int .u32 pc, .int .u32 r0, .int .u32 r1, .int .u32 r2, .int .u32 r3, .int .u32 r4, .int .u32 r5, .int .u32 r6, .int .u32 r7, .int .u32 b, .int .u32 s], .pointer (some ⟨p, 0, none⟩)] w fun e w' => e = .returned (.int .u32 sv) ∧ Below w.heap.size w w'
  have hz0 : IntKind.i64.wrap r0 = r0 := by unfold IntKind.wrap; simp [IntKind.signed, IntKind.bits]; omega
  have hz1 : IntKind.i64.wrap r1 = r1 := by unfold IntKind.wrap; simp [IntKind.signed, IntKind.bits]; omega
  go_enter Try.func22, Try.ntmps22
  go_wp2_with fail
  go_quiet (fail)
  go_wp2_with fail
  refine (OW2.out _).mono ?_; rintro e w1 ⟨rfl, hb1⟩
  have B1 := Lib.hid (bel_then (below_drewN (bel_al (Below.refl w.heap.size w) _) _) hb1)
  clear hb1
  cases ob
  · have e := NO.out rfl
    subst e
    go_wp2_with fail
    go_ret
    exact ⟨rfl, B1.out⟩
  · have M1 := M0.out _ B1.out
    cases wb
    · have e := NO2.out rfl
      subst e
      have R := Lib.hid (RN.out w1 M1 rfl)
      clear RN RI M1 YES NO NO2 M0
      go_wp2_with fail
      refine (R.out).mono ?_; rintro e w2 ⟨rfl, rfl⟩
      go_wp2_with fail
      go_ret
      exact ⟨rfl, B1.out⟩
    · have e := YES.out rfl rfl
      subst e
      have R := Lib.hid (RI.out w1 M1 rfl)
      clear RN RI M1 YES NO NO2 M0
      go_wp2_with fail
      refine (R.out).mono ?_; rintro e w2 ⟨rfl, hh, hb2⟩
      have B2 := Lib.hid (bel_then B1.out hb2)
      have hlen : X.length = j := by
        have := LL.out
        simp only [true_implies] at this
        exact this
      subst hlen
      have SM := Lib.hid (sum_any (some ⟨w1.heap.size, 0, none⟩) X.length X w2 (rowH hh HB8.out (by unfold maxLen; omega)))
      clear hh hb2 R LL
      go_wp2_with fail
      refine (SM.out).mono ?_; rintro e w3 ⟨rfl, rfl⟩
      go_wp2_with fail
      go_ret
      exact ⟨rfl, B2.out⟩
end Go.Proofs.Ytjfhoaahohinhaa.Mm
