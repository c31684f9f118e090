/- The document's own answers for regions: Power, Right, Take of corralref10, corralref11. -/
import Derived.Test.YtalglocplebonaaSlabC
namespace Go.Proofs.Ytalglocplebonaa.Mm
open Go.ChangeShapes Go.WideShapes Go.ChangeAt Go.RowKit
set_option linter.unusedVariables false

theorem powS_yes (s : Int) : ∀ k : Nat, k < 8 → ((128 * 2 ^ k : Nat) : Int) = s → powS s = true := by
  intro k hk h
  have hc : k = 0 ∨ k = 1 ∨ k = 2 ∨ k = 3 ∨ k = 4 ∨ k = 5 ∨ k = 6 ∨ k = 7 := by omega
  subst h
  rcases hc with rfl | rfl | rfl | rfl | rfl | rfl | rfl | rfl <;> decide
theorem powS_no (s : Int) (h : ∀ j : Nat, j < 8 → ((128 * 2 ^ j : Nat) : Int) ≠ s) : powS s = false := by
  have h0 := h 0 (by omega); have h1 := h 1 (by omega); have h2 := h 2 (by omega); have h3 := h 3 (by omega)
  have h4 := h 4 (by omega); have h5 := h 5 (by omega); have h6 := h 6 (by omega); have h7 := h 7 (by omega)
  simp at h0 h1 h2 h3 h4 h5 h6 h7
  unfold powS
  simp only [Bool.or_eq_false_iff, beq_eq_false_iff_ne, ne_eq]
  omega
set_option maxHeartbeats 1000000 in
theorem rpow_any (s : Int) (w : World) : Calls Try.prog 14 #[.int .i64 s] w fun e w' => e = .returned (.bool (powS s)) ∧ w = w' := by
  have HY := Lib.hid (fun k hk h => @powS_yes s k hk h)
  have HN := Lib.hid (@powS_no s)
  generalize powS s = q at *
  go_enter Try.func14, Try.ntmps14
  go_wp2
  go_loopw [3] (fun i wr => ∃ k : Nat, k ≤ 8 ∧ i = .int .i64 ((128 * 2 ^ k : Nat) : Int) ∧ Hid (∀ j, j < k → ((128 * 2 ^ j : Nat) : Int) ≠ s) ∧ w = wr) (fun i _ => 40000 - (intOf i).toNat)
  case atStart => exact ⟨0, by omega, rfl, Lib.hid (fun j h => by omega), rfl⟩
  case round =>
    obtain ⟨k, hk, rfl, HI, rfl⟩ := hrel
    by_cases hk8 : k < 8
    · have HI2 := Lib.hid (fun (h : ((128 * 2 ^ k : Nat) : Int) ≠ s) (j : Nat) (hj : j < k + 1) => show ((128 * 2 ^ j : Nat) : Int) ≠ s from by
        rcases Nat.lt_or_ge j k with hlt | hge
        · exact HI.out j hlt
        · obtain rfl : j = k := by omega
          exact h)
      have HY2 := Lib.hid (fun h => HY.out k hk8 h)
      have hc : k = 0 ∨ k = 1 ∨ k = 2 ∨ k = 3 ∨ k = 4 ∨ k = 5 ∨ k = 6 ∨ k = 7 := by omega
      clear HY HI
      obtain ⟨v, hv⟩ : ∃ v : Nat, v = 128 * 2 ^ k := ⟨_, rfl⟩
      have hvb : v ≤ 16384 := by rw [hv]; rcases hc with rfl | rfl | rfl | rfl | rfl | rfl | rfl | rfl <;> decide
      have hv2 : ((128 * 2 ^ (k + 1) : Nat) : Int) = (v : Int) * 2 := by rw [hv, Nat.pow_succ, ← Nat.mul_assoc]; push_cast; rfl
      have hv0 : 0 < v := by rw [hv]; exact Nat.mul_pos (by omega) (Nat.pow_pos (by omega))
      have wv : IntKind.i64.wrap ((v : Int) * 2) = (v : Int) * 2 := IntWalk.i64_in _ (by omega)
      rw [← hv] at HI2 HY2 ⊢
      clear hc
      by_cases hs : (v : Int) = s
      · have hq := HY2.out hs
        subst hs hq
        clear HY2 HI2 hv hv2
        go_wp2
        go_ret
        exact ⟨rfl, rfl⟩
      · have hs1 : ((v : Int) == s) = false := by simpa using hs
        have HI3 := Lib.hid (HI2.out hs)
        have HV2 := Lib.hid hv2
        clear HY2 HI2 hs hv hv2
        go_wp2
        go_roundw
        case rel => exact ⟨k + 1, by omega, by rw [HV2.out], HI3, trivial⟩
        case measure => simp [intOf]; omega
    · obtain rfl : k = 8 := by omega
      have hq := HN.out HI.out
      subst hq
      go_wp2
      go_ret
      exact ⟨rfl, rfl⟩

theorem right_at {L : List Rg} {m : Int} {i : Nat} (h : RightP L m) (hi : i < L.length) : regB m (L.getD i (0, 0)) = true :=
  h.reg _ (by rw [List.getD_eq_getElem?_getD, List.getElem?_eq_getElem hi]; exact List.getElem_mem _)
theorem take_getDG (L : List Rg) {i k : Nat} (h : k < i) : (L.take i).getD k (0, 0) = L.getD k (0, 0) := by
  rw [List.getD_eq_getElem?_getD, List.getD_eq_getElem?_getD, List.getElem?_take_of_lt h]
theorem right_snoc {L : List Rg} {m : Int} {i : Nat} (h : RightP (L.take i) m) (hi : i < L.length) (hr : regB m (L.getD i (0, 0)) = true) (hb : ∀ q, q < i → Bel64 (L.getD q (0, 0)) (L.getD i (0, 0))) : RightP (L.take (i + 1)) m := by
  rw [take_snocG L i hi]
  refine ⟨h.lo, h.hi, fun r hm => ?_, List.pairwise_append.2 ⟨h.ris, by simp, fun a ha b hb' => ?_⟩⟩
  · rcases List.mem_append.1 hm with k | k
    · exact h.reg r k
    · rw [List.mem_singleton.1 k]; exact hr
  · rw [List.mem_singleton.1 hb']
    obtain ⟨q, hq, rfl⟩ := List.mem_iff_getElem.1 ha
    have hqi : q < i := by have := hq; rw [List.length_take] at this; omega
    have e : (L.take i)[q] = L.getD q (0, 0) := by
      rw [← take_getDG L hqi, List.getD_eq_getElem?_getD, List.getElem?_eq_getElem hq]; rfl
    rw [e]; exact hb q hqi
set_option maxRecDepth 10000 in
set_option maxHeartbeats 4000000 in
theorem rright_any (A : Option Addr) (cap n : Nat) (L : List Rg) (m : Int) (hl : L.length = n) (hn : n ≤ 100) (hm : I64r m) (w : World) (R : RgRow w A cap L) :
    Calls Try.prog 10 #[.slice A n cap, .int .i64 m] w fun e w' => e = .returned (.bool (rgtB L m)) ∧ Below w.heap.size w w' := by
  have RR := Lib.hid R
  have HL := Lib.hid hl
  have NO := Lib.hid (fun (h : ¬ RightP L m) => rgt_no.2 h)
  have YES := Lib.hid (fun (h : RightP L m) => rgt_iff.2 h)
  have B0 := Lib.hid (Below.refl w.heap.size w)
  clear R hl
  generalize rgtB L m = q at *
  unfold I64r at hm
  obtain ⟨hm0, hm1⟩ := hm
  by_cases h0 : m < 0
  · have hq := NO.out (fun h => by have := h.lo; omega)
    subst hq
    go_enter Try.func10, Try.ntmps10
    go_wp2_with fail
    go_ret
    exact ⟨rfl, B0.out⟩
  · by_cases h1 : 65536 < m
    · have hq := NO.out (fun h => by have := h.hi; omega)
      subst hq
      go_enter Try.func10, Try.ntmps10
      go_wp2_with fail
      go_ret
      exact ⟨rfl, B0.out⟩
    · go_enter Try.func10, Try.ntmps10
      go_wp2_with fail
      go_loopw [5] (fun v wr => ∃ (i : Nat), v = .int .i64 i ∧ i ≤ n ∧ Hid (RightP (L.take i) m) ∧ Hid (Below w.heap.size w wr)) (fun v _ => n - (intOf v).toNat)
      case atStart => exact ⟨0, rfl, by omega, Lib.hid (right_nil (by omega) (by omega)), B0⟩
      case round =>
        obtain ⟨i, rfl, hi, RP, HB⟩ := hrel
        by_cases hlt : i < n
        · obtain ⟨x, rfl, hxb, hc⟩ := (RR.out.below HB.out).2.2.2 (by intro e; have := HL.out; rw [e] at this; simp at this; omega)
          have c0 := (hc i (by rw [HL.out]; exact hlt)).c0
          have c1 := (hc i (by rw [HL.out]; exact hlt)).c1
          have NR := Lib.hid (fun (h : regB m (L.getD i (0, 0)) = false) => NO.out (fun hr => by have := right_at hr (i := i) (by rw [HL.out]; exact hlt); rw [h] at this; cases this))
          have NB := Lib.hid (fun k (hk : k < i) (h : ¬ Bel64 (L.getD k (0, 0)) (L.getD i (0, 0))) => NO.out (fun hr => h (ris_getD hr.ris hk (by rw [HL.out]; exact hlt))))
          have SN := Lib.hid (fun h1 h2 => right_snoc RP.out (by rw [HL.out]; exact hlt) h1 h2)
          clear hc
          have PW := Lib.hid (fun s w => rpow_any s w)
          generalize L.getD i (0, 0) = r at *
          obtain ⟨ra, rb⟩ := r
          simp only at c0 c1
          go_wp2_with fail
          refine (PW.out _ _).mono ?_; rintro e w2 ⟨rfl, rfl⟩
          have B2 := Lib.hid (HB.out.trans ((bel_al (Below.refl _ wr) (.cells #[.int .i64 ra, .int .i64 rb] 42)).mono HB.out.size))
          have HR := Lib.hid (HasB.new wr 42 [.int .i64 ra, .int .i64 rb])
          have hW2 : wr.alloc (.cells #[.int .i64 ra, .int .i64 rb] 42) = wr.alloc (.cells [.int .i64 ra, .int .i64 rb].toArray 42) := rfl
          rw [← hW2] at HR
          clear hW2
          generalize hp : powS rb = pw at *
          cases pw
          · have hq := NR.out (by unfold regB; rw [hp]; rfl)
            subst hq
            go_wp2_with fail
            go_ret
            exact ⟨rfl, B2.out⟩
          · have s0 := powS_pos hp
            obtain ⟨s1, s2⟩ := s0
            have ea : regB m (ra, rb) = (decide (rb ≤ ra) && decide (ra % rb = 0) && decide (ra + rb + 64 ≤ m)) := by unfold regB; rw [hp]; simp
            have EA := Lib.hid ea
            clear ea hp
            by_cases k1 : ra < rb
            · have hq := NR.out (by rw [EA.out]; simp; omega)
              subst hq
              go_wp2_with fail
              go_ret
              exact ⟨rfl, B2.out⟩
            · by_cases k2 : 65536 < ra
              · have hq := NR.out (by rw [EA.out]; simp; omega)
                subst hq
                go_wp2_with fail
                go_ret
                exact ⟨rfl, B2.out⟩
              · have htm : ra.tmod rb = ra % rb := Int.tmod_eq_emod_of_nonneg (by omega)
                have hz : (rb == 0) = false := by simp; omega
                have e0 := Int.emod_nonneg ra (by omega : rb ≠ 0)
                have e1 := Int.emod_lt_of_pos ra (by omega : 0 < rb)
                generalize hd : ra % rb = dd at *
                by_cases k3 : dd = 0
                · subst k3
                  by_cases k4 : m < ra + rb + 64
                  · have hq := NR.out (by rw [EA.out]; simp; omega)
                    subst hq
                    go_wp2_with fail
                    go_ret
                    exact ⟨rfl, B2.out⟩
                  · have ER := Lib.hid (show regB m (ra, rb) = true by rw [EA.out]; simp; omega)
                    go_wp2_with fail
                    have SN2 := Lib.hid (fun h => SN.out ER.out h)
                    have RX := Lib.hid (fun k (hk : k < i) => reg_iff.1 (by rw [← take_getDG L hk]; exact right_at RP.out (by rw [List.length_take, HL.out]; omega) : regB m (L.getD k (0, 0)) = true))
                    clear SN NR EA ER htm e0 e1 hd hz c0 c1 HB RP
                    generalize wr.alloc (.cells #[.int .i64 ra, .int .i64 rb] 42) = ws at *
                    generalize wr.heap.size = g at *
                    go_loopw [7] (fun v wr' => ∃ (k : Nat), v = .int .i64 k ∧ k ≤ i ∧ Hid (∀ p, p < k → Bel64 (L.getD p (0, 0)) (ra, rb)) ∧ Hid (Below ws.heap.size ws wr')) (fun v _ => i - (intOf v).toNat)
                    case atStart => exact ⟨0, rfl, by omega, Lib.hid (fun p hp => by omega), Lib.hid (Below.refl _ _)⟩
                    case round =>
                      obtain ⟨k, rfl, hk, BL, HC⟩ := hrel
                      by_cases hki : k < i
                      · obtain ⟨x', hx', hxb', hc⟩ := (RR.out.below (B2.out.trans (HC.out.mono B2.out.size))).2.2.2 (by intro e; have := HL.out; rw [e] at this; simp at this; omega)
                        obtain rfl : x = x' := Option.some.inj hx'
                        have c0 := (hc k (by rw [HL.out]; omega)).c0
                        have c1 := (hc k (by rw [HL.out]; omega)).c1
                        have d0 := (HR.out.below HC.out).cell 0
                        have d1 := (HR.out.below HC.out).cell 1
                        simp at d0 d1
                        obtain ⟨y1, y2, y3, y4⟩ := RX.out k hki
                        have y0 := powS_pos y1
                        have NB2 := Lib.hid (NB.out k hki)
                        have BL2 := Lib.hid (fun (h : Bel64 (L.getD k (0, 0)) (ra, rb)) p (hp : p < k + 1) => (by
                          rcases Nat.lt_or_ge p k with h' | h'
                          · exact BL.out p h'
                          · obtain rfl : p = k := by omega
                            exact h : Bel64 (L.getD p (0, 0)) (ra, rb)))
                        clear hc hx' y1 y3 NB BL
                        generalize L.getD k (0, 0) = y at *
                        obtain ⟨ya, yb⟩ := y
                        unfold Bel64 at NB2 BL2
                        simp only at c0 c1 y0 y2 y4 NB2 BL2
                        obtain ⟨y01, y02⟩ := y0
                        have hkn : k < n := by omega
                        have hkn' : (k : Int) < (n : Int) := by omega
                        have BN := Lib.hid (B2.out.trans (HC.out.mono B2.out.size))
                        by_cases z1 : ra ≤ ya
                        · have hd1 : decide (ra ≤ ya) = true := by simp; omega
                          have hq := NB2.out (by omega)
                          subst hq
                          go_wp2_with fail
                          go_quiet (fail)
                          go_wp2_with fail
                          go_ret
                          exact ⟨rfl, below_drewN BN.out _⟩
                        · have hd1 : decide (ra ≤ ya) = false := by simp; omega
                          by_cases z2 : ra < ya + yb + 64
                          · have hd2 : decide (ra < ya + yb + 64) = true := by simp; omega
                            have hq := NB2.out (by omega)
                            subst hq
                            go_wp2_with fail
                            go_quiet (fail)
                            go_wp2_with fail
                            go_ret
                            exact ⟨rfl, below_drewN BN.out _⟩
                          · have hd2 : decide (ra < ya + yb + 64) = false := by simp; omega
                            have BL3 := Lib.hid (BL2.out (by omega))
                            go_wp2_with fail
                            go_quiet (fail)
                            go_wp2_with fail
                            go_roundw
                            case rel => exact ⟨k + 1, by go_num, by omega, BL3, Lib.hid (below_drewN HC.out _)⟩
                            case measure => simp [intOf]; omega
                      · obtain rfl : k = i := by omega
                        have RN := Lib.hid (SN2.out BL.out)
                        have BN := Lib.hid (B2.out.trans (HC.out.mono B2.out.size))
                        go_wp2_with fail
                        go_roundw
                        case rel => exact ⟨k + 1, by go_num, by omega, RN, BN⟩
                        case measure => simp [intOf]; omega
                · have hq := NR.out (by rw [EA.out]; simp [k3])
                  subst hq
                  have k3' : (dd == 0) = false := by simp [k3]
                  go_wp2_with fail
                  go_ret
                  exact ⟨rfl, B2.out⟩
        · have hq := YES.out (by have := RP.out; rwa [List.take_of_length_le (by rw [HL.out]; omega)] at this)
          subst hq
          go_wp2_with fail
          go_ret
          exact ⟨rfl, HB.out⟩

theorem take_all {L : List Rg} {x : Rg} (h : ∀ q, q < L.length → apartE (L.getD q (0, 0)) x = true) : ∀ r ∈ L, apartE r x = true := fun r hr => by
  obtain ⟨q, hq, rfl⟩ := List.mem_iff_getElem.1 hr
  have := h q hq
  rwa [List.getD_eq_getElem?_getD, List.getElem?_eq_getElem hq] at this
theorem take_next {L : List Rg} {m s b : Int} (s0 : 0 < s) (hb : b % s = 0) (h : ∀ c, c < b → ¬ TakeOk L m s c) (k : ¬ TakeOk L m s b) : ∀ c, c < b + s → ¬ TakeOk L m s c := fun c hc t => by
  by_cases h1 : c < b
  · exact h c h1 t
  · by_cases h2 : c = b
    · exact k (h2 ▸ t)
    · have h3 := t.al
      have h4 : (c - b) % s = 0 := by rw [Int.sub_emod, h3, hb]; simp
      have h5 : (c - b) % s = c - b := Int.emod_eq_of_lt (by omega) (by omega)
      omega
theorem take_apart {q : Rg} {b s : Int} : apartE q (b, s) = !(decide (b < q.1 + q.2 + 64) && decide (q.1 < b + s + 64)) := by
  unfold apartE
  by_cases h1 : b < q.1 + q.2 + 64 <;> by_cases h2 : q.1 < b + s + 64 <;> simp [h1, h2] <;> omega
set_option maxRecDepth 10000 in
set_option maxHeartbeats 4000000 in
theorem rtake_any (A : Option Addr) (cap n : Nat) (L : List Rg) (m s : Int) (hl : L.length = n) (hn : n ≤ 100) (hr : RightP L m) (hs : powS s = true) (w : World) (R : RgRow w A cap L) :
    Calls Try.prog 15 #[.slice A n cap, .int .i64 m, .int .i64 s] w fun e w' => e = .returned (.int .i64 (takeV L m s)) ∧ Below w.heap.size w w' := by
  have RR := Lib.hid R
  have HL := Lib.hid hl
  have B0 := Lib.hid (Below.refl w.heap.size w)
  have YES := Lib.hid (fun b (h : TakeOk L m s b) (h2 : ∀ c, c < b → ¬ TakeOk L m s c) => takeV_some (l := L) (n := m) (s := s) (b := b) ⟨h, h2⟩)
  have NO := Lib.hid (fun (h : ∀ c, ¬ TakeOk L m s c) => takeV_none (l := L) (n := m) (s := s) h)
  have RX := Lib.hid (fun k (hk : k < n) => reg_iff.1 (right_at hr (by rw [hl]; exact hk) : regB m (L.getD k (0, 0)) = true))
  obtain ⟨s1, s2⟩ := powS_pos hs
  have m0 := hr.lo
  have m1 := hr.hi
  clear R hl hr hs
  generalize takeV L m s = q at *
  go_enter Try.func15, Try.ntmps15
  go_wp2_with fail
  go_loopw [7] (fun v wr => ∃ (b : Int), v = .int .i64 b ∧ s ≤ b ∧ b ≤ 90000 ∧ Hid (b % s = 0) ∧ Hid (∀ c, c < b → ¬ TakeOk L m s c) ∧ Hid (Below w.heap.size w wr)) (fun v _ => 100000 - (intOf v).toNat)
  case atStart => exact ⟨s, rfl, by omega, by omega, Lib.hid (by simp), Lib.hid (fun c hc t => by have := t.lo; omega), B0⟩
  case round =>
    obtain ⟨b, rfl, hb1, hb2, AL, MN, HB⟩ := hrel
    by_cases hlt : b + s + 64 ≤ m
    · have OK := Lib.hid (fun (h : ∀ q, q < n → apartE (L.getD q (0, 0)) (b, s) = true) => YES.out b ⟨by omega, AL.out, hlt, take_all (by rw [HL.out]; exact h)⟩ MN.out)
      have NX := Lib.hid (fun (h : ¬ ∀ q, q < n → apartE (L.getD q (0, 0)) (b, s) = true) => take_next (by omega) AL.out MN.out (fun t => h (fun q hq => t.ap _ (by rw [List.getD_eq_getElem?_getD, List.getElem?_eq_getElem (by rw [HL.out]; exact hq)]; exact List.getElem_mem _))))
      have AL2 := Lib.hid (show (b + s) % s = 0 by rw [Int.add_emod_right]; exact AL.out)
      clear YES NO AL MN
      go_wp2_with fail
      generalize hq : wr = ws at *
      clear hq
      go_loopw [8, 9] (fun f v wr => ∃ (k : Nat) (fr : Bool), f = .bool fr ∧ v = .int .i64 k ∧ k ≤ n ∧ Hid (fr = true ↔ ∀ q, q < k → apartE (L.getD q (0, 0)) (b, s) = true) ∧ Hid (Below ws.heap.size ws wr)) (fun _ v _ => n - (intOf v).toNat)
      case atStart => exact ⟨0, true, rfl, rfl, by omega, Lib.hid ⟨fun _ q hq => by omega, fun _ => rfl⟩, Lib.hid (Below.refl _ _)⟩
      case round =>
        obtain ⟨k, fr, rfl, rfl, hk, FR, HC⟩ := hrel
        by_cases hkn : k < n
        · obtain ⟨x, rfl, hxb, hc⟩ := (RR.out.below (HB.out.trans (HC.out.mono HB.out.size))).2.2.2 (by intro e; have := HL.out; rw [e] at this; simp at this; omega)
          have c0 := (hc k (by rw [HL.out]; omega)).c0
          have c1 := (hc k (by rw [HL.out]; omega)).c1
          obtain ⟨y1, y2, y3, y4⟩ := RX.out k hkn
          have y0 := powS_pos y1
          have F2 := Lib.hid (fun (v : Bool) (hv : apartE (L.getD k (0, 0)) (b, s) = v) => (by
            constructor
            · intro h q hq
              simp only [Bool.and_eq_true] at h
              rcases Nat.lt_or_ge q k with h' | h'
              · exact FR.out.1 h.1 q h'
              · obtain rfl : q = k := by omega
                rw [hv]; exact h.2
            · intro h
              simp only [Bool.and_eq_true]
              exact ⟨FR.out.2 (fun q hq => h q (by omega)), by rw [← hv]; exact h k (by omega)⟩ : (fr && v) = true ↔ ∀ q, q < k + 1 → apartE (L.getD q (0, 0)) (b, s) = true))
          rw [take_apart] at F2
          clear hc y1 y3 FR
          generalize hy : L.getD k (0, 0) = y at *
          clear hy
          obtain ⟨ya, yb⟩ := y
          simp only at c0 c1 y0 y2 y4 F2
          obtain ⟨y01, y02⟩ := y0
          have hkn' : (k : Int) < (n : Int) := by omega
          by_cases z1 : b < ya + yb + 64
          · have hd1 : decide (b < ya + yb + 64) = true := by simp; omega
            by_cases z2 : ya < b + s + 64
            · have hd2 : decide (ya < b + s + 64) = true := by simp; omega
              have F3 := Lib.hid (F2.out false (by rw [hd1, hd2]; rfl))
              rw [Bool.and_false] at F3
              clear F2
              go_wp2_with fail
              go_quiet (fail)
              go_wp2_with fail
              go_roundw
              case rel => exact ⟨k + 1, false, rfl, by go_num, by omega, F3, Lib.hid (below_drewN HC.out _)⟩
              case measure => simp [intOf]; omega
            · have hd2 : decide (ya < b + s + 64) = false := by simp; omega
              have F3 := Lib.hid (F2.out true (by rw [hd2]; simp))
              rw [Bool.and_true] at F3
              clear F2
              go_wp2_with fail
              go_quiet (fail)
              go_wp2_with fail
              go_roundw
              case rel => exact ⟨k + 1, fr, rfl, by go_num, by omega, F3, Lib.hid (below_drewN HC.out _)⟩
              case measure => simp [intOf]; omega
          · have hd1 : decide (b < ya + yb + 64) = false := by simp; omega
            have F3 := Lib.hid (F2.out true (by rw [hd1]; simp))
            rw [Bool.and_true] at F3
            clear F2
            go_wp2_with fail
            go_quiet (fail)
            go_wp2_with fail
            go_roundw
            case rel => exact ⟨k + 1, fr, rfl, by go_num, by omega, F3, Lib.hid (below_drewN HC.out _)⟩
            case measure => simp [intOf]; omega
        · obtain rfl : k = n := by omega
          have BN := Lib.hid (HB.out.trans (HC.out.mono HB.out.size))
          cases fr
          · have N3 := Lib.hid (NX.out (fun h => by have := FR.out.2 h; cases this))
            go_wp2_with fail
            go_roundw
            case rel => exact ⟨b + s, rfl, by omega, by omega, AL2, N3, BN⟩
            case measure => simp [intOf]; omega
          · have hq := OK.out (FR.out.1 rfl)
            subst hq
            go_wp2_with fail
            go_ret
            exact ⟨rfl, BN.out⟩
    · have hq := NO.out (fun c t => by
        by_cases h : c < b
        · exact MN.out c h t
        · have := t.hi; omega)
      subst hq
      go_wp2_with fail
      go_ret
      exact ⟨rfl, HB.out⟩
end Go.Proofs.Ytalglocplebonaa.Mm
