/- The statement BoxRefuses, walked, over the contracts of package box (and the document's own Code, RC). -/
import Derived.Test.YtbgnkljeodandaaGreatKBxS
namespace Go.Proofs.YtbgnkljeodandaaGreat.Mm
open Go.ChangeShapes Go.WideShapes Go.ChangeAt Go.RowKit
set_option linter.unusedVariables false
set_option linter.unusedSimpArgs false

def RCodeC : Prop := ∀ (A : Option Addr) (cap n : Nat) (code : List Int), code.length = n → ∀ w : World, RowAt w A cap code → Calls Tryz.prog 12 #[.slice A n cap] w fun e w' => e = .returned (.int .i64 (verE code)) ∧ Below w.heap.size w w'
theorem powS_yesB (s : Int) : ∀ k : Nat, k < 8 → ((128 * 2 ^ k : Nat) : Int) = s → powS s = true := by
  intro k hk h
  have hc : k = 0 ∨ k = 1 ∨ k = 2 ∨ k = 3 ∨ k = 4 ∨ k = 5 ∨ k = 6 ∨ k = 7 := by omega
  subst h
  rcases hc with rfl | rfl | rfl | rfl | rfl | rfl | rfl | rfl <;> decide
theorem powS_noB (s : Int) (h : ∀ j : Nat, j < 8 → ((128 * 2 ^ j : Nat) : Int) ≠ s) : powS s = false := by
  have h0 := h 0 (by omega); have h1 := h 1 (by omega); have h2 := h 2 (by omega); have h3 := h 3 (by omega)
  have h4 := h 4 (by omega); have h5 := h 5 (by omega); have h6 := h 6 (by omega); have h7 := h 7 (by omega)
  simp at h0 h1 h2 h3 h4 h5 h6 h7
  unfold powS
  simp only [Bool.or_eq_false_iff, beq_eq_false_iff_ne, ne_eq]
  omega
set_option maxHeartbeats 1000000 in
theorem rpowB_any (s : Int) (w : World) : Calls Tryz.prog 23 #[.int .i64 s] w fun e w' => e = .returned (.bool (powS s)) ∧ w = w' := by
  have HY := Lib.hid (fun k hk h => @powS_yesB s k hk h)
  have HN := Lib.hid (@powS_noB s)
  generalize powS s = q at *
  go_enter Tryz.func23, Tryz.ntmps23
  go_wp2
  go_loopw [3] (fun i wr => ∃ k : Nat, k ≤ 8 ∧ i = .int .i64 ((128 * 2 ^ k : Nat) : Int) ∧ Hid (∀ j, j < k → ((128 * 2 ^ j : Nat) : Int) ≠ s) ∧ w = wr) (fun i _ => 40000 - (intOf i).toNat)
  case atStart => exact ⟨0, by omega, rfl, Lib.hid (fun j h => by omega), rfl⟩
  case round =>
    obtain ⟨k, hk, rfl, HI, rfl⟩ := hrel
    by_cases hk8 : k < 8
    · have HI2 := Lib.hid (fun (h : ((128 * 2 ^ k : Nat) : Int) ≠ s) (j : Nat) (hj : j < k + 1) => show ((128 * 2 ^ j : Nat) : Int) ≠ s from by
        rcases Nat.lt_or_ge j k with hlt | hge
        · exact HI.out j hlt
        · obtain rfl : j = k := by omega
          exact h)
      have HY2 := Lib.hid (fun h => HY.out k hk8 h)
      have hc : k = 0 ∨ k = 1 ∨ k = 2 ∨ k = 3 ∨ k = 4 ∨ k = 5 ∨ k = 6 ∨ k = 7 := by omega
      clear HY HI
      obtain ⟨v, hv⟩ : ∃ v : Nat, v = 128 * 2 ^ k := ⟨_, rfl⟩
      have hvb : v ≤ 16384 := by rw [hv]; rcases hc with rfl | rfl | rfl | rfl | rfl | rfl | rfl | rfl <;> decide
      have hv2 : ((128 * 2 ^ (k + 1) : Nat) : Int) = (v : Int) * 2 := by rw [hv, Nat.pow_succ, ← Nat.mul_assoc]; push_cast; rfl
      have hv0 : 0 < v := by rw [hv]; exact Nat.mul_pos (by omega) (Nat.pow_pos (by omega))
      have wv : IntKind.i64.wrap ((v : Int) * 2) = (v : Int) * 2 := IntWalk.i64_in _ (by omega)
      rw [← hv] at HI2 HY2 ⊢
      clear hc
      by_cases hs : (v : Int) = s
      · have hq := HY2.out hs
        subst hs hq
        clear HY2 HI2 hv hv2
        go_wp2
        go_ret
        exact ⟨rfl, rfl⟩
      · have hs1 : ((v : Int) == s) = false := by simpa using hs
        have HI3 := Lib.hid (HI2.out hs)
        have HV2 := Lib.hid hv2
        clear HY2 HI2 hs hv hv2
        go_wp2
        go_roundw
        case rel => exact ⟨k + 1, by omega, by rw [HV2.out], HI3, trivial⟩
        case measure => simp [intOf]; omega
    · obtain rfl : k = 8 := by omega
      have hq := HN.out HI.out
      subst hq
      go_wp2
      go_ret
      exact ⟨rfl, rfl⟩
theorem reg_oneB {n : Int} {r : Rg} : rgtB [r] n = true ↔ (0 ≤ n ∧ n ≤ 65536 ∧ regB n r = true) := by
  rw [rgt_iff]
  constructor
  · intro h; exact ⟨h.lo, h.hi, h.reg r (by simp)⟩
  · rintro ⟨h0, h1, h2⟩
    exact ⟨h0, h1, fun x hx => by rw [List.mem_singleton.1 hx]; exact h2, by simp⟩
/-- what New answers, whatever it is given: a sandbox, an error -/
theorem new_any {w : World} {p g h : Nat} {B : List Int} {T : List Bool} {r : Rg} {code data rep : List Int} {e : Ending} {w' : World} (hT : T.length ≤ 1024) (N : NewP w p g h B T r code data rep e w') :
    ∃ (y : Bx) (RA : Option Addr) (rc : Nat) (TA : Option Addr) (tc : Nat) (B' : List Int) (T' : List Bool), e = .returned (.tuple #[y.val RA rc TA tc, .int .i64 (newE code data r (64 * T.length))]) ∧ y.c.Ok ∧ MemAt w' p g h B' T' ∧ Chg g h w w' := by
  obtain ⟨RA, rc, TA, tc, ⟨hne, rfl, q1, q2, q3, q4⟩ | ⟨he, rfl, q1, q2, q3, q4⟩⟩ := N
  · exact ⟨zeroX, RA, rc, TA, tc, B, T, rfl, zeroX_ok.c, q3, q4⟩
  · refine ⟨newX r rep, RA, rc, TA, tc, _, _, by rw [he], ?_, q3, q4⟩
    have hr : rgtB [r] (64 * T.length) = true := by
      unfold newE at he
      by_cases h1 : verE code = 0
      · rw [if_neg (by simp [h1])] at he
        split at he
        · exact absurd he (by decide)
        · split at he
          · exact absurd he (by decide)
          · rename_i hh; simpa using hh
      · rw [if_pos h1] at he; exact absurd he h1
    obtain ⟨_, _, h3⟩ := reg_oneB.1 hr
    obtain ⟨g1, g2, g3, g4⟩ := reg_iff.1 h3
    have := powS_pos g1
    have u1 : U32 r.1 := ⟨by omega, by omega⟩
    have u2 : U32 r.2 := ⟨by omega, by omega⟩
    exact ⟨u1, rfl, fun x hx => by simp [newX] at hx; subst hx; exact u32_0, u1, u2⟩
/-- the error of New in a memory of 8192 bytes, test by test -/
theorem ref_cases (C D : List Int) (b s : Int) : ∃ E, newE C D (b, s) 8192 = E ∧
    ((verE C ≠ 0 ∧ E = verE C) ∨ (verE C = 0 ∧ powS s = false ∧ E = 4) ∨ (verE C = 0 ∧ powS s = true ∧ ((s / 2 - 32 < C.length ∧ E = 4) ∨ ((C.length : Int) ≤ s / 2 - 32 ∧ ((s / 2 < D.length ∧ E = 4) ∨ ((D.length : Int) ≤ s / 2 ∧
      ((b < s ∧ E = 1) ∨ (s ≤ b ∧ ((8192 < b ∧ E = 1) ∨ (b ≤ 8192 ∧ ((b % s ≠ 0 ∧ E = 1) ∨ (b % s = 0 ∧ ((8192 < b + s + 64 ∧ E = 1) ∨ (b + s + 64 ≤ 8192 ∧ E = 0)))))))))))))) := by
  refine ⟨_, rfl, ?_⟩
  unfold newE
  by_cases h1 : verE C = 0
  · rw [if_neg (by simp [h1])]
    right
    cases h2 : powS s
    · left; exact ⟨h1, rfl, by simp [h2]⟩
    · right
      refine ⟨h1, rfl, ?_⟩
      by_cases h3 : (C.length : Int) ≤ s / 2 - 32
      · right
        refine ⟨h3, ?_⟩
        by_cases h4 : (D.length : Int) ≤ s / 2
        · right
          refine ⟨h4, ?_⟩
          rw [if_neg (by simp [h2, h3, h4])]
          have hreg : ∀ q, rgtB [((b, s) : Rg)] 8192 = q → regB 8192 (b, s) = q := fun q hq => by
            cases q
            · cases hh : regB 8192 (b, s)
              · rfl
              · rw [reg_oneB.2 ⟨by omega, by omega, hh⟩] at hq; cases hq
            · exact (reg_oneB.1 hq).2.2
          have key : rgtB [((b, s) : Rg)] 8192 = decide (s ≤ b ∧ b % s = 0 ∧ b + s + 64 ≤ 8192) := by
            have h5 := hreg _ rfl
            rw [← h5]
            unfold regB
            simp [h2, Bool.and_assoc]
          rw [key]
          have hs := powS_pos h2
          by_cases h5 : s ≤ b
          · right
            refine ⟨h5, ?_⟩
            by_cases h6 : b ≤ 8192
            · right
              refine ⟨h6, ?_⟩
              by_cases h7 : b % s = 0
              · right
                refine ⟨h7, ?_⟩
                by_cases h8 : b + s + 64 ≤ 8192
                · right; exact ⟨h8, by simp [h5, h7, h8]⟩
                · left; exact ⟨by omega, by simp [h8]⟩
              · left; exact ⟨h7, by simp [h7]⟩
            · left; exact ⟨by omega, by rw [decide_eq_false (by omega)]; rfl⟩
          · left; exact ⟨by omega, by simp [h5]⟩
        · left; exact ⟨by omega, by simp [h4]⟩
      · left; exact ⟨by omega, by simp [h3]⟩
  · rw [if_pos h1]
    exact .inl ⟨h1, rfl⟩
end Go.Proofs.YtbgnkljeodandaaGreat.Mm
