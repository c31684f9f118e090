/- The statement MemPlays: whether the acts are few; the whole. -/
import Derived.Test.YtjcggpaiminecaaMemPlaysB
namespace Go.Proofs.Ytjcggpaiminecaa.Mm
open Go.ChangeShapes Go.WideShapes Go.ChangeAt Go.RowKit
set_option linter.unusedVariables false

def FewQ (w : World) (A : Option Addr) (n : Nat) : Prop := n ≤ 40 ∧ ∀ x, A = some x → ∀ i, i < n → ∀ t, ActAt w (x.add (i * 6)) t → t.b.length ≤ 500
def FewE2 (w : World) (A : Option Addr) (n : Nat) (e : Ending) (w' : World) : Prop := ∃ b, e = .returned (.bool b) ∧ (b = true ↔ FewQ w A n) ∧ w = w'
theorem few2_any (A : Option Addr) (n cap : Nat) (w : World) (ha : Acts w A n cap) : Calls Try.prog 6 #[.slice A n cap] w (FewE2 w A n) := by
  obtain ⟨h1, h2, h3⟩ := ha
  unfold maxLen at h2
  have H3 := Lib.hid h3
  clear h3
  go_enter Try.func6, Try.ntmps6
  go_wp2_with fail
  go_loop [3] (fun i => ∃ k : Nat, k ≤ n ∧ k ≤ 41 ∧ i = .int .i64 k ∧ ∀ x, A = some x → ∀ j, j < k → ∀ t, ActAt w (x.add (j * 6)) t → t.b.length ≤ 500) (fun i => 41 - (intOf i).toNat)
  case atStart => exact ⟨0, Nat.zero_le _, by decide, rfl, fun x _ j hj => by omega⟩
  case round =>
    obtain ⟨k, hk, hk41, rfl, hall⟩ := hrel
    have HA := Lib.hid hall; clear hall
    by_cases hlt : k < n ∧ k ≤ 40
    · obtain ⟨hlt, h40⟩ := hlt
      obtain ⟨x, rfl, hxb, hx⟩ := H3.out (by omega)
      obtain ⟨t, ht⟩ := hx k hlt
      have c5 := ht.c5
      have hb := ht.row.1
      have hb2 := ht.row.2.1
      have HT := Lib.hid ht
      clear ht hx
      have kI : (k : Int) < (n : Int) := by omega
      by_cases hq : 500 < t.b.length
      · go_wp2_with fail
        go_ret
        exact ⟨false, rfl, ⟨(fun h => by cases h), fun h => absurd (h.2 x rfl k hlt t HT.out) (by omega)⟩, rfl⟩
      · go_wp2_with fail
        go_round
        case rel => exact ⟨k + 1, hlt, by omega, by go_num, fun y hy j hj s hs => by
          injection hy with hy; subst hy
          by_cases e : j = k
          · subst e
            have := act_len HT.out hs
            omega
          · exact HA.out _ rfl j (by omega) s hs⟩
        case measure => simp [intOf]; omega
    · by_cases hkn : k < n
      · have h41 : k = 41 := by omega
        subst h41
        have dn : decide ((n : Int) ≤ 40) = false := by rw [decide_eq_false_iff_not]; omega
        go_wp2_with fail
        go_ret
        exact ⟨false, rfl, ⟨(fun h => by cases h), fun h => by have := h.1; omega⟩, rfl⟩
      · have hk' : k = n := by omega
        subst hk'
        by_cases h40 : k ≤ 40
        · have dn : decide ((k : Int) ≤ 40) = true := by rw [decide_eq_true_iff]; omega
          go_wp2_with fail
          go_ret
          exact ⟨true, rfl, ⟨fun _ => ⟨h40, fun x hx i hi t ht => HA.out x hx i hi t ht⟩, fun _ => rfl⟩, rfl⟩
        · have dn : decide ((k : Int) ≤ 40) = false := by rw [decide_eq_false_iff_not]; omega
          go_wp2_with fail
          go_ret
          exact ⟨false, rfl, ⟨(fun h => by cases h), fun h => by have := h.1; omega⟩, rfl⟩
theorem fewQ_below {w w1 : World} {A : Option Addr} {n cap : Nat} (ha : Acts w A n cap) (b : Below w.heap.size w w1) : FewQ w1 A n ↔ FewQ w A n := by
  obtain ⟨_, _, h3⟩ := ha
  constructor
  · rintro ⟨q1, q2⟩
    refine ⟨q1, fun x hx i hi t ht => ?_⟩
    obtain ⟨y, hy, hyb, _⟩ := h3 (by omega)
    obtain rfl : x = y := by rw [hx] at hy; injection hy
    exact q2 x hx i hi t (ht.below b (by rw [block_add]; exact hyb))
  · rintro ⟨q1, q2⟩
    refine ⟨q1, fun x hx i hi t ht => ?_⟩
    obtain ⟨y, hy, hyb, hc⟩ := h3 (by omega)
    obtain rfl : x = y := by rw [hx] at hy; injection hy
    obtain ⟨t0, h0⟩ := hc i hi
    rw [act_len (h0.below b (by rw [block_add]; exact hyb)) ht]
    exact q2 x hx i hi t0 h0
theorem memPlays_walk (s : Int) (A : Option Addr) (n cap : Nat) (w : World) (ws : (Lit.int .i64 s).wf = true) (ha : Acts w A n cap) :
    Calls Try.prog 3 #[.int .i64 s, .slice A n cap] w fun e w' => e = .returned (.bool true) ∧ Below w.heap.size w w' := by
  by_cases hq : FewQ w A n
  · have c : ∀ w1, Below w.heap.size w w1 → Calls Try.prog 6 #[.slice A n cap] w1 fun e w' => e = .returned (.bool true) ∧ w1 = w' := fun w1 hb =>
      (few2_any A n cap w1 (ha.below hb)).mono fun e w' ⟨b, he, hf, hw⟩ => ⟨by rw [he, hf.2 ((fewQ_below ha hb).2 hq)], hw⟩
    by_cases h1 : 64 ≤ s ∧ s ≤ 65536 ∧ s % 64 = 0
    · obtain ⟨h1, h2, h3⟩ := h1
      obtain ⟨N, rfl⟩ : ∃ N : Nat, s = N := ⟨s.toNat, by omega⟩
      by_cases h4 : N ≤ 512
      · exact plays_main N (N / 64) (by omega) (by omega) A n cap w ha h4 hq.1 hq.2 c
      · exact plays_big N (N / 64) (by omega) A n cap w ha (by omega) (by omega) c
    · exact plays_bad s A n cap w ha h1 c
  · have c : ∀ w1, Below w.heap.size w w1 → Calls Try.prog 6 #[.slice A n cap] w1 fun e w' => e = .returned (.bool false) ∧ w1 = w' := fun w1 hb =>
      (few2_any A n cap w1 (ha.below hb)).mono fun e w' ⟨b, he, hf, hw⟩ => ⟨by
        cases b with
        | false => exact he
        | true => exact absurd ((fewQ_below ha hb).1 (hf.1 rfl)) hq, hw⟩
    exact plays_long s A n cap w ha c
end Go.Proofs.Ytjcggpaiminecaa.Mm
