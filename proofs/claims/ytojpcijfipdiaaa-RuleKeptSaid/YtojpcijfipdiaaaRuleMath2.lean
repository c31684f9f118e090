/- Code of two parts; code without what must be a second one: the plain sums of layer 8. -/
import Derived.Test.YtojpcijfipdiaaaRuleMath
namespace Go.Proofs.Ytojpcijfipdiaaa.Mm
set_option linter.unusedVariables false

theorem getD_left {α : Type} (A B : List α) (d : α) (i : Nat) (h : i < A.length) : (A ++ B).getD i d = A.getD i d := by
  simp [List.getD, List.getElem?_append_left h]
theorem getD_right {α : Type} (A B : List α) (d : α) (i : Nat) : (A ++ B).getD (A.length + i) d = B.getD i d := by
  simp [List.getD, List.getElem?_append_right (Nat.le_add_right _ _)]
theorem stands_left (A B : List (Nat × InsV)) (i : Nat) (h : i < A.length) : standsB (A ++ B) i = standsB A i := by
  unfold standsB
  rw [getD_left A B dfl i h, getD_left A B dfl (i - 1) (by omega)]
/-- the second part, s bytes behind -/
theorem stands_right (A : List (Nat × InsV)) (b : List InsV) (s i : Nat) (hs : s % 32 = 0) (h : i < b.length) : standsB (A ++ withPos s b) (A.length + i) = standsB (withPos 0 b) i := by
  have e1 : ((withPos s b).getD i dfl).2 = ((withPos 0 b).getD i dfl).2 := by rw [with_at b s i h, with_at b 0 i h]
  have e2 : ((withPos s b).getD i dfl).1 % 32 = ((withPos 0 b).getD i dfl).1 % 32 := by rw [with_at b s i h, with_at b 0 i h]; show (s + _) % 32 = (0 + _) % 32; omega
  unfold standsB
  rw [getD_right, e1, e2]
  cases i with
  | zero =>
    have e3 : ((withPos 0 b).getD 0 dfl).1 % 32 = 0 := by rw [with_at b 0 0 h]; simp [flatI]
    simp only [e3, ne_eq, not_true_eq_false, decide_false, Bool.false_and]
  | succ i =>
    have e4 : ((withPos s b).getD i dfl).2 = ((withPos 0 b).getD i dfl).2 := by rw [with_at b s i (by omega), with_at b 0 i (by omega)]
    rw [show A.length + (i + 1) - 1 = A.length + i by omega, getD_right, e4, show i + 1 - 1 = i by omega]
theorem rule_parts (A : List (Nat × InsV)) (b : List InsV) (s : Nat) (hs : s % 32 = 0) : ruleB (A ++ withPos s b) = (ruleB A && ruleB (withPos 0 b)) := by
  rw [Bool.eq_iff_iff, Bool.and_eq_true, ruleB_iff, ruleB_iff, ruleB_iff]
  constructor
  · intro h
    refine ⟨fun i hi => ?_, fun i hi => ?_⟩
    · rw [← stands_left A (withPos s b) i hi]; exact h i (by rw [List.length_append]; omega)
    · rw [withPos_len] at hi
      rw [← stands_right A b s i hs hi]; exact h _ (by rw [List.length_append, withPos_len]; omega)
  · rintro ⟨h1, h2⟩ i hi
    rw [List.length_append, withPos_len] at hi
    rcases Nat.lt_or_ge i A.length with h | h
    · rw [stands_left A _ i h]; exact h1 i h
    · obtain ⟨j, rfl⟩ : ∃ j, i = A.length + j := ⟨i - A.length, by omega⟩
      rw [stands_right A b s j hs (by omega)]; exact h2 j (by rw [withPos_len]; omega)
theorem sec_with_len : ∀ (b : List InsV) (s : Nat), (secP (withPos s b)).length = (b.filter useB).length := by
  intro b
  induction b with
  | nil => intro s; rfl
  | cons x t ih =>
    intro s
    have := ih (s + x.lay.length)
    unfold secP at *
    show (((s, x) :: withPos (s + x.lay.length) t).filter _ |>.map Prod.fst).length = _
    cases hx : useB x
    · simp only [List.filter_cons, hx, Bool.false_eq_true, if_false]; exact this
    · simp only [List.filter_cons, hx, if_true, List.map_cons, List.length_cons]; rw [this]
theorem sec_parts (A : List (Nat × InsV)) (b : List InsV) (s : Nat) : (secP (A ++ withPos s b)).length = (secP A).length + (secP (withPos 0 b)).length := by
  have e : secP (A ++ withPos s b) = secP A ++ secP (withPos s b) := by unfold secP; rw [List.filter_append, List.map_append]
  rw [e, List.length_append, sec_with_len, sec_with_len]

/-- the rules, of code of two parts -/
theorem parts_rule {a b : List Int} (ha : Go.Proofs.Ytojpcijfipdiaaa.Bytes a) (hb : Go.Proofs.Ytojpcijfipdiaaa.Bytes b) (h3 : a.length % 32 = 0) (s1 : sizeB a.length = true) (s2 : sizeB b.length = true) (s3 : sizeB (a ++ b).length = true) :
    (ruleE (a ++ b) ≠ 0 ∧ (ruleE a ≠ 0 ∨ ruleE b ≠ 0)) ∨ (ruleE a = 0 ∧ ruleE b = 0 ∧ ruleE (a ++ b) = 0 ∧ (secL (a ++ b)).length = (secL a).length + (secL b).length) := by
  by_cases hh : scanE a = 0 ∧ scanE b = 0
  · obtain ⟨h1, h2⟩ := hh
    have hs1 : ∃ L, scanAt a 0 = some L := by
      rcases scan_cases a with ⟨_, e, _⟩ | ⟨_, _, e, _⟩ | ⟨_, L, hs, _, _⟩
      · rw [e] at h1; cases h1
      · rw [e] at h1; cases h1
      · exact ⟨L, hs⟩
    have hs2 : ∃ L, scanAt b 0 = some L := by
      rcases scan_cases b with ⟨_, e, _⟩ | ⟨_, _, e, _⟩ | ⟨_, L, hs, _, _⟩
      · rw [e] at h2; cases h2
      · rw [e] at h2; cases h2
      · exact ⟨L, hs⟩
    obtain ⟨L, hL⟩ := hs1
    obtain ⟨M, hM⟩ := hs2
    obtain ⟨K, hK, hm⟩ := parts_yes ha hb h3 hL hM
    obtain ⟨e1, e2⟩ := scanE_0 s3 hK
    have hab : Go.Proofs.Ytojpcijfipdiaaa.Bytes (a ++ b) := fun x hx => (List.mem_append.1 hx).elim (ha x) (hb x)
    obtain ⟨f1, _, f3⟩ := scan_with ha h1
    obtain ⟨g1, _, _⟩ := scan_with hb h2
    obtain ⟨k1, _, _⟩ := scan_with hab e1
    have hi : insI (scanL (a ++ b)) = insI (scanL a) ++ insI (scanL b) := by
      rw [e2, (scanE_0 s1 hL).2, (scanE_0 s2 hM).2]; exact hm
    have hk : scanL (a ++ b) = scanL a ++ withPos a.length (insI (scanL b)) := by
      rw [k1, hi, withPos_app, ← f1, ← f3, Nat.zero_add]
    have r := rule_parts (scanL a) (insI (scanL b)) a.length h3
    rw [← hk, ← g1] at r
    have q := sec_parts (scanL a) (insI (scanL b)) a.length
    rw [← hk, ← g1] at q
    cases r1 : ruleB (scanL a)
    · rw [r1] at r
      exact .inl ⟨by rw [(ruleE_5 e1 r).1]; decide, .inl (by rw [(ruleE_5 h1 r1).1]; decide)⟩
    · cases r2 : ruleB (scanL b)
      · rw [r1, r2] at r
        exact .inl ⟨by rw [(ruleE_5 e1 r).1]; decide, .inr (by rw [(ruleE_5 h2 r2).1]; decide)⟩
      · rw [r1, r2] at r
        exact .inr ⟨(ruleE_0 h1 r1).1, (ruleE_0 h2 r2).1, (ruleE_0 e1 r).1, by rw [(ruleE_0 e1 r).2, (ruleE_0 h1 r1).2, (ruleE_0 h2 r2).2]; exact q⟩
  · have hn : scanAt a 0 = none ∨ scanAt b 0 = none := by
      rcases scan_cases a with ⟨e, _, _⟩ | ⟨_, e, _⟩ | ⟨_, L, hs, e, _⟩
      · rw [s1] at e; cases e
      · exact .inl e
      · rcases scan_cases b with ⟨e', _, _⟩ | ⟨_, e', _⟩ | ⟨_, L', hs', e', _⟩
        · rw [s2] at e'; cases e'
        · exact .inr e'
        · exact absurd ⟨e, e'⟩ hh
    have e1 := (scanE_2 s3 (parts_no ha hb h3 hn)).1
    refine .inl ⟨by rw [(ruleE_scan (by rw [e1]; decide)).1, e1]; decide, ?_⟩
    rcases hn with hn | hn
    · have := (scanE_2 s1 hn).1
      exact .inl (by rw [(ruleE_scan (by rw [this]; decide)).1, this]; decide)
    · have := (scanE_2 s2 hn).1
      exact .inr (by rw [(ruleE_scan (by rw [this]; decide)).1, this]; decide)

/-- code without what must be a second one, and without gates -/
theorem rule_free {L : List (Nat × InsV)} (h : ∀ p ∈ L, useB p.2 = false ∧ gateB p.2 = false) : ruleB L = true := by
  rw [ruleB_iff]
  intro i hi
  obtain ⟨h1, h2⟩ := h (L.getD i dfl) (by rw [getD_el L dfl i hi]; exact List.getElem_mem _)
  unfold standsB
  rw [h1, h2]
  rfl
theorem pad_mem : ∀ (l : List InsV) (s : Nat), ∀ y ∈ padI s l, y = nopI ∨ y ∈ l := by
  intro l
  induction l with
  | nil => intro s y hy; exact .inl (List.eq_of_mem_replicate hy)
  | cons x t ih =>
    intro s y hy
    rcases List.mem_append.1 hy with hy | hy
    · exact .inl (List.eq_of_mem_replicate hy)
    · rcases List.mem_cons.1 hy with rfl | hy
      · exact .inr (by simp)
      · rcases ih _ y hy with h | h
        · exact .inl h
        · exact .inr (by simp [h])
theorem pad_free {l : List InsV} (hok : ∀ x ∈ l, x.Ok) (h : ∀ x ∈ l, useB x = false ∧ gateB x = false) (h0 : 0 < (padL l).length) (h4 : (padL l).length ≤ 4096) : ruleE (padL l) = 0 := by
  have hs : sizeB (padL l).length = true := (sizeB_iff _).2 ⟨by have := pad_len32 l hok; omega, h4, pad_len32 l hok⟩
  obtain ⟨e1, e2⟩ := scanE_0 hs (pad_scan l hok)
  refine (ruleE_0 e1 ?_).1
  rw [e2]
  refine rule_free fun p hp => ?_
  have hm : p.2 ∈ padI 0 l := by
    have := List.mem_map_of_mem (f := Prod.snd) hp
    rwa [withPos_ins] at this
  rcases pad_mem l 0 _ hm with h1 | h1
  · rw [h1]; exact ⟨by decide, by decide⟩
  · exact h _ h1
/-- a Nop, and one that must be a second one -/
theorem pad_alone {x : InsV} (hx : x.Ok) (hu : useB x = true) : ruleE (padL [nopI, x]) = 5 := by
  have hok : ∀ y ∈ [nopI, x], y.Ok := fun y hy => by
    simp only [List.mem_cons, List.not_mem_nil, or_false] at hy
    rcases hy with rfl | rfl
    · exact nop_ok
    · exact hx
  have hl := lay_len hx
  have hb := pad_bd [nopI, x] 0 hok
  have hf := flat_bd [nopI, x] hok
  simp only [List.length_cons, List.length_nil] at hb hf
  have h32 := pad_len32 [nopI, x] hok
  have hlen : 0 < (padL [nopI, x]).length ∧ (padL [nopI, x]).length ≤ 4096 := by unfold padL at *; omega
  have hs : sizeB (padL [nopI, x]).length = true := (sizeB_iff _).2 ⟨by omega, hlen.2, h32⟩
  obtain ⟨e1, e2⟩ := scanE_0 hs (pad_scan _ hok)
  refine (ruleE_5 e1 ?_).1
  rw [e2]
  have g1 : gapN 0 nopI.lay.length = 0 := by rw [nop_lay]; rfl
  have g2 : gapN (0 + 0 + nopI.lay.length) x.lay.length = 0 := by
    rw [nop_lay]; unfold gapN
    rw [if_pos (by show (0 + 0 + 1) % 32 + _ ≤ 32; omega)]
  have ep : padI 0 [nopI, x] = nopI :: x :: padI (0 + 0 + nopI.lay.length + 0 + x.lay.length) [] := by
    show List.replicate (gapN 0 nopI.lay.length) nopI ++ nopI :: (List.replicate (gapN (0 + gapN 0 nopI.lay.length + nopI.lay.length) x.lay.length) nopI ++ x :: padI (0 + gapN 0 nopI.lay.length + nopI.lay.length + gapN (0 + gapN 0 nopI.lay.length + nopI.lay.length) x.lay.length + x.lay.length) []) = _
    rw [g1, g2]
    rfl
  rw [ep]
  refine ruleB_no (i := 1) (by rw [withPos_len]; simp) ?_
  have n1 : (withPos 0 (nopI :: x :: padI (0 + 0 + nopI.lay.length + 0 + x.lay.length) [])).getD 1 dfl = (0 + nopI.lay.length, x) := rfl
  have n0 : (withPos 0 (nopI :: x :: padI (0 + 0 + nopI.lay.length + 0 + x.lay.length) [])).getD (1 - 1) dfl = (0, nopI) := rfl
  have np : pairB nopI x = false := by
    unfold pairB
    split
    · rfl
    · split
      · rfl
      · rw [show (nopI.op == 18) = false from rfl]; simp
  unfold standsB
  rw [n1, n0, hu, np]
  simp
end Go.Proofs.Ytojpcijfipdiaaa.Mm
