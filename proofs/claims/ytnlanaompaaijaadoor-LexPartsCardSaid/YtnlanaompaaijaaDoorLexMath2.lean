/- Words of two texts, of a text with wider gaps, of words' texts with gaps between. No program in it. -/
import Derived.Test.YtnlanaompaaijaaDoorLexMath
namespace Go.Proofs.YtnlanaompaaijaaDoor.Mm
set_option linter.unusedVariables false

theorem cls_gap {c : UInt8} (h : cls c = 4) : isG c = true := (cls_4 h).2.2
theorem gap_cls {c : UInt8} (h : isG c = true) : cls c = 4 := (gap_not c h).2.2
theorem run_app (l : Bs) (b : UInt8) (r : Bs) (h : alnum b = false) : runL (l ++ b :: r) = runL l := by
  unfold runL
  induction l with
  | nil => simp [h]
  | cons d l ih => rw [List.cons_append, List.takeWhile_cons, List.takeWhile_cons, ih]
/-- what stands behind a gap makes no difference to the word ahead -/
theorem word_app {c : UInt8} {l : Bs} (b : UInt8) (r : Bs) (h : isG b = true) : wordL ((c :: l) ++ b :: r) = wordL (c :: l) := by
  obtain ⟨ha, h61, _⟩ := gap_not b h
  have hp : Lib.hasPrefix (c :: (l ++ b :: r)) [61, 61] = Lib.hasPrefix (c :: l) [61, 61] := by
    have hb : (61 == b) = false := by simpa using fun e => h61 e.symm
    cases l with
    | nil => simp [Lib.hasPrefix, List.isPrefixOf, hb]
    | cons d l => simp [Lib.hasPrefix, List.isPrefixOf]
  have hr := run_app (c :: l) b r ha
  rw [List.cons_append] at hr ⊢
  unfold wordL
  rw [tell_0, tell_0, hr]
  unfold signL
  rw [hp]
  simp
theorem word_behind {p : Pc} (h : WordOk p) (r : Bs) (hr : r = [] ∨ ∃ b m, r = b :: m ∧ isG b = true) : wordL (p.2.1 ++ r) = some p := by
  rcases hr with rfl | ⟨b, m, rfl, hb⟩
  · rw [List.append_nil]; exact h.own
  · obtain ⟨k, t, v⟩ := p
    match t, h with
    | [], h => exact absurd rfl h.ne
    | c :: t, h => rw [word_app b m hb]; exact h.own
theorem word_head {p : Pc} (h : WordOk p) : ∃ c t, p.2.1 = c :: t ∧ cls c ≠ 4 := by
  match ht : p.2.1, h with
  | [], h => exact absurd ht h.ne
  | c :: t, h => exact ⟨c, t, rfl, fun e => by have := h.nogap c (by rw [ht]; exact List.mem_cons_self ..); rw [cls_gap e] at this; cases this⟩
theorem read_word {p : Pc} (h : WordOk p) (r : Bs) (hr : r = [] ∨ ∃ b m, r = b :: m ∧ isG b = true) : readL (p.2.1 ++ r) = consE p (readL r) := by
  obtain ⟨c, t, ht, hc⟩ := word_head h
  have hw := word_behind h r hr
  have e : (p.2.1 ++ r).drop p.2.1.length = r := by simp
  have e2 : p.2.1 ++ r = c :: (t ++ r) := by rw [ht]; rfl
  rw [e2] at hw e ⊢
  rw [read_some hc hw, e]

/-- all words that are read are words -/
theorem read_ok : ∀ (n : Nat) (l : Bs), l.length ≤ n → ∀ ps, readL l = .ok ps → (∀ p ∈ ps, WordOk p) ∧ (ps.map fun p => p.2.1.length).sum ≤ l.length := by
  intro n
  induction n with
  | zero =>
    intro l hl ps h
    obtain rfl : l = [] := List.eq_nil_of_length_eq_zero (by omega)
    rw [read_nil] at h
    injection h with h
    subst h
    exact ⟨fun p hp => by simp at hp, by simp⟩
  | succ n ih =>
    intro l hl ps h
    match l with
    | [] =>
      rw [read_nil] at h
      injection h with h
      subst h
      exact ⟨fun p hp => by simp at hp, by simp⟩
    | c :: r =>
      simp only [List.length_cons, Nat.add_le_add_iff_right] at hl
      by_cases hc : cls c = 4
      · rw [read_gap hc] at h
        cases hr : readL r with
        | error k => rw [hr] at h; cases h
        | ok qs =>
          rw [hr] at h
          injection h with h
          subst h
          obtain ⟨h1, h2⟩ := ih r hl qs hr
          exact ⟨h1, by simp only [List.length_cons]; omega⟩
      · cases hw : wordL (c :: r) with
        | none => rw [read_none hc hw] at h; cases h
        | some p =>
          rw [read_some hc hw] at h
          have hp := word_pos hw
          obtain ⟨ok, _, hle⟩ := word_ok hw
          have hd : ((c :: r).drop p.2.1.length).length = (c :: r).length - p.2.1.length := List.length_drop
          cases hr : readL ((c :: r).drop p.2.1.length) with
          | error k => rw [hr] at h; cases h
          | ok qs =>
            rw [hr] at h
            injection h with h
            subst h
            obtain ⟨h1, h2⟩ := ih _ (by rw [hd, List.length_cons]; omega) qs hr
            refine ⟨fun q hq => ?_, ?_⟩
            · rcases List.mem_cons.1 hq with rfl | hq
              · exact ok
              · exact h1 q hq
            · rw [List.map_cons, List.sum_cons]; omega
theorem read_words {l : Bs} {ps : List Pc} (h : readL l = .ok ps) : ∀ p ∈ ps, WordOk p := (read_ok _ l (Nat.le_refl _) ps h).1
theorem read_sum {l : Bs} {ps : List Pc} (h : readL l = .ok ps) : (ps.map fun p => p.2.1.length).sum ≤ l.length := (read_ok _ l (Nat.le_refl _) ps h).2
theorem sum_count {ps : List Pc} (h : ∀ p ∈ ps, WordOk p) : ps.length ≤ (ps.map fun p => p.2.1.length).sum := by
  induction ps with
  | nil => simp
  | cons p ps ih =>
    rw [List.map_cons, List.sum_cons, List.length_cons]
    have := ih (fun q hq => h q (List.mem_cons_of_mem _ hq))
    have := List.length_pos_iff.2 (h p (List.mem_cons_self ..)).ne
    omega
theorem read_count {l : Bs} {ps : List Pc} (h : readL l = .ok ps) : ps.length ≤ l.length := Nat.le_trans (sum_count (read_words h)) (read_sum h)

/-- words' texts, a gap ahead of each -/
def gapsL (g : Bs) (ps : List Pc) : Bs := ps.flatMap fun p => g ++ p.2.1
theorem gaps_nil (g : Bs) : gapsL g [] = [] := rfl
theorem gaps_snoc (g : Bs) (ps : List Pc) (p : Pc) : gapsL g (ps ++ [p]) = gapsL g ps ++ g ++ p.2.1 := by unfold gapsL; simp
theorem read_gaps {g : Bs} (hg : ∀ c ∈ g, isG c = true) (r : Bs) : readL (g ++ r) = shE g.length (readL r) := by
  induction g with
  | nil => show readL r = shE 0 (readL r); cases readL r <;> simp [shE]
  | cons c g ih =>
    rw [List.cons_append, read_gap (gap_cls (hg c (List.mem_cons_self ..))), ih (fun d hd => hg d (List.mem_cons_of_mem _ hd))]
    cases readL r <;> simp [shE, Nat.add_comm]
    omega
theorem read_back {g : Bs} (hg : ∀ c ∈ g, isG c = true) (hn : g ≠ []) {ps : List Pc} (h : ∀ p ∈ ps, WordOk p) : readL (gapsL g ps) = .ok ps := by
  induction ps with
  | nil => rfl
  | cons p ps ih =>
    have e : gapsL g (p :: ps) = g ++ (p.2.1 ++ gapsL g ps) := by unfold gapsL; simp
    rw [e, read_gaps hg, read_word (h p (List.mem_cons_self ..)), ih (fun q hq => h q (List.mem_cons_of_mem _ hq))]
    · rfl
    · cases ps with
      | nil => exact .inl rfl
      | cons q qs =>
        right
        match g, hn with
        | b :: g, _ => exact ⟨b, _, rfl, hg b (List.mem_cons_self ..)⟩

/-- two texts with a blank between -/
def partsE (n : Nat) (a b : Except Nat (List Pc)) : Except Nat (List Pc) :=
  match a with
  | .error k => .error k
  | .ok ps => match b with | .error k => .error (n + 1 + k) | .ok qs => .ok (ps ++ qs)
theorem read_parts : ∀ (n : Nat) (s t : Bs), s.length ≤ n → readL (s ++ 32 :: t) = partsE s.length (readL s) (readL t) := by
  intro n
  have h32 : cls 32 = 4 := by decide
  have g32 : isG 32 = true := by decide
  induction n with
  | zero =>
    intro s t hl
    obtain rfl : s = [] := List.eq_nil_of_length_eq_zero (by omega)
    rw [List.nil_append, read_gap h32, read_nil]
    cases readL t <;> simp [shE, partsE]
  | succ n ih =>
    intro s t hl
    match s with
    | [] =>
      rw [List.nil_append, read_gap h32, read_nil]
      cases readL t <;> simp [shE, partsE]
    | c :: r =>
      simp only [List.length_cons, Nat.add_le_add_iff_right] at hl
      by_cases hc : cls c = 4
      · rw [List.cons_append, read_gap hc, read_gap hc, ih r t hl]
        cases readL r <;> cases readL t <;> simp [shE, partsE]; omega
      · have hwa := word_app (c := c) (l := r) 32 t g32
        rw [List.cons_append] at hwa ⊢
        cases hw : wordL (c :: r) with
        | none => rw [read_none hc (hwa.trans hw), read_none hc hw]; rfl
        | some p =>
          have hp := word_pos hw
          obtain ⟨ok, _, hle⟩ := word_ok hw
          have hd : ((c :: r).drop p.2.1.length).length = (c :: r).length - p.2.1.length := List.length_drop
          rw [read_some hc (hwa.trans hw), read_some hc hw]
          have e : (c :: (r ++ 32 :: t)).drop p.2.1.length = (c :: r).drop p.2.1.length ++ 32 :: t := by
            rw [← List.cons_append, List.drop_append_of_le_length hle]
          rw [e, ih _ t (by rw [hd, List.length_cons]; omega), hd]
          cases readL ((c :: r).drop p.2.1.length) <;> cases readL t <;> simp [consE, partsE]
          simp only [List.length_cons] at hle
          omega

/-- each blank and line end made wider -/
def wideL (l : Bs) : Bs := l.flatMap fun c => if isG c then [32, 10, 32] else [c]
theorem wide_nil : wideL [] = [] := rfl
theorem wide_snoc (l : Bs) (c : UInt8) : wideL (l ++ [c]) = wideL l ++ (if isG c then [32, 10, 32] else [c]) := by unfold wideL; simp
theorem wide_gap {c : UInt8} (h : isG c = true) (r : Bs) : wideL (c :: r) = 32 :: 10 :: 32 :: wideL r := by unfold wideL; simp [h]
theorem wide_not {c : UInt8} (h : isG c = false) (r : Bs) : wideL (c :: r) = c :: wideL r := by unfold wideL; simp [h]
theorem wide_len (l : Bs) : (wideL l).length ≤ 3 * l.length := by
  induction l with
  | nil => simp [wideL]
  | cons c r ih =>
    cases h : isG c
    · rw [wide_not h]; simp; omega
    · rw [wide_gap h]; simp; omega
theorem run_wide (l : Bs) : runL (wideL l) = runL l := by
  have h32 : alnum 32 = false := by decide
  unfold runL
  induction l with
  | nil => rfl
  | cons c r ih =>
    cases h : isG c
    · rw [wide_not h, List.takeWhile_cons, List.takeWhile_cons, ih]
    · rw [wide_gap h, List.takeWhile_cons_of_neg (by rw [h32]; decide), List.takeWhile_cons_of_neg (by rw [(gap_not c h).1]; decide)]
theorem sign_wide {c : UInt8} (r : Bs) : Lib.hasPrefix (c :: wideL r) [61, 61] = Lib.hasPrefix (c :: r) [61, 61] := by
  cases r with
  | nil => rfl
  | cons d r =>
    cases h : isG d
    · rw [wide_not h]; simp [Lib.hasPrefix, List.isPrefixOf]
    · rw [wide_gap h]
      have h1 : (61 == d) = false := by simpa using fun e => (gap_not d h).2.1 e.symm
      simp [Lib.hasPrefix, List.isPrefixOf, h1]
theorem word_wide {c : UInt8} (h : isG c = false) (r : Bs) : wordL (c :: wideL r) = wordL (c :: r) := by
  have hr : runL (c :: wideL r) = runL (c :: r) := by rw [← wide_not h]; exact run_wide _
  unfold wordL
  rw [tell_0, tell_0, hr]
  unfold signL
  rw [sign_wide]
  simp
theorem drop_wide : ∀ (k : Nat) (l : Bs), (∀ c ∈ l.take k, isG c = false) → (wideL l).drop k = wideL (l.drop k) := by
  intro k
  induction k with
  | zero => intro l _; rfl
  | succ k ih =>
    intro l h
    cases l with
    | nil => simp [wideL]
    | cons c r =>
      have hc := h c (by simp)
      rw [wide_not hc, List.drop_succ_cons, List.drop_succ_cons]
      exact ih r (fun d hd => h d (by simp [hd]))
def alike (a b : Except Nat (List Pc)) : Prop := match a, b with | .ok x, .ok y => x = y | .error _, .error _ => True | _, _ => False
theorem read_wide : ∀ (n : Nat) (l : Bs), l.length ≤ n → alike (readL (wideL l)) (readL l) := by
  intro n
  have h32 : cls 32 = 4 := by decide
  have h10 : cls 10 = 4 := by decide
  induction n with
  | zero =>
    intro l hl
    obtain rfl : l = [] := List.eq_nil_of_length_eq_zero (by omega)
    rw [wide_nil, read_nil]; exact rfl
  | succ n ih =>
    intro l hl
    match l with
    | [] => rw [wide_nil, read_nil]; exact rfl
    | c :: r =>
      simp only [List.length_cons, Nat.add_le_add_iff_right] at hl
      by_cases hc : cls c = 4
      · rw [wide_gap (cls_gap hc), read_gap h32, read_gap h10, read_gap h32, read_gap hc]
        have h := ih r hl
        revert h
        cases readL (wideL r) <;> cases readL r <;> simp [alike, shE]
      · have hg : isG c = false := by cases h : isG c; rfl; exact absurd (gap_cls h) hc
        rw [wide_not hg]
        have hww := word_wide hg r
        cases hw : wordL (c :: r) with
        | none => rw [read_none hc (hww.trans hw), read_none hc hw]; trivial
        | some p =>
          have hp := word_pos hw
          obtain ⟨ok, htk, hle⟩ := word_ok hw
          have hd : ((c :: r).drop p.2.1.length).length = (c :: r).length - p.2.1.length := List.length_drop
          rw [read_some hc (hww.trans hw), read_some hc hw, ← wide_not hg, drop_wide _ _ (by rw [← htk]; exact ok.nogap)]
          have h := ih ((c :: r).drop p.2.1.length) (by rw [hd, List.length_cons]; omega)
          revert h
          cases readL (wideL ((c :: r).drop p.2.1.length)) <;> cases readL ((c :: r).drop p.2.1.length) <;> simp [alike, consE]
theorem read_1 : readL [97, 61, 49] = .ok [(110, [97], 0), (115, [61], 0), (48, [49], 1)] := by rfl
end Go.Proofs.YtnlanaompaaijaaDoor.Mm
