/- Words of two texts, of a text with wider gaps, of words' texts with gaps between. No program in it. -/
import Derived.Lib.ParseIntB
import Derived.Lib.Bytealg
import Derived.Lib.Strings
namespace Go.Proofs.YtkacplcilkogpaaGreatDoor.Mm
set_option linter.unusedVariables false

abbrev Bs := List UInt8
def lmarks : Bs := [123, 125, 91, 93, 40, 41, 59, 61, 60, 43, 45, 42, 47, 37]
def isL (c : UInt8) : Bool := decide (97 ≤ c.toNat ∧ c.toNat ≤ 122)
def isD (c : UInt8) : Bool := decide (48 ≤ c.toNat ∧ c.toNat ≤ 57)
def isG (c : UInt8) : Bool := decide (c.toNat = 32 ∨ c.toNat = 10)
def isM (c : UInt8) : Bool := decide (0 ≤ Lib.indexByte lmarks c)
/-- what a byte is -/
def cls (c : UInt8) : Int := if isL c then 1 else if isD c then 2 else if isG c then 4 else if isM c then 3 else 0
/-- what the byte at a place is; 5 behind the last one -/
def tell (l : Bs) (k : Nat) : Int := match l[k]? with | none => 5 | some c => cls c
def alnum (c : UInt8) : Bool := isL c || isD c
def runL (l : Bs) : Bs := l.takeWhile alnum
def lkeys : List Bs := [[118, 97, 114], [97, 114, 114], [105, 102], [101, 108, 115, 101], [119, 104, 105, 108, 101], [111, 117, 116], [105, 110], [101, 120, 105, 116]]
def isK (t : Bs) : Bool := decide (t ∈ lkeys)
/-- a word: its kind, its text, its number -/
abbrev Pc := Int × Bs × Int
def nameL (t : Bs) : Option Pc := if 8 < t.length then none else some (if isK t then 107 else 110, t, 0)
def numL (t : Bs) : Option Pc :=
  match Lib.parseUintB 32 t with
  | .ok u => if t.headD 0 = 48 ∧ 1 < t.length then none else some (48, t, (u : Int))
  | _ => none
def signL (l : Bs) : Pc := if Lib.hasPrefix l [61, 61] then (115, [61, 61], 0) else (115, l.take 1, 0)
/-- the word that a text begins with -/
def wordL (l : Bs) : Option Pc :=
  if tell l 0 = 1 then nameL (runL l) else if tell l 0 = 2 then numL (runL l) else if tell l 0 = 3 then some (signL l) else none
def shE (n : Nat) (r : Except Nat (List Pc)) : Except Nat (List Pc) := match r with | .ok ps => .ok ps | .error k => .error (n + k)
def consE (p : Pc) (r : Except Nat (List Pc)) : Except Nat (List Pc) := match r with | .ok ps => .ok (p :: ps) | .error k => .error (p.2.1.length + k)
def readF : Nat → Bs → Except Nat (List Pc)
  | 0, _ => .ok []
  | _ + 1, [] => .ok []
  | f + 1, c :: r =>
    if cls c = 4 then shE 1 (readF f r)
    else match wordL (c :: r) with
      | none => .error 0
      | some p => consE p (readF f ((c :: r).drop p.2.1.length))
def readL (l : Bs) : Except Nat (List Pc) := readF l.length l

theorem run_len (l : Bs) : (runL l).length ≤ l.length := by unfold runL; exact (List.takeWhile_sublist _).length_le
theorem run_pre (l : Bs) : runL l = l.take (runL l).length := by
  unfold runL
  exact (List.prefix_iff_eq_take.1 (List.takeWhile_prefix _))
theorem run_all (l : Bs) : ∀ c ∈ runL l, alnum c = true := by
  unfold runL
  induction l with
  | nil => intro c hc; simp at hc
  | cons d l ih =>
    intro c hc
    rw [List.takeWhile_cons] at hc
    split at hc
    · rename_i hd
      rcases List.mem_cons.1 hc with rfl | hc
      · exact hd
      · exact ih c hc
    · simp at hc
theorem run_same {l : Bs} (h : ∀ c ∈ l, alnum c = true) (m : Bs) : runL (l ++ m) = l ++ runL m := by
  unfold runL
  induction l with
  | nil => rfl
  | cons d l ih =>
    rw [List.cons_append, List.takeWhile_cons, if_pos (h d (List.mem_cons_self ..)), ih (fun c hc => h c (List.mem_cons_of_mem _ hc))]; rfl
theorem cls_1 {c : UInt8} (h : cls c = 1) : isL c = true := by
  unfold cls at h
  cases hL : isL c
  · rw [hL] at h
    cases hD : isD c <;> cases hG : isG c <;> cases hM : isM c <;> simp_all
  · rfl
theorem cls_2 {c : UInt8} (h : cls c = 2) : isL c = false ∧ isD c = true := by
  unfold cls at h
  cases hL : isL c <;> cases hD : isD c <;> cases hG : isG c <;> cases hM : isM c <;> simp_all
theorem cls_3 {c : UInt8} (h : cls c = 3) : isL c = false ∧ isD c = false ∧ isG c = false ∧ isM c = true := by
  unfold cls at h
  cases hL : isL c <;> cases hD : isD c <;> cases hG : isG c <;> cases hM : isM c <;> simp_all
theorem cls_lt (c : UInt8) : 0 ≤ cls c ∧ cls c ≤ 4 := by unfold cls; split <;> (try split) <;> (try split) <;> (try split) <;> decide
theorem gap_not (c : UInt8) (h : isG c = true) : alnum c = false ∧ c ≠ 61 ∧ cls c = 4 := by
  unfold isG at h
  have h := of_decide_eq_true h
  have hL : isL c = false := by unfold isL; simp; omega
  have hD : isD c = false := by unfold isD; simp; omega
  refine ⟨by unfold alnum; rw [hL, hD]; rfl, ?_, ?_⟩
  · rintro rfl; revert h; decide
  · unfold cls; rw [hL, hD]; simp [isG, h]
theorem tell_0 (c : UInt8) (r : Bs) : tell (c :: r) 0 = cls c := rfl
theorem tell_lt {l : Bs} {k : Nat} (h : k < l.length) : tell l k = cls (l.getD k 0) := by
  unfold tell; simp [List.getElem?_eq_getElem h, List.getD]
theorem tell_ge {l : Bs} {k : Nat} (h : l.length ≤ k) : tell l k = 5 := by
  unfold tell; simp [List.getElem?_eq_none h]
theorem tell_drop (l : Bs) (k j : Nat) : tell (l.drop k) j = tell l (k + j) := by
  unfold tell; rw [List.getElem?_drop]
theorem head_run {c : UInt8} {r : Bs} (h : alnum c = true) : runL (c :: r) = c :: runL r := by unfold runL; simp [h]

/-- what a word is -/
structure WordOk (p : Pc) : Prop where
  ne : p.2.1 ≠ []
  kL : isL (p.2.1.headD 0) = true ↔ (p.1 = 110 ∨ p.1 = 107)
  kD : isD (p.2.1.headD 0) = true ↔ p.1 = 48
  kK : p.1 = 107 ↔ isK p.2.1 = true
  kV : p.1 ≠ 48 → p.2.2 = 0
  top : p.2.1.length ≤ 10
  v0 : 0 ≤ p.2.2
  v1 : p.2.2 ≤ 4294967295
  k0 : 0 ≤ p.1
  k1 : p.1 ≤ 255
  own : wordL p.2.1 = some p
  nogap : ∀ c ∈ p.2.1, isG c = false

theorem parseM_len : ∀ (l : Bs) (acc u : Nat), Lib.parseUintM (2 ^ 32 - 1) acc l = .ok u → acc * 10 ^ l.length ≤ u ∧ u ≤ max acc 4294967295 := by
  intro l
  induction l with
  | nil =>
    intro acc u h
    simp only [Lib.parseUintM, Lib.NumEnd.ok.injEq] at h
    subst h
    simp
    omega
  | cons c r ih =>
    intro acc u h
    unfold Lib.parseUintM at h
    split at h
    · split at h
      · cases h
      · split at h
        · cases h
        · rename_i hM
          obtain ⟨h1, h2⟩ := ih _ _ h
          refine ⟨?_, by omega⟩
          rw [List.length_cons, Nat.pow_succ, Nat.mul_comm (10 ^ r.length) 10, ← Nat.mul_assoc]
          exact Nat.le_trans (Nat.mul_le_mul_right _ (by omega)) h1
    · cases h
theorem digit_key (c : UInt8) (h : isL c = false) (r : Bs) : isK (c :: r) = false := by
  unfold isK
  rw [decide_eq_false_iff_not]
  intro hm
  simp only [lkeys, List.mem_cons, List.not_mem_nil, or_false, List.cons.injEq] at hm
  have : isL c = true := by rcases hm with ⟨rfl, _⟩ | ⟨rfl, _⟩ | ⟨rfl, _⟩ | ⟨rfl, _⟩ | ⟨rfl, _⟩ | ⟨rfl, _⟩ | ⟨rfl, _⟩ | ⟨rfl, _⟩ <;> decide
  rw [h] at this; cases this
theorem num_len {t : Bs} {u : Nat} (h : Lib.parseUintB 32 t = .ok u) (hz : ¬ (t.headD 0 = 48 ∧ 1 < t.length)) : t.length ≤ 10 ∧ u ≤ 4294967295 := by
  unfold Lib.parseUintB at h
  split at h
  · cases h
  · match t, hz with
    | c :: r, hz =>
      unfold Lib.parseUintM at h
      split at h
      · split at h
        · cases h
        · split at h
          · cases h
          · rename_i hd _ hM
            obtain ⟨h1, h2⟩ := parseM_len _ _ _ h
            refine ⟨?_, by omega⟩
            rcases Nat.lt_or_ge r.length 10 with hr | hr
            · simp; omega
            · exfalso
              have h48 : c.toNat ≠ 48 := by
                intro e
                apply hz
                refine ⟨?_, by simp; omega⟩
                show c = 48
                exact UInt8.toNat_inj.1 e
              have hp : 10 ^ 10 ≤ 10 ^ r.length := Nat.pow_le_pow_right (by decide) hr
              have : 1 * 10 ^ 10 ≤ (0 * 10 + (c.toNat - 48)) * 10 ^ r.length := Nat.mul_le_mul (by omega) hp
              omega
      · cases h
theorem al_gap {c : UInt8} (h : alnum c = true) : isG c = false := by
  cases hG : isG c
  · rfl
  · have := (gap_not c hG).1; rw [h] at this; cases this
theorem run_idem (l : Bs) : runL (runL l) = runL l := by
  have h := run_same (run_all l) []
  simpa [runL] using h
theorem word_ok {l : Bs} {p : Pc} (h : wordL l = some p) : WordOk p ∧ p.2.1 = l.take p.2.1.length ∧ p.2.1.length ≤ l.length := by
  match l with
  | [] => unfold wordL at h; simp [tell] at h
  | c :: r =>
    unfold wordL at h
    rw [tell_0] at h
    by_cases h1 : cls c = 1
    · rw [if_pos h1] at h
      have hL := cls_1 h1
      have ha : alnum c = true := by unfold alnum; rw [hL]; rfl
      have hD : isD c = false := by unfold isL at hL; have := of_decide_eq_true hL; unfold isD; simp; omega
      unfold nameL at h
      split at h
      · cases h
      · rename_i h8
        simp only [Option.some.injEq] at h
        subst h
        have hr : runL (c :: r) = c :: runL r := head_run ha
        have hi : runL (runL (c :: r)) = runL (c :: r) := run_idem _
        refine ⟨⟨?_, ?_, ?_, ?_, ?_, ?_, ?_, ?_, ?_, ?_, ?_, ?_⟩, run_pre _, run_len _⟩
        · simp only; rw [hr]; exact List.cons_ne_nil _ _
        · simp only; rw [hr]; simp only [List.headD_cons, hL, true_iff]; split <;> simp
        · simp only; rw [hr]; simp only [List.headD_cons, hD]; split <;> simp
        · simp only; split <;> simp_all
        · intro _; rfl
        · simp only; omega
        · simp
        · simp
        · simp only; split <;> decide
        · simp only; split <;> decide
        · simp only
          unfold wordL
          rw [hr, tell_0, if_pos h1, ← hr, hi]
          unfold nameL
          rw [if_neg h8]
        · intro d hd
          exact al_gap (run_all _ d hd)
    · rw [if_neg h1] at h
      by_cases h2 : cls c = 2
      · rw [if_pos h2] at h
        obtain ⟨hL, hD⟩ := cls_2 h2
        have ha : alnum c = true := by unfold alnum; rw [hD]; simp
        have hr : runL (c :: r) = c :: runL r := head_run ha
        have hi : runL (runL (c :: r)) = runL (c :: r) := run_idem _
        have h0 := h
        unfold numL at h
        split at h
        · rename_i u hu
          split at h
          · cases h
          · rename_i hz
            simp only [Option.some.injEq] at h
            obtain ⟨hl, hv⟩ := num_len hu hz
            subst h
            refine ⟨⟨?_, ?_, ?_, ?_, ?_, hl, ?_, ?_, ?_, ?_, ?_, ?_⟩, run_pre _, run_len _⟩
            · simp only; rw [hr]; exact List.cons_ne_nil _ _
            · simp only; rw [hr]; simp [hL]
            · simp only; rw [hr]; simp [hD]
            · simp only; rw [hr, digit_key c hL]; simp
            · intro hh; exact absurd rfl hh
            · simp only; omega
            · simp only; omega
            · simp
            · simp
            · simp only
              unfold wordL
              rw [hr, tell_0, if_neg h1, if_pos h2, ← hr, hi]
              exact h0
            · intro d hd
              exact al_gap (run_all _ d hd)
        · cases h
      · rw [if_neg h2] at h
        by_cases h3 : cls c = 3
        · rw [if_pos h3] at h
          obtain ⟨hL, hD, hG, hM⟩ := cls_3 h3
          simp only [Option.some.injEq] at h
          subst h
          unfold signL
          by_cases hp : Lib.hasPrefix (c :: r) [61, 61] = true
          · rw [if_pos hp]
            have hpre : [61, 61] <+: (c :: r) := by unfold Lib.hasPrefix at hp; exact List.isPrefixOf_iff_prefix.1 hp
            have hl := hpre.length_le
            exact ⟨⟨by decide, by decide, by decide, by decide, by decide, by decide, by decide, by decide, by decide, by decide, by decide, by decide⟩, List.prefix_iff_eq_take.1 hpre, hl⟩
          · rw [if_neg hp]
            refine ⟨⟨by simp, ?_, ?_, ?_, fun _ => rfl, by simp, by simp, by simp, by simp, by simp, ?_, ?_⟩, by simp, by simp⟩
            · simp [hL]
            · simp [hD]
            · simp [digit_key c hL]
            · simp only [List.take_succ_cons, List.take_zero]
              unfold wordL
              rw [tell_0, if_neg h1, if_neg h2, if_pos h3]
              have : Lib.hasPrefix [c] [61, 61] = false := by simp [Lib.hasPrefix, List.isPrefixOf]
              unfold signL
              rw [if_neg (by rw [this]; decide)]
              rfl
            · intro d hd
              simp at hd
              subst hd
              exact hG
        · rw [if_neg h3] at h; cases h
theorem word_pos {l : Bs} {p : Pc} (h : wordL l = some p) : 0 < p.2.1.length := by
  obtain ⟨hk, _, _⟩ := word_ok h
  exact List.length_pos_iff.2 hk.ne

theorem readF_cons (f : Nat) (c : UInt8) (r : Bs) : readF (f + 1) (c :: r) = if cls c = 4 then shE 1 (readF f r) else match wordL (c :: r) with | none => .error 0 | some p => consE p (readF f ((c :: r).drop p.2.1.length)) := rfl
theorem readL_cons (c : UInt8) (r : Bs) : readL (c :: r) = if cls c = 4 then shE 1 (readF r.length r) else match wordL (c :: r) with | none => .error 0 | some p => consE p (readF r.length ((c :: r).drop p.2.1.length)) := rfl
/-- fuel makes no difference -/
theorem readF_fuel : ∀ (f : Nat) (l : Bs), l.length ≤ f → readF f l = readL l := by
  intro f
  induction f using Nat.strongRecOn with
  | ind f ih =>
    intro l hl
    match f, l with
    | 0, [] => rfl
    | 0, c :: r => simp at hl
    | f + 1, [] => rfl
    | f + 1, c :: r =>
      simp only [List.length_cons, Nat.add_le_add_iff_right] at hl
      rw [readF_cons, readL_cons]
      split
      · rw [ih f (by omega) r hl]; rfl
      · cases hw : wordL (c :: r) with
        | none => rfl
        | some p =>
          have hp := word_pos hw
          have hd : ((c :: r).drop p.2.1.length).length ≤ r.length := by rw [List.length_drop]; simp; omega
          simp only
          rw [ih f (by omega) _ (by omega), ih r.length (by omega) _ hd]
theorem read_nil : readL [] = .ok [] := rfl
theorem read_gap {c : UInt8} {r : Bs} (h : cls c = 4) : readL (c :: r) = shE 1 (readL r) := by
  rw [readL_cons, if_pos h]; rfl
theorem read_none {c : UInt8} {r : Bs} (h : cls c ≠ 4) (hw : wordL (c :: r) = none) : readL (c :: r) = .error 0 := by
  rw [readL_cons, if_neg h, hw]
theorem read_some {c : UInt8} {r : Bs} {p : Pc} (h : cls c ≠ 4) (hw : wordL (c :: r) = some p) : readL (c :: r) = consE p (readL ((c :: r).drop p.2.1.length)) := by
  rw [readL_cons, if_neg h, hw]
  have hp := word_pos hw
  simp only
  rw [readF_fuel _ _ (by rw [List.length_drop]; simp; omega)]
/-- all words that are read are words -/
theorem read_ok : ∀ (n : Nat) (l : Bs), l.length ≤ n → ∀ ps, readL l = .ok ps → (∀ p ∈ ps, WordOk p) ∧ (ps.map fun p => p.2.1.length).sum ≤ l.length := by
  intro n
  induction n with
  | zero =>
    intro l hl ps h
    obtain rfl : l = [] := List.eq_nil_of_length_eq_zero (by omega)
    rw [read_nil] at h
    injection h with h
    subst h
    exact ⟨fun p hp => by simp at hp, by simp⟩
  | succ n ih =>
    intro l hl ps h
    match l with
    | [] =>
      rw [read_nil] at h
      injection h with h
      subst h
      exact ⟨fun p hp => by simp at hp, by simp⟩
    | c :: r =>
      simp only [List.length_cons, Nat.add_le_add_iff_right] at hl
      by_cases hc : cls c = 4
      · rw [read_gap hc] at h
        cases hr : readL r with
        | error k => rw [hr] at h; cases h
        | ok qs =>
          rw [hr] at h
          injection h with h
          subst h
          obtain ⟨h1, h2⟩ := ih r hl qs hr
          exact ⟨h1, by simp only [List.length_cons]; omega⟩
      · cases hw : wordL (c :: r) with
        | none => rw [read_none hc hw] at h; cases h
        | some p =>
          rw [read_some hc hw] at h
          have hp := word_pos hw
          obtain ⟨ok, _, hle⟩ := word_ok hw
          have hd : ((c :: r).drop p.2.1.length).length = (c :: r).length - p.2.1.length := List.length_drop
          cases hr : readL ((c :: r).drop p.2.1.length) with
          | error k => rw [hr] at h; cases h
          | ok qs =>
            rw [hr] at h
            injection h with h
            subst h
            obtain ⟨h1, h2⟩ := ih _ (by rw [hd, List.length_cons]; omega) qs hr
            refine ⟨fun q hq => ?_, ?_⟩
            · rcases List.mem_cons.1 hq with rfl | hq
              · exact ok
              · exact h1 q hq
            · rw [List.map_cons, List.sum_cons]; omega
theorem read_words {l : Bs} {ps : List Pc} (h : readL l = .ok ps) : ∀ p ∈ ps, WordOk p := (read_ok _ l (Nat.le_refl _) ps h).1
theorem read_sum {l : Bs} {ps : List Pc} (h : readL l = .ok ps) : (ps.map fun p => p.2.1.length).sum ≤ l.length := (read_ok _ l (Nat.le_refl _) ps h).2
theorem sum_count {ps : List Pc} (h : ∀ p ∈ ps, WordOk p) : ps.length ≤ (ps.map fun p => p.2.1.length).sum := by
  induction ps with
  | nil => simp
  | cons p ps ih =>
    rw [List.map_cons, List.sum_cons, List.length_cons]
    have := ih (fun q hq => h q (List.mem_cons_of_mem _ hq))
    have := List.length_pos_iff.2 (h p (List.mem_cons_self ..)).ne
    omega
theorem read_count {l : Bs} {ps : List Pc} (h : readL l = .ok ps) : ps.length ≤ l.length := Nat.le_trans (sum_count (read_words h)) (read_sum h)

/-- words' texts, a gap ahead of each -/
def gapsL (g : Bs) (ps : List Pc) : Bs := ps.flatMap fun p => g ++ p.2.1
end Go.Proofs.YtkacplcilkogpaaGreatDoor.Mm
