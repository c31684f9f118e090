/- What may stand where: the plain sums of layer 8. -/
import Derived.Test.YtojpcijfipdiaaaScanPad
import Derived.Test.YtojpcijfipdiaaaScanBun
namespace Go.Proofs.Ytojpcijfipdiaaa.Mm
set_option linter.unusedVariables false

def dfl : Nat × InsV := (0, ⟨0, 0, 0, 0⟩)
def useB (x : InsV) : Bool := x.op == 15 || x.op == 16 || x.op == 21
def gateB (x : InsV) : Bool := x.op == 22 && decide (4 < x.imm)
def pairB (a b : InsV) : Bool := if b.op = 15 then a.op == 17 && a.a == b.b else if b.op = 16 then a.op == 17 && a.a == b.a else b.op == 21 && (a.op == 18 && a.a == b.a)
/-- instruction i stands as it may -/
def standsB (L : List (Nat × InsV)) (i : Nat) : Bool := !gateB (L.getD i dfl).2 && (!useB (L.getD i dfl).2 || (decide ((L.getD i dfl).1 % 32 ≠ 0) && pairB (L.getD (i - 1) dfl).2 (L.getD i dfl).2))
def ruleB (L : List (Nat × InsV)) : Bool := (List.range L.length).all (standsB L)
/-- where second ones begin -/
def secP (L : List (Nat × InsV)) : List Nat := (L.filter fun p => useB p.2).map Prod.fst
def ruleE (code : List Int) : Int := if scanE code ≠ 0 then scanE code else if ruleB (scanL code) = true then 0 else 5
def secL (code : List Int) : List Nat := if ruleE code = 0 then secP (scanL code) else []

theorem ruleB_iff (L : List (Nat × InsV)) : ruleB L = true ↔ ∀ i, i < L.length → standsB L i = true := by
  unfold ruleB
  rw [List.all_eq_true]
  constructor
  · intro h i hi; exact h i (List.mem_range.2 hi)
  · intro h i hi; exact h i (List.mem_range.1 hi)
theorem ruleB_no {L : List (Nat × InsV)} {i : Nat} (hi : i < L.length) (h : standsB L i = false) : ruleB L = false := by
  cases hr : ruleB L with
  | false => rfl
  | true => rw [(ruleB_iff L).1 hr i hi] at h; cases h
theorem ruleE_scan {code : List Int} (h : scanE code ≠ 0) : ruleE code = scanE code ∧ secL code = [] := by
  have e : ruleE code = scanE code := by unfold ruleE; rw [if_pos h]
  exact ⟨e, by unfold secL; rw [e, if_neg h]⟩
theorem ruleE_5 {code : List Int} (h : scanE code = 0) (hr : ruleB (scanL code) = false) : ruleE code = 5 ∧ secL code = [] := by
  have e : ruleE code = 5 := by unfold ruleE; rw [if_neg (fun k => k h), if_neg (by rw [hr]; decide)]
  exact ⟨e, by unfold secL; rw [e, if_neg (by decide)]⟩
theorem ruleE_0 {code : List Int} (h : scanE code = 0) (hr : ruleB (scanL code) = true) : ruleE code = 0 ∧ secL code = secP (scanL code) := by
  have e : ruleE code = 0 := by unfold ruleE; rw [if_neg (fun k => k h), if_pos hr]
  exact ⟨e, by unfold secL; rw [if_pos e]⟩
theorem rule_cases (code : List Int) : (scanE code ≠ 0 ∧ ruleE code = scanE code ∧ secL code = []) ∨ (scanE code = 0 ∧ ruleB (scanL code) = false ∧ ruleE code = 5 ∧ secL code = []) ∨
    (scanE code = 0 ∧ ruleB (scanL code) = true ∧ ruleE code = 0 ∧ secL code = secP (scanL code)) := by
  by_cases h : scanE code = 0
  · cases hr : ruleB (scanL code)
    · exact .inr (.inl ⟨h, rfl, ruleE_5 h hr⟩)
    · exact .inr (.inr ⟨h, rfl, ruleE_0 h hr⟩)
  · exact .inl ⟨h, ruleE_scan h⟩

/-- one instruction more -/
theorem getD_el {α : Type} (L : List α) (d : α) (k : Nat) (hk : k < L.length) : L.getD k d = L[k] := by simp [List.getD, hk]
theorem take_1 {α : Type} (L : List α) (d : α) (k : Nat) (hk : k < L.length) : L.take (k + 1) = L.take k ++ [L.getD k d] := by
  rw [List.take_succ_eq_append_getElem hk, getD_el L d k hk]
theorem sec_yes {L : List (Nat × InsV)} {k : Nat} (hk : k < L.length) (h : useB (L.getD k dfl).2 = true) : secP (L.take (k + 1)) = secP (L.take k) ++ [(L.getD k dfl).1] := by
  rw [take_1 L dfl k hk]
  unfold secP
  rw [List.filter_append, List.map_append]
  simp only [List.filter_cons, List.filter_nil, h, if_true, List.map_cons, List.map_nil]
theorem sec_no {L : List (Nat × InsV)} {k : Nat} (hk : k < L.length) (h : useB (L.getD k dfl).2 = false) : secP (L.take (k + 1)) = secP (L.take k) := by
  rw [take_1 L dfl k hk]
  unfold secP
  rw [List.filter_append, List.map_append]
  simp only [List.filter_cons, List.filter_nil, h, Bool.false_eq_true, if_false, List.map_nil, List.append_nil]
theorem sec_all (L : List (Nat × InsV)) : secP (L.take L.length) = secP L := by rw [List.take_length]
theorem sec_len (L : List (Nat × InsV)) : (secP L).length ≤ L.length := by
  unfold secP
  rw [List.length_map]
  exact List.length_filter_le _ _

/-- where each begins -/
theorem with_at : ∀ (l : List InsV) (s k : Nat), k < l.length → (withPos s l).getD k dfl = (s + (flatI (l.take k)).length, l.getD k ⟨0, 0, 0, 0⟩) := by
  intro l
  induction l with
  | nil => intro s k hk; simp at hk
  | cons x t ih =>
    intro s k hk
    cases k with
    | zero => simp [withPos, flatI]
    | succ k =>
      show (withPos (s + x.lay.length) t).getD k dfl = _
      rw [ih _ k (by simpa using hk), List.take_succ_cons, flatI_cons, List.length_append, Nat.add_assoc]
      rfl
theorem with_ge : ∀ (l : List InsV) (s : Nat), ∀ p ∈ withPos s l, s ≤ p.1 := by
  intro l
  induction l with
  | nil => intro s p hp; cases hp
  | cons x t ih =>
    intro s p hp
    rcases List.mem_cons.1 hp with rfl | hp
    · exact Nat.le_refl _
    · have := ih _ p hp; omega
theorem with_lt : ∀ (l : List InsV) (s : Nat), (∀ x ∈ l, x.Ok) → ∀ p ∈ withPos s l, p.1 < s + (flatI l).length := by
  intro l
  induction l with
  | nil => intro s _ p hp; cases hp
  | cons x t ih =>
    intro s h p hp
    have hx := lay_len (h x (by simp))
    rw [flatI_cons, List.length_append]
    rcases List.mem_cons.1 hp with rfl | hp
    · show s < _; omega
    · have := ih _ (fun y hy => h y (by simp [hy])) p hp; omega
theorem with_rise : ∀ (l : List InsV) (s : Nat), (∀ x ∈ l, x.Ok) → ((withPos s l).map Prod.fst).Pairwise (· < ·) := by
  intro l
  induction l with
  | nil => intro s _; exact List.Pairwise.nil
  | cons x t ih =>
    intro s h
    have hx := lay_len (h x (by simp))
    refine List.Pairwise.cons (fun q hq => ?_) (ih _ (fun y hy => h y (by simp [hy])))
    obtain ⟨p, hp, rfl⟩ := List.mem_map.1 hq
    have := with_ge t _ p hp
    show s < p.1
    omega
theorem sec_rise {L : List (Nat × InsV)} (h : (L.map Prod.fst).Pairwise (· < ·)) : (secP L).Pairwise (· < ·) := by
  refine h.sublist ?_
  unfold secP
  exact List.Sublist.map _ List.filter_sublist
theorem rise_nodup {l : List Nat} (h : l.Pairwise (· < ·)) : l.Nodup := h.imp (fun hab e => by omega)
/-- a place among those ahead is below -/
theorem sec_lt {L : List (Nat × InsV)} (h : (L.map Prod.fst).Pairwise (· < ·)) {k : Nat} (hk : k < L.length) : ∀ q ∈ secP (L.take k), q < (L.getD k dfl).1 := by
  intro q hq
  obtain ⟨p, hp, rfl⟩ := List.mem_map.1 hq
  obtain ⟨i, hi, rfl⟩ := List.mem_iff_getElem.1 ((List.mem_filter.1 hp).1)
  rw [List.length_take] at hi
  rw [getD_el L dfl k hk, List.getElem_take]
  have := List.pairwise_iff_getElem.1 h i k (by rw [List.length_map]; omega) (by rw [List.length_map]; exact hk) (by omega)
  simpa using this
theorem sec_mem {L : List (Nat × InsV)} (h : (L.map Prod.fst).Pairwise (· < ·)) {k : Nat} (hk : k < L.length) : (L.getD k dfl).1 ∈ secP L ↔ useB (L.getD k dfl).2 = true := by
  constructor
  · intro hq
    obtain ⟨p, hp, he⟩ := List.mem_map.1 hq
    obtain ⟨h1, h2⟩ := List.mem_filter.1 hp
    obtain ⟨i, hi, rfl⟩ := List.mem_iff_getElem.1 h1
    rw [getD_el L dfl k hk] at he ⊢
    have hik : i = k := by
      have hp := List.pairwise_iff_getElem.1 h
      rcases Nat.lt_trichotomy i k with hl | he' | hl
      · have := hp i k (by rw [List.length_map]; exact hi) (by rw [List.length_map]; exact hk) hl
        simp at this; omega
      · exact he'
      · have := hp k i (by rw [List.length_map]; exact hk) (by rw [List.length_map]; exact hi) hl
        simp at this; omega
    subst hik
    exact h2
  · intro hu
    refine List.mem_map.2 ⟨L.getD k dfl, List.mem_filter.2 ⟨?_, hu⟩, rfl⟩
    rw [getD_el L dfl k hk]
    exact List.getElem_mem _
/-- so many places below n are among them -/
def cntB (S : List Nat) (n : Nat) : Nat := (S.filter fun q => decide (q < n)).length
theorem cnt_0 (S : List Nat) : cntB S 0 = 0 := by
  unfold cntB
  rw [List.filter_eq_nil_iff.2 (fun q _ => by simp)]
  rfl
theorem cnt_step (n : Nat) : ∀ (S : List Nat), S.Nodup → cntB S (n + 1) = cntB S n + (if n ∈ S then 1 else 0) := by
  intro S
  induction S with
  | nil => intro _; rfl
  | cons x t ih =>
    intro h
    obtain ⟨h1, h2⟩ := List.nodup_cons.1 h
    have := ih h2
    unfold cntB at *
    by_cases hx : x = n
    · subst hx
      rw [if_neg h1] at this
      simp only [List.filter_cons, List.mem_cons, true_or, if_true, Nat.lt_irrefl, decide_false, Bool.false_eq_true, if_false, Nat.lt_succ_self, decide_true, List.length_cons]
      omega
    · have hm : (n ∈ x :: t) ↔ n ∈ t := by simp only [List.mem_cons]; constructor; (intro h; rcases h with h | h; exact absurd h.symm hx; exact h); exact .inr
      simp only [hm]
      by_cases hl : x < n
      · simp only [List.filter_cons, hl, show x < n + 1 by omega, decide_true, if_true, List.length_cons]
        omega
      · simp only [List.filter_cons, hl, show ¬ x < n + 1 by omega, decide_false, Bool.false_eq_true, if_false]
        exact this
theorem cnt_all {S : List Nat} {n : Nat} (h : ∀ q ∈ S, q < n) : cntB S n = S.length := by
  unfold cntB
  rw [List.filter_eq_self.2 (fun q hq => decide_eq_true (h q hq))]

/-- what is scanned, as positions -/
theorem scan_with {code : List Int} (hb : Go.Proofs.Ytojpcijfipdiaaa.Bytes code) (h : scanE code = 0) : scanL code = withPos 0 (insI (scanL code)) ∧ (∀ x ∈ insI (scanL code), x.Ok) ∧ code = flatI (insI (scanL code)) := by
  rcases scan_cases code with ⟨_, e, _⟩ | ⟨_, _, e, _⟩ | ⟨_, L, hs, _, e⟩
  · rw [e] at h; cases h
  · rw [e] at h; cases h
  · rw [e]
    obtain ⟨k1, k2, k3⟩ := scan_some hb hs
    exact ⟨k3, fun x hx => by obtain ⟨p, hp, rfl⟩ := List.mem_map.1 hx; exact scan_ok hb hs p hp, k1⟩
theorem scan_rise {code : List Int} (hb : Go.Proofs.Ytojpcijfipdiaaa.Bytes code) (h : scanE code = 0) : ((scanL code).map Prod.fst).Pairwise (· < ·) := by
  obtain ⟨e, ho, _⟩ := scan_with hb h
  rw [e]
  exact with_rise _ 0 ho
theorem scan_below {code : List Int} (hb : Go.Proofs.Ytojpcijfipdiaaa.Bytes code) (h : scanE code = 0) : ∀ p ∈ scanL code, p.1 < code.length := by
  obtain ⟨e, ho, e2⟩ := scan_with hb h
  intro p hp
  rw [e] at hp
  have := with_lt _ 0 ho p hp
  rw [← e2] at this
  omega
theorem sec_below {code : List Int} (hb : Go.Proofs.Ytojpcijfipdiaaa.Bytes code) : ∀ q ∈ secL code, q < code.length := by
  rcases rule_cases code with ⟨_, _, e⟩ | ⟨_, _, _, e⟩ | ⟨h, _, _, e⟩
  · rw [e]; intro q hq; cases hq
  · rw [e]; intro q hq; cases hq
  · rw [e]
    intro q hq
    obtain ⟨p, hp, rfl⟩ := List.mem_map.1 hq
    exact scan_below hb h p ((List.mem_filter.1 hp).1)
theorem secL_nodup {code : List Int} (hb : Go.Proofs.Ytojpcijfipdiaaa.Bytes code) : (secL code).Nodup := by
  rcases rule_cases code with ⟨_, _, e⟩ | ⟨_, _, _, e⟩ | ⟨h, _, _, e⟩
  · rw [e]; exact List.nodup_nil
  · rw [e]; exact List.nodup_nil
  · rw [e]; exact rise_nodup (sec_rise (scan_rise hb h))
end Go.Proofs.Ytojpcijfipdiaaa.Mm
