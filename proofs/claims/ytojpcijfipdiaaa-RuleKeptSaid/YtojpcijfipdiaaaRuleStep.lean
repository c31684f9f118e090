/- What may stand where: one instruction more (plain sums). -/
import Derived.Test.YtojpcijfipdiaaaRuleWalk
import Derived.Test.YtojpcijfipdiaaaRuleMath
namespace Go.Proofs.Ytojpcijfipdiaaa.Mm
set_option linter.unusedVariables false

/-- the first k instructions stand as they may; where their second ones begin -/
def SecI (L : List (Nat × InsV)) (k : Nat) (S : List Nat) : Prop := (∀ j, j < k → standsB L j = true) ∧ S = secP (L.take k)
theorem secI_0 (L : List (Nat × InsV)) : SecI L 0 [] := ⟨fun j h => by omega, rfl⟩
theorem pair_use {a b : InsV} (h : pairB a b = true) : useB b = true ∧ gateB b = false := by
  unfold useB gateB
  rcases pair_ways a b with ⟨h1, _, e⟩ | ⟨h1, _, _⟩ | ⟨h1, h2, _, e⟩ | ⟨h1, h2, _, _⟩ | ⟨h1, h2, h3, _, e⟩ | ⟨h1, h2, h3, _, _⟩ | ⟨_, _, _, e⟩
  · rw [e] at h; cases h
  · have : b.op = 15 := by simpa using h1
    simp [this]
  · rw [e] at h; cases h
  · have : b.op = 16 := by simpa using h2
    simp [this]
  · rw [e] at h; cases h
  · have : b.op = 21 := by simpa using h3
    simp [this]
  · rw [e] at h; cases h
theorem secI_pair {L : List (Nat × InsV)} (hr : (L.map Prod.fst).Pairwise (· < ·)) {k : Nat} {S : List Nat} (h : SecI L k S) (hk : k < L.length) (hp : (L.getD k dfl).1 % 32 ≠ 0) (hq : pairB (L.getD (k - 1) dfl).2 (L.getD k dfl).2 = true) :
    SecI L (k + 1) (S ++ [(L.getD k dfl).1]) ∧ (L.getD k dfl).1 ∉ S := by
  obtain ⟨h1, rfl⟩ := h
  obtain ⟨hu, hg⟩ := pair_use hq
  refine ⟨⟨fun j hj => ?_, (sec_yes hk hu).symm⟩, fun hm => by have := sec_lt hr hk _ hm; omega⟩
  rcases Nat.lt_or_ge j k with h | h
  · exact h1 j h
  · obtain rfl : j = k := by omega
    unfold standsB
    rw [hg, hq, decide_eq_true hp]; simp
theorem secI_alone {L : List (Nat × InsV)} {k : Nat} {S : List Nat} (h : SecI L k S) (hk : k < L.length) (ha : aloneB (L.getD k dfl).2 = true) : SecI L (k + 1) S := by
  obtain ⟨h1, rfl⟩ := h
  have ha' : useB (L.getD k dfl).2 = false ∧ gateB (L.getD k dfl).2 = false := by simpa [aloneB] using ha
  obtain ⟨hu, hg⟩ := ha'
  refine ⟨fun j hj => ?_, (sec_no hk hu).symm⟩
  rcases Nat.lt_or_ge j k with h | h
  · exact h1 j h
  · obtain rfl : j = k := by omega
    unfold standsB
    rw [hg, hu]; simp
theorem rule_no {L : List (Nat × InsV)} {k : Nat} (hk : k < L.length) (ha : aloneB (L.getD k dfl).2 = false) (hp : (L.getD k dfl).1 % 32 = 0 ∨ pairB (L.getD (k - 1) dfl).2 (L.getD k dfl).2 = false) : ruleB L = false := by
  refine ruleB_no hk ?_
  unfold standsB
  unfold aloneB at ha
  cases hg : gateB (L.getD k dfl).2
  · rw [hg] at ha
    have hu : useB (L.getD k dfl).2 = true := by simpa using ha
    rw [hu]
    rcases hp with h | h
    · simp only [h]; simp
    · simp only [h]; simp
  · simp
theorem rule_gate {L : List (Nat × InsV)} {k : Nat} (hk : k < L.length) (hg : gateB (L.getD k dfl).2 = true) : ruleB L = false := by
  refine ruleB_no hk ?_
  unfold standsB
  rw [hg]; simp
theorem secI_end {L : List (Nat × InsV)} {S : List Nat} (h : SecI L L.length S) : ruleB L = true ∧ S = secP L := ⟨(ruleB_iff L).2 h.1, by rw [h.2, sec_all]⟩
/-- a place, an instruction: of the rows -/
theorem pos_at {L : List (Nat × InsV)} {k : Nat} (hk : k < L.length) : (posI L).getD k 0 = ((L.getD k dfl).1 : Int) := by simp [posI, List.getD, hk]
theorem ins_at {L : List (Nat × InsV)} {k : Nat} (hk : k < L.length) : (insI L).getD k insD = (L.getD k dfl).2 := by simp [insI, List.getD, hk]
theorem place_0 {code : List Int} (hb : Go.Proofs.Ytojpcijfipdiaaa.Bytes code) (h : scanE code = 0) (hl : 0 < (scanL code).length) : ((scanL code).getD 0 dfl).1 = 0 := by
  obtain ⟨h1, _, _⟩ := scan_with hb h
  have := with_at (insI (scanL code)) 0 0 (by rw [insI_len]; exact hl)
  rw [← h1] at this
  rw [this]; rfl
theorem scan_oks {code : List Int} (hb : Go.Proofs.Ytojpcijfipdiaaa.Bytes code) (h : scanE code = 0) {k : Nat} (hk : k < (scanL code).length) : ((scanL code).getD k dfl).2.Ok := by
  obtain ⟨_, h2, _⟩ := scan_with hb h
  refine h2 _ ?_
  rw [getD_el _ _ _ hk]
  exact List.mem_map.2 ⟨_, List.getElem_mem hk, rfl⟩
theorem scan_place {code : List Int} (hb : Go.Proofs.Ytojpcijfipdiaaa.Bytes code) (h : scanE code = 0) {k : Nat} (hk : k < (scanL code).length) : ((scanL code).getD k dfl).1 < code.length := by
  rw [getD_el _ _ _ hk]
  exact scan_below hb h _ (List.getElem_mem hk)
end Go.Proofs.Ytojpcijfipdiaaa.Mm
