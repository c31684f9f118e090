/- Whether code is safe: the plain sums of layer 10. -/
import Derived.Test.YtinehmagkdgiiaaVerMath
namespace Go.Proofs.Ytinehmagkdgiiaa.Mm
open Go.RowKit
set_option linter.unusedVariables false

def verE (code : List Int) : Int := if mayE code ≠ 0 then mayE code else if 4064 < code.length then 4 else 0
theorem ver_0 {code : List Int} (h : verE code = 0) : mayE code = 0 ∧ code.length ≤ 4064 := by
  unfold verE at h
  by_cases hm : mayE code = 0
  · rw [if_neg (by simp [hm])] at h
    refine ⟨hm, ?_⟩
    split at h
    · cases h
    · omega
  · rw [if_pos hm] at h; exact absurd h hm
theorem ver_yes {code : List Int} (hm : mayE code = 0) (hl : code.length ≤ 4064) : verE code = 0 := by
  unfold verE
  rw [if_neg (by simp [hm]), if_neg (by omega)]
theorem ver_cases (code : List Int) : (mayE code ≠ 0 ∧ verE code = mayE code) ∨ (mayE code = 0 ∧ 4064 < code.length ∧ verE code = 4) ∨ (mayE code = 0 ∧ code.length ≤ 4064 ∧ verE code = 0) := by
  by_cases hm : mayE code = 0
  · by_cases hl : 4064 < code.length
    · exact .inr (.inl ⟨hm, hl, by unfold verE; rw [if_neg (by simp [hm]), if_pos hl]⟩)
    · exact .inr (.inr ⟨hm, by omega, ver_yes hm (by omega)⟩)
  · exact .inl ⟨hm, by unfold verE; rw [if_pos hm]⟩
theorem may_size {code : List Int} (hm : mayE code = 0) : 32 ≤ code.length ∧ code.length ≤ 4096 ∧ code.length % 32 = 0 := by
  obtain ⟨h1, _, _⟩ := may_0 hm
  obtain ⟨h2, _, _⟩ := rule_scan h1
  rcases scan_cases code with ⟨_, e, _⟩ | ⟨_, _, e, _⟩ | ⟨h, _⟩
  · rw [e] at h2; cases h2
  · rw [e] at h2; cases h2
  · exact (sizeB_iff _).1 h
/-- code of the same length as safe code is refused for no size -/
theorem ver_turned {code b : List Int} (hb : b.length = code.length) (h : verE code = 0) : verE b = 0 ∨ verE b = 2 ∨ verE b = 5 ∨ verE b = 6 := by
  obtain ⟨hm, hl⟩ := ver_0 h
  obtain ⟨s1, s2, s3⟩ := may_size hm
  have hs : sizeB b.length = true := (sizeB_iff _).2 (by rw [hb]; exact ⟨s1, s2, s3⟩)
  have hE : scanE b = 0 ∨ scanE b = 2 := by
    rcases scan_cases b with ⟨hf, _⟩ | ⟨_, _, e, _⟩ | ⟨_, L, _, e, _⟩
    · rw [hs] at hf; cases hf
    · exact .inr e
    · exact .inl (by assumption)
  have hR : ruleE b = 0 ∨ ruleE b = 2 ∨ ruleE b = 5 := by
    rcases rule_cases b with ⟨_, e, _⟩ | ⟨_, _, e, _⟩ | ⟨_, _, e, _⟩
    · rw [e]; rcases hE with e | e <;> simp [e]
    · exact .inr (.inr e)
    · exact .inl e
  have hM : mayE b = 0 ∨ mayE b = 2 ∨ mayE b = 5 ∨ mayE b = 6 := by
    rcases may_cases b with ⟨_, e, _⟩ | ⟨_, _, e, _⟩ | ⟨_, _, e, _⟩
    · rw [e]; rcases hR with e | e | e <;> simp [e]
    · exact .inr (.inr (.inr e))
    · exact .inl e
  rcases ver_cases b with ⟨_, e⟩ | ⟨_, hbig, _⟩ | ⟨_, _, e⟩
  · rw [e]; exact hM
  · omega
  · exact .inl e

def haltI : InsV := ⟨0, 0, 0, 0⟩
theorem halt_ok : haltI.Ok := ⟨by decide, by decide, by decide⟩
theorem halts_pad : padL (List.replicate 32 haltI) = List.replicate 32 0 := by decide
theorem halts_may : mayE (List.replicate 32 0) = 0 := by
  have hok : ∀ x ∈ List.replicate 32 haltI, x.Ok := fun x hx => by rw [List.eq_of_mem_replicate hx]; exact halt_ok
  have hfr : ∀ x ∈ List.replicate 32 haltI, useB x = false ∧ gateB x = false := fun x hx => by rw [List.eq_of_mem_replicate hx]; exact ⟨by decide, by decide⟩
  have hr := pad_free hok hfr (by rw [halts_pad, List.length_replicate]; omega) (by rw [halts_pad, List.length_replicate]; omega)
  obtain ⟨_, hs⟩ := scanE_0 (by rw [halts_pad]; decide) (pad_scan _ hok)
  rw [halts_pad] at hr hs
  unfold mayE
  rw [if_neg (fun k => k hr), hs]
  decide
theorem ver_halts (n : Nat) : verE (List.replicate 32 0) = 0 := ver_yes halts_may (by simp)
/-- code of two safe parts; with a bundle of Halts behind -/
theorem ver_parts {a b : List Int} (ha : Go.Proofs.Ytinehmagkdgiiaa.Bytes a) (hb : Go.Proofs.Ytinehmagkdgiiaa.Bytes b) (h1 : a.length ≤ 1000) (h2 : b.length ≤ 1000) (e1 : verE a = 0) (e2 : verE b = 0) :
    verE (a ++ b) = 0 ∧ verE (a ++ b ++ List.replicate 32 0) = 0 := by
  obtain ⟨m1, _⟩ := ver_0 e1
  obtain ⟨m2, _⟩ := ver_0 e2
  obtain ⟨p1, p2, p3⟩ := may_size m1
  obtain ⟨q1, q2, q3⟩ := may_size m2
  have hab : Go.Proofs.Ytinehmagkdgiiaa.Bytes (a ++ b) := fun x hx => (List.mem_append.1 hx).elim (ha x) (hb x)
  have h0 : Go.Proofs.Ytinehmagkdgiiaa.Bytes (List.replicate 32 (0 : Int)) := fun x hx => by rw [List.eq_of_mem_replicate hx]; decide
  have sab : sizeB (a ++ b).length = true := (sizeB_iff _).2 (by rw [List.length_append]; omega)
  obtain ⟨_, m3, _⟩ := parts_may ha hb p3 ((sizeB_iff _).2 ⟨p1, p2, p3⟩) ((sizeB_iff _).2 ⟨q1, q2, q3⟩) sab m1 m2
  obtain ⟨_, m4, _⟩ := parts_may hab h0 (by rw [List.length_append]; omega) sab (by decide) ((sizeB_iff _).2 (by rw [List.length_append, List.length_append, List.length_replicate]; omega)) m3 halts_may
  exact ⟨ver_yes m3 (by rw [List.length_append]; omega), ver_yes m4 (by rw [List.length_append, List.length_append, List.length_replicate]; omega)⟩

/-- the machine at first -/
theorem low_of {code : List Int} {base half N : Nat} (hN : base + code.length ≤ N) (i : Nat) : (splice (List.replicate N (0 : Int)) base code).getD (base + i) 0 = code.getD i 0 := by
  rw [splice_getD _ _ _ _ (by rw [List.length_replicate]; exact hN)]
  by_cases h : i < code.length
  · rw [if_pos (by omega), show base + i - base = i by omega]
  · rw [if_neg (by omega)]
    have e1 : code.getD i 0 = 0 := by simp [List.getD, show code.length ≤ i by omega]
    rw [e1, List.getD, List.getElem?_replicate]
    split <;> rfl
theorem safe_start {code : List Int} {base half z : Nat} {B0 : List Int} (R : Regn code base half z B0) (hB : Bytes B0) {c : Cp} (o : c.Ok) (h1 : c.b = base) (h2 : c.s = 2 * (half : Int)) (h3 : c.pc = base) : SafeI code base half B0 c B0 := by
  refine ⟨o, h1, h2, hB, rfl, fun i _ => rfl, 0, by rw [h3]; simp, by have := R.h0; omega, ?_⟩
  obtain ⟨_, hs, _, hr⟩ := R.scan
  obtain ⟨s1, _, _⟩ := may_size R.hm
  have hl := scan_nonempty R.hb hs (by omega)
  have hp := place_first R.hb hs hl
  refine .inr ⟨0, hl, hp, sec_free ?_⟩
  cases hu : useB (insN (scanL code) 0)
  · rfl
  · exact absurd (by rw [hp]) (sec_use hr hl hu).1
/-- where the machine's place is: an instruction begins there, or it lies behind the code -/
theorem safe_place {code : List Int} {base half : Nat} {B0 B : List Int} {c : Cp} (I : SafeI code base half B0 c B) : ∃ p : Nat, c.pc = (base : Int) + p ∧ p < half ∧ (code.length ≤ p ∨ (p : Int) ∈ posI (scanL code)) := by
  obtain ⟨p, hp, hlt, h | ⟨k, hk, rfl, _⟩⟩ := I.pc
  · exact ⟨p, hp, hlt, .inl h⟩
  · refine ⟨_, hp, hlt, .inr (List.mem_map.2 ⟨(scanL code).getD k dfl, ?_, rfl⟩)⟩
    rw [getD_el _ _ _ hk]; exact List.getElem_mem hk
end Go.Proofs.Ytinehmagkdgiiaa.Mm
