/- Code of two parts; instructions padded: the plain sums of layer 7. -/
import Derived.Test.YtojpcijfipdiaaaScanMath
namespace Go.Proofs.Ytojpcijfipdiaaa.Mm
set_option linter.unusedVariables false

theorem fits_shift (k : Nat) : ∀ (l : List InsV) (i : Nat), Fits (i + 32 * k) l ↔ Fits i l := by
  intro l
  induction l with
  | nil => intro i; exact Iff.rfl
  | cons x t ih =>
    intro i
    show (x.Ok ∧ (i + 32 * k) % 32 + x.lay.length ≤ 32 ∧ Fits (i + 32 * k + x.lay.length) t) ↔ (x.Ok ∧ i % 32 + x.lay.length ≤ 32 ∧ Fits (i + x.lay.length) t)
    rw [show i + 32 * k + x.lay.length = i + x.lay.length + 32 * k by omega, ih, show (i + 32 * k) % 32 = i % 32 by omega]
/-- at each bundle's end an instruction ends -/
theorem fits_split (m : Nat) (hm : m % 32 = 0) : ∀ (l : List InsV) (i : Nat), Fits i l → i ≤ m → m ≤ i + (flatI l).length → ∃ a b, l = a ++ b ∧ i + (flatI a).length = m := by
  intro l
  induction l with
  | nil => intro i _ h1 h2; exact ⟨[], [], rfl, by simp [flatI] at h2 ⊢; omega⟩
  | cons x t ih =>
    intro i hf h1 h2
    obtain ⟨k1, k2, k3⟩ := hf
    by_cases he : i = m
    · exact ⟨[], x :: t, rfl, by simp [flatI]; omega⟩
    · rw [flatI_cons, List.length_append] at h2
      obtain ⟨a, b, hab, hl⟩ := ih _ k3 (by omega) (by omega)
      refine ⟨x :: a, b, by rw [hab]; rfl, ?_⟩
      rw [flatI_cons, List.length_append]
      omega
/-- code of two parts -/
theorem parts_yes {a b : List Int} (ha : Go.Proofs.Ytojpcijfipdiaaa.Bytes a) (hb : Go.Proofs.Ytojpcijfipdiaaa.Bytes b) (h32 : a.length % 32 = 0) {L M : List (Nat × InsV)} (h1 : scanAt a 0 = some L) (h2 : scanAt b 0 = some M) :
    ∃ K, scanAt (a ++ b) 0 = some K ∧ K.map Prod.snd = L.map Prod.snd ++ M.map Prod.snd := by
  obtain ⟨e1, f1, g1⟩ := scan_some ha h1
  obtain ⟨e2, f2, g2⟩ := scan_some hb h2
  have hf : Fits 0 (L.map Prod.snd ++ M.map Prod.snd) := by
    rw [fits_app]
    refine ⟨f1, ?_⟩
    rw [← e1]
    have := (fits_shift (a.length / 32) (M.map Prod.snd) 0).2 f2
    rwa [show 0 + 32 * (a.length / 32) = 0 + a.length by omega] at this
  have := scan_flat _ hf
  rw [flatI_app, ← e1, ← e2] at this
  exact ⟨_, this, withPos_ins _ _⟩
theorem parts_no {a b : List Int} (ha : Go.Proofs.Ytojpcijfipdiaaa.Bytes a) (hb : Go.Proofs.Ytojpcijfipdiaaa.Bytes b) (h32 : a.length % 32 = 0) (h : scanAt a 0 = none ∨ scanAt b 0 = none) : scanAt (a ++ b) 0 = none := by
  cases hK : scanAt (a ++ b) 0 with
  | none => rfl
  | some K =>
    exfalso
    have hab : Go.Proofs.Ytojpcijfipdiaaa.Bytes (a ++ b) := fun x hx => (List.mem_append.1 hx).elim (ha x) (hb x)
    obtain ⟨e1, f1, _⟩ := scan_some hab hK
    have hl := congrArg List.length e1
    rw [List.length_append] at hl
    obtain ⟨A, B, e2, e3⟩ := fits_split a.length h32 _ 0 f1 (Nat.zero_le _) (by omega)
    rw [e2] at e1 f1
    rw [flatI_app] at e1
    obtain ⟨k1, k2⟩ := List.append_inj e1 (by omega)
    rw [fits_app] at f1
    obtain ⟨p1, p2⟩ := f1
    have s1 := scan_flat A p1
    rw [← k1] at s1
    have s2 := scan_flat B (by
      rw [← k1] at p2
      have := (fits_shift (a.length / 32) B 0).1
      rw [show 0 + 32 * (a.length / 32) = 0 + a.length by omega] at this
      exact this p2)
    rw [← k2] at s2
    rcases h with h | h
    · rw [s1] at h; cases h
    · rw [s2] at h; cases h

/-- so many Nops ahead -/
def gapN (s t : Nat) : Nat := if s % 32 + t ≤ 32 then 0 else 32 - s % 32
def fillN (s : Nat) : Nat := (32 - s % 32) % 32
/-- instructions, and Nops between, from place s on -/
def padI : Nat → List InsV → List InsV
  | s, [] => List.replicate (fillN s) nopI
  | s, x :: t => List.replicate (gapN s x.lay.length) nopI ++ x :: padI (s + gapN s x.lay.length + x.lay.length) t
def padL (l : List InsV) : List Int := flatI (padI 0 l)
theorem nop_lay : nopI.lay = [23] := by decide
theorem nop_ok : nopI.Ok := ⟨by decide, by decide, by decide⟩
theorem flat_nops (n : Nat) : flatI (List.replicate n nopI) = List.replicate n 23 := by
  induction n with
  | zero => rfl
  | succ n ih => rw [List.replicate_succ, flatI_cons, ih, nop_lay]; rfl
theorem nops_len (n : Nat) : (flatI (List.replicate n nopI)).length = n := by rw [flat_nops, List.length_replicate]
theorem fits_nops : ∀ (n s : Nat), Fits s (List.replicate n nopI) := by
  intro n
  induction n with
  | zero => intro s; trivial
  | succ n ih => intro s; rw [List.replicate_succ]; exact ⟨nop_ok, by rw [nop_lay]; show s % 32 + 1 ≤ 32; omega, ih _⟩
/-- step by step: a Nop is needed; an instruction stands; the bundle is filled -/
theorem pad_nop {s : Nat} {x : InsV} (h : 32 < s % 32 + x.lay.length) (h6 : x.lay.length ≤ 6) (t : List InsV) : flatI (padI s (x :: t)) = 23 :: flatI (padI (s + 1) (x :: t)) := by
  have e : gapN s x.lay.length = gapN (s + 1) x.lay.length + 1 := by
    unfold gapN
    rw [if_neg (by omega)]
    by_cases h1 : (s + 1) % 32 + x.lay.length ≤ 32
    · rw [if_pos h1]; omega
    · rw [if_neg h1]; omega
  show flatI (List.replicate (gapN s x.lay.length) nopI ++ x :: padI (s + gapN s x.lay.length + x.lay.length) t) = 23 :: flatI (List.replicate (gapN (s + 1) x.lay.length) nopI ++ x :: padI (s + 1 + gapN (s + 1) x.lay.length + x.lay.length) t)
  rw [e, List.replicate_succ, List.cons_append, flatI_cons, nop_lay, show s + (gapN (s + 1) x.lay.length + 1) + x.lay.length = s + 1 + gapN (s + 1) x.lay.length + x.lay.length by omega]
  rfl
theorem pad_ins {s : Nat} {x : InsV} (h : s % 32 + x.lay.length ≤ 32) (t : List InsV) : flatI (padI s (x :: t)) = x.lay ++ flatI (padI (s + x.lay.length) t) := by
  have e : gapN s x.lay.length = 0 := by unfold gapN; rw [if_pos h]
  show flatI (List.replicate (gapN s x.lay.length) nopI ++ x :: padI (s + gapN s x.lay.length + x.lay.length) t) = _
  rw [e, List.replicate_zero, List.nil_append, flatI_cons]
  rfl
theorem pad_fill {s : Nat} (h : 0 < s % 32) : flatI (padI s []) = 23 :: flatI (padI (s + 1) []) := by
  have e : fillN s = fillN (s + 1) + 1 := by unfold fillN; omega
  show flatI (List.replicate (fillN s) nopI) = 23 :: flatI (List.replicate (fillN (s + 1)) nopI)
  rw [e, List.replicate_succ, flatI_cons, nop_lay]
  rfl
theorem pad_end {s : Nat} (h : s % 32 = 0) : flatI (padI s []) = [] := by
  have e : fillN s = 0 := by unfold fillN; omega
  show flatI (List.replicate (fillN s) nopI) = []
  rw [e]
  rfl
theorem pad_fits : ∀ (l : List InsV) (s : Nat), (∀ x ∈ l, x.Ok) → Fits s (padI s l) ∧ (s + (flatI (padI s l)).length) % 32 = 0 := by
  intro l
  induction l with
  | nil =>
    intro s _
    refine ⟨fits_nops _ _, ?_⟩
    show (s + (flatI (List.replicate (fillN s) nopI)).length) % 32 = 0
    rw [nops_len]
    unfold fillN
    omega
  | cons x t ih =>
    intro s h
    have hx := h x (by simp)
    have h6 := lay_len hx
    obtain ⟨k1, k2⟩ := ih (s + gapN s x.lay.length + x.lay.length) (fun y hy => h y (by simp [hy]))
    have hg : (s + gapN s x.lay.length) % 32 + x.lay.length ≤ 32 := by
      unfold gapN
      by_cases h1 : s % 32 + x.lay.length ≤ 32
      · rw [if_pos h1]; exact h1
      · rw [if_neg h1]; omega
    constructor
    · show Fits s (List.replicate (gapN s x.lay.length) nopI ++ x :: padI _ t)
      rw [fits_app]
      exact ⟨fits_nops _ _, hx, by rw [nops_len]; exact hg, by rw [nops_len]; exact k1⟩
    · show (s + (flatI (List.replicate (gapN s x.lay.length) nopI ++ x :: padI _ t)).length) % 32 = 0
      rw [flatI_app, List.length_append, nops_len, flatI_cons, List.length_append]
      rw [← k2]
      congr 1
      omega
theorem pad_filter : ∀ (l : List InsV) (s : Nat), (padI s l).filter (fun x => decide (x.op ≠ 23)) = l.filter (fun x => decide (x.op ≠ 23)) := by
  have hn : ∀ n, (List.replicate n nopI).filter (fun x => decide (x.op ≠ 23)) = [] := fun n => by
    rw [List.filter_eq_nil_iff]
    intro x hx
    rw [List.eq_of_mem_replicate hx]
    decide
  intro l
  induction l with
  | nil => intro s; exact hn _
  | cons x t ih =>
    intro s
    show (List.replicate (gapN s x.lay.length) nopI ++ x :: padI _ t).filter _ = _
    rw [List.filter_append, hn, List.nil_append, List.filter_cons, List.filter_cons, ih]
theorem pad_ok : ∀ (l : List InsV) (s : Nat), (∀ x ∈ l, x.Ok) → ∀ y ∈ padI s l, y.Ok := by
  intro l
  induction l with
  | nil => intro s _ y hy; rw [List.eq_of_mem_replicate hy]; exact nop_ok
  | cons x t ih =>
    intro s h y hy
    rcases List.mem_append.1 hy with hy | hy
    · rw [List.eq_of_mem_replicate hy]; exact nop_ok
    · rcases List.mem_cons.1 hy with rfl | hy
      · exact h y (by simp)
      · exact ih _ (fun z hz => h z (by simp [hz])) y hy
/-- what fits is padded as it is -/
theorem pad_same : ∀ (l : List InsV) (s : Nat), Fits s l → (s + (flatI l).length) % 32 = 0 → padI s l = l := by
  intro l
  induction l with
  | nil =>
    intro s _ h
    have e : fillN s = 0 := by simp [flatI] at h; unfold fillN; omega
    show List.replicate (fillN s) nopI = []
    rw [e]; rfl
  | cons x t ih =>
    intro s hf h
    obtain ⟨k1, k2, k3⟩ := hf
    have e : gapN s x.lay.length = 0 := by unfold gapN; rw [if_pos k2]
    show List.replicate (gapN s x.lay.length) nopI ++ x :: padI (s + gapN s x.lay.length + x.lay.length) t = _
    rw [flatI_cons, List.length_append] at h
    rw [e, List.replicate_zero, List.nil_append, Nat.add_zero, ih _ k3 (by rw [← h]; congr 1; omega)]
theorem pad_twice (l : List InsV) (h : ∀ x ∈ l, x.Ok) : padL (padI 0 l) = padL l := by
  obtain ⟨k1, k2⟩ := pad_fits l 0 h
  unfold padL
  rw [pad_same _ _ k1 k2]
theorem pad_scan (l : List InsV) (h : ∀ x ∈ l, x.Ok) : scanAt (padL l) 0 = some (withPos 0 (padI 0 l)) := scan_flat _ (pad_fits l 0 h).1
theorem pad_len32 (l : List InsV) (h : ∀ x ∈ l, x.Ok) : (padL l).length % 32 = 0 := by
  have := (pad_fits l 0 h).2
  rwa [Nat.zero_add] at this
/-- how long it is -/
theorem pad_bd : ∀ (l : List InsV) (s : Nat), (∀ x ∈ l, x.Ok) → (flatI l).length ≤ (flatI (padI s l)).length ∧ (flatI (padI s l)).length ≤ (flatI l).length + 5 * l.length + 31 := by
  intro l
  induction l with
  | nil =>
    intro s _
    show 0 ≤ _ ∧ (flatI (List.replicate (fillN s) nopI)).length ≤ _
    rw [nops_len]
    unfold fillN
    simp [flatI]
    omega
  | cons x t ih =>
    intro s h
    have h6 := lay_len (h x (by simp))
    obtain ⟨k1, k2⟩ := ih (s + gapN s x.lay.length + x.lay.length) (fun y hy => h y (by simp [hy]))
    have hg : gapN s x.lay.length ≤ 5 := by unfold gapN; split <;> omega
    show _ ≤ (flatI (List.replicate (gapN s x.lay.length) nopI ++ x :: padI _ t)).length ∧ (flatI (List.replicate (gapN s x.lay.length) nopI ++ x :: padI _ t)).length ≤ _
    rw [flatI_app, List.length_append, nops_len, flatI_cons, List.length_append, flatI_cons, List.length_append, List.length_cons]
    omega
theorem flat_bd : ∀ (l : List InsV), (∀ x ∈ l, x.Ok) → l.length ≤ (flatI l).length ∧ (flatI l).length ≤ 6 * l.length := by
  intro l
  induction l with
  | nil => intro _; simp [flatI]
  | cons x t ih =>
    intro h
    have h6 := lay_len (h x (by simp))
    have := ih (fun y hy => h y (by simp [hy]))
    rw [flatI_cons, List.length_append, List.length_cons]
    omega
end Go.Proofs.Ytojpcijfipdiaaa.Mm
