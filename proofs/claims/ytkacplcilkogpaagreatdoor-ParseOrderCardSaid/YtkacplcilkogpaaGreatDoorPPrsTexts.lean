/- Texts that are shown, read again. -/
import Derived.Test.YtkacplcilkogpaaGreatDoorPPrsLaid
namespace Go.Proofs.YtkacplcilkogpaaGreatDoor.Mm
open Go.ChangeShapes Go.WideShapes Go.ChangeAt Go.RowKit
set_option linter.unusedVariables false
set_option linter.unusedSimpArgs false
set_option maxRecDepth 10000

theorem shw_len : ∀ x : Nd, (shw x).length ≤ 6 * cnt x := by
  intro x
  induction x <;> simp only [shw, cnt, List.length_append, List.length_cons, List.length_nil] at * <;> omega
theorem shD_len : ∀ D : List Dc, (shD D).length ≤ 6 * D.length
  | [] => by simp [shD]
  | x :: r => by
    have := shD_len r
    rw [shD_cons, List.length_append, List.length_cons]
    split <;> simp only [List.length_cons, List.length_nil] <;> omega
theorem sum_top : ∀ {ws : List Pc}, (∀ p ∈ ws, WordOk p) → (ws.map fun p => p.2.1.length).sum ≤ 10 * ws.length
  | [], _ => by simp
  | p :: r, h => by
    have h1 := (h p List.mem_cons_self).top
    have h2 := sum_top (fun q hq => h q (List.mem_cons_of_mem _ hq))
    simp only [List.map_cons, List.sum_cons, List.length_cons]
    omega
theorem txt_top {ws : List Pc} (h : ∀ p ∈ ws, WordOk p) : (txtW ws).length ≤ 11 * ws.length := by
  have h1 := sum_top h
  have h2 := gaps_len ws
  unfold txtW
  rw [List.length_drop]
  omega
theorem parE_er {l : Bs} {k : Nat} {x : Int} (h : parE l = .error (k, x)) : x = 4 ∨ x = 2 := by
  unfold parE at h
  cases hr : readE l with
  | error y => rw [hr] at h; obtain ⟨a, b⟩ := y; injection h with h; injection h with h1 h2; subst h1 h2; exact readE_er hr
  | ok ws =>
    rw [hr] at h
    simp only at h
    split at h
    · injection h with h; injection h with h1 h2; exact .inr h2.symm
    · split at h
      · injection h with h; injection h with h1 h2; exact .inl h2.symm
      · cases h
/-- what is shown, read again -/
theorem par_shP {ws : List Pc} {D : List Dc} {b : Nd} {d : Nat} (g : Good ws D b d) : (parE (txtW (shP D b)) = .ok (D, b)) ∨ (parE (txtW (shP D b)) = .error (0, 4) ∧ 100 < (txtW (shP D b)).length) := by
  have ok := shP_ok g.okD g.okB
  unfold parE readE
  by_cases hl : 4000 < (txtW (shP D b)).length
  · rw [if_pos hl]; exact .inr ⟨rfl, by omega⟩
  · rw [if_neg hl, read_txt ok]
    simp only
    rw [prg_shP g.okB]
    simp only
    by_cases hd : dpt b ≤ 100
    · have e : bigP D b (dpt b) = false := by
        have := g.few
        simp [bigP, g.small]; omega
      rw [e]; exact .inl rfl
    · have e : bigP D b (dpt b) = true := by simp [bigP]; omega
      rw [e]
      refine .inr ⟨rfl, ?_⟩
      have h1 := txt_len ok
      have h2 := dpt_len b
      have h3 : (shP D b).length = (shD D).length + (shw b).length := by unfold shP; simp
      omega
theorem shP_few {s : Bs} {ws : List Pc} {D : List Dc} {b : Nd} {d : Nat} (hr : readL s = .ok ws) (g : Good ws D b d) : (txtW (shP D b)).length ≤ 66000 + 66 * s.length := by
  have h1 := txt_top (shP_ok g.okD g.okB)
  have h2 := shw_len b
  have h3 := shD_len D
  have h4 := read_count hr
  obtain ⟨r, h5, _⟩ := prg_ok g.prg
  have h6 := dc_len _ ws (Nat.le_refl _) _ _ _ h5
  have h7 := g.few
  have h8 : (shP D b).length = (shD D).length + (shw b).length := by unfold shP; simp
  simp only [List.length_nil] at h6
  omega
end Go.Proofs.YtkacplcilkogpaaGreatDoor.Mm
