/- What has been read (the pure part). -/
import Derived.Test.YtkacplcilkogpaaDoorPPrG
import Derived.Test.YtkacplcilkogpaaDoorPChkMath
namespace Go.Proofs.YtkacplcilkogpaaDoor.Mm
open Go.ChangeShapes Go.WideShapes Go.ChangeAt Go.RowKit
set_option linter.unusedVariables false
set_option linter.unusedSimpArgs false
set_option maxRecDepth 10000

theorem dc_len : ∀ (n : Nat) (ws : List Pc), ws.length ≤ n → ∀ (D D' : List Dc) (r : List Pc), dcE D ws = .ok (D', r) → D'.length + r.length ≤ D.length + ws.length := by
  intro n
  induction n with
  | zero =>
    intro ws hn D D' r h
    obtain rfl : ws = [] := List.eq_nil_of_length_eq_zero (by omega)
    rw [dcE_no ⟨rfl, rfl⟩] at h
    injection h with h; injection h with h1 h2
    subst h1 h2
    simp
  | succ n ih =>
    intro ws hn D D' r h
    rw [dcE_eq] at h
    split at h
    · obtain ⟨p1, r1, e1, h1, h2⟩ := nmP_ok h
      obtain ⟨p2, r2, rfl, h3, h4⟩ := must_ok h2
      have e := congrArg List.length e1
      rw [List.length_tail] at e
      simp only [List.length_cons] at e
      have := ih r2 (by omega) _ _ _ h4
      simp only [List.length_append, List.length_cons, List.length_nil] at this
      omega
    · split at h
      · obtain ⟨p1, r1, e1, h1, h2⟩ := nmP_ok h
        obtain ⟨p2, r2, rfl, h3, h4⟩ := must_ok h2
        obtain ⟨p3, r3, rfl, h5, h6⟩ := nbP_ok h4
        obtain ⟨p4, r4, rfl, h7, h8⟩ := must_ok h6
        obtain ⟨p5, r5, rfl, h9, h10⟩ := must_ok h8
        have e := congrArg List.length e1
        rw [List.length_tail] at e
        simp only [List.length_cons] at e
        have := ih r5 (by omega) _ _ _ h10
        simp only [List.length_append, List.length_cons, List.length_nil] at this
        omega
      · injection h with h; injection h with h1 h2
        subst h1 h2
        omega
/-- what has been read -/
structure Good (ws : List Pc) (D : List Dc) (b : Nd) (d : Nat) : Prop where
  words : ∀ p ∈ ws, WordOk p
  prg : prg ws = .ok (D, b, d)
  okD : okD D
  okB : okN 3 b
  small : bigD D = false
  deep : d ≤ 100
  few : cnt b ≤ 1000
  dfew : D.length ≤ 4000
theorem parE_ok {l : Bs} {D : List Dc} {b : Nd} (h : parE l = .ok (D, b)) : ∃ ws d, readE l = .ok ws ∧ readL l = .ok ws ∧ Good ws D b d := by
  unfold parE at h
  cases hr : readE l with
  | error y => rw [hr] at h; cases h
  | ok ws =>
    rw [hr] at h
    simp only at h
    cases hp : Mm.prg ws with
    | error k => rw [hp] at h; cases h
    | ok y =>
      obtain ⟨D', b', d⟩ := y
      rw [hp] at h
      simp only at h
      split at h
      · cases h
      · rename_i hb
        injection h with h; injection h with h1 h2
        subst h1 h2
        have hl := readL_few hr
        have hrl : readL l = .ok ws := by
          unfold readE at hr
          split at hr
          · cases hr
          · cases hx : readL l with
            | error k => rw [hx] at hr; cases hr
            | ok ps => rw [hx] at hr; injection hr with hr; rw [hr]
        have hw := read_words hrl
        obtain ⟨k1, k2⟩ := prg_kd hw hp
        simp only [bigP, Bool.or_eq_true, decide_eq_true_eq, not_or, Bool.not_eq_true] at hb
        obtain ⟨r, h1, h2⟩ := prg_ok hp
        have hd := dc_len _ ws (Nat.le_refl _) _ _ _ h1
        simp only [List.length_nil] at hd
        exact ⟨ws, d, rfl, hrl, hw, hp, k1, k2, hb.1.1, by omega, by omega, by omega⟩
/-- the nodes' kinds and names -/
def usF (b : Nd) : List (Int × Bs) := (flB 0 b).map fun x => (x.k, x.t)
def ckE (l : Bs) : Except (Nat × Int) (List Dc × Nd) :=
  match parE l with
  | .error y => .error y
  | .ok (D, b) => if rightE D (usF b) = 0 then .ok (D, b) else .error (0, rightE D (usF b))
theorem none_word (v : Int) : ¬ WordOk (110, [110, 111, 110, 101, 57, 57, 57, 57, 120], v) := fun h => by
  have h1 := h.own
  have h2 : wordL [110, 111, 110, 101, 57, 57, 57, 57, 120] = none := by kernel_rfl
  simp only at h1
  rw [h2] at h1
  cases h1
theorem ckE_ok {l : Bs} {D : List Dc} {b : Nd} (h : ckE l = .ok (D, b)) : parE l = .ok (D, b) ∧ rightE D (usF b) = 0 := by
  unfold ckE at h
  cases hp : parE l with
  | error y => rw [hp] at h; cases h
  | ok y =>
    obtain ⟨D', b'⟩ := y
    rw [hp] at h
    simp only at h
    split at h
    · rename_i h0
      injection h with h; injection h with h1 h2
      subst h1 h2
      exact ⟨rfl, h0⟩
    · cases h
theorem Good.names {ws : List Pc} {D : List Dc} {b : Nd} {d : Nat} (g : Good ws D b d) : ∀ x ∈ D, x.1.length ≤ 10 := fun x hx => (g.okD x hx).1.top
theorem Good.new {ws : List Pc} {D : List Dc} {b : Nd} {d : Nat} (g : Good ws D b d) : ([110, 111, 110, 101, 57, 57, 57, 57, 120] : Bs) ∉ D.map Prod.fst := fun h => by
  obtain ⟨x, hx, e⟩ := List.mem_map.1 h
  have := (g.okD x hx).1
  rw [e] at this
  exact none_word _ this
end Go.Proofs.YtkacplcilkogpaaDoor.Mm
