/- What is shown, as a text; a row of nodes as a tree. No program in it. -/
import Derived.Test.YtkacplcilkogpaaGreatDoorQPaA
namespace Go.Proofs.YtkacplcilkogpaaGreatDoor.Mm
set_option linter.unusedVariables false
set_option linter.unusedSimpArgs false

/-- what the grammar's parts read -/
def kdQ : Gr → Nat | .T => 2 | .B => 3 | .L _ _ _ => 3 | _ => 1
def okQ : Gr → Prop | .Pl a _ => okN 1 a | .Sl a _ => okN 1 a | .L b _ _ => okN 3 b | _ => True
structure Kd (n : Nat) (ws : List Pc) (r : Rr) : Prop where
  ok : ∀ x s d, r = .ok (x, s, d) → okN n x ∧ ∀ p ∈ s, WordOk p
theorem Kd.ofOk {n : Nat} {ws s : List Pc} {x : Nd} {d : Nat} (h : okN n x) (hs : ∀ p ∈ s, WordOk p) : Kd n ws (.ok (x, s, d)) := ⟨fun x' s' d' e => by injection e with e; injection e with e1 e; injection e with e2 e3; subst e1 e2 e3; exact ⟨h, hs⟩⟩
theorem Kd.ofEr {n : Nat} {ws : List Pc} {k : Nat} : Kd n ws (.error k) := ⟨fun x s d e => by cases e⟩
theorem Kd.bnd {n m : Nat} {ws : List Pc} {r : Rr} {k : Nd → List Pc → Nat → Rr} (h : Kd n ws r) (hk : ∀ x s d, okN n x → (∀ p ∈ s, WordOk p) → Kd m ws (k x s d)) : Kd m ws (bnd r k) := by
  match r, h with
  | .error e, h => exact .ofEr
  | .ok (x, s, d), h => exact hk x s d (h.ok x s d rfl).1 (h.ok x s d rfl).2
theorem Kd.must {n : Nat} {t : Bs} {ws s : List Pc} {k : List Pc → Rr} (hs : ∀ p ∈ s, WordOk p) (hk : ∀ r, (∀ p ∈ r, WordOk p) → Kd n ws (k r)) : Kd n ws (must t s k) := by
  match s, hs with
  | [], _ => exact .ofEr
  | p :: r, hs =>
    show Kd n ws (if isW t p then k r else .error (r.length + 1))
    split
    · exact hk r fun q hq => hs q (List.mem_cons_of_mem _ hq)
    · exact .ofEr
theorem ok_tail {ws : List Pc} (h : ∀ p ∈ ws, WordOk p) : ∀ p ∈ ws.tail, WordOk p := fun p hp => h p (List.mem_of_mem_tail hp)
theorem Kd.to {n : Nat} {ws ws' : List Pc} {r : Rr} (h : Kd n ws r) : Kd n ws' r := ⟨h.ok⟩
theorem ok_name {p : Pc} (h : WordOk p) (hp : p.1 = 110) : WordOk (110, p.2.1, 0) := by
  have := h.kV (by rw [hp]; decide)
  obtain ⟨k, t, v⟩ := p
  simp only at hp this
  subst hp this
  exact h
theorem opP_ok {ws : List Pc} {o : Int} (h : opP ws = some o) : o = 5 ∨ o = 6 ∨ o = 7 := by
  unfold opP at h
  split at h
  · injection h with h; omega
  split at h
  · injection h with h; omega
  split at h
  · injection h with h; omega
  · cases h
theorem opS_ok {ws : List Pc} {o : Int} (h : opS ws = some o) : o = 3 ∨ o = 4 := by
  unfold opS at h
  split at h
  · injection h with h; omega
  split at h
  · injection h with h; omega
  · cases h
theorem opE_ok {ws : List Pc} {o : Int} (h : opE ws = some o) : o = 13 ∨ o = 14 := by
  unfold opE at h
  split at h
  · injection h with h; omega
  split at h
  · injection h with h; omega
  · cases h
theorem gr_kd : ∀ (f : Nat) (q : Gr) (ws : List Pc), (∀ p ∈ ws, WordOk p) → okQ q → Kd (kdQ q) ws (gr f q ws) := by
  intro f
  induction f with
  | zero => intro q ws h hq; exact .ofEr
  | succ f ih =>
    intro q ws h hq
    have iE := fun (r : List Pc) (hr : ∀ p ∈ r, WordOk p) => (ih .E r hr trivial).to (ws' := ws)
    have iB := fun (r : List Pc) (hr : ∀ p ∈ r, WordOk p) => (ih .B r hr trivial).to (ws' := ws)
    have iV := fun (r : List Pc) (hr : ∀ p ∈ r, WordOk p) => (ih .V r hr trivial).to (ws' := ws)
    have iP := fun (r : List Pc) (hr : ∀ p ∈ r, WordOk p) => (ih .P r hr trivial).to (ws' := ws)
    have iS := fun (r : List Pc) (hr : ∀ p ∈ r, WordOk p) => (ih .S r hr trivial).to (ws' := ws)
    cases q with
    | V =>
      cases ws with
      | nil => exact .ofEr
      | cons p r =>
        have hp := h p (List.mem_cons_self ..)
        have hr : ∀ q ∈ r, WordOk q := fun q hq => h q (List.mem_cons_of_mem _ hq)
        rw [gr_V]
        split
        · exact .ofOk ⟨hp.v0, hp.v1⟩ hr
        split
        · rename_i hn
          have hn := ok_name hp hn
          split
          · exact (iE _ (ok_tail hr)).bnd fun x s d h1 h2 => Kd.must h2 fun r hr => .ofOk ⟨hn, h1⟩ hr
          · exact .ofOk hn hr
        split
        · exact .ofOk trivial hr
        split
        · exact (iV _ hr).bnd fun x s d h1 h2 => .ofOk h1 h2
        split
        · exact (iE _ hr).bnd fun x s d h1 h2 => Kd.must h2 fun r hr => .ofOk h1 hr
        · exact .ofEr
    | P => exact (iV _ h).bnd fun x s d h1 h2 => (ih (.Pl x d) s h2 h1).to
    | Pl a d =>
      rw [gr_Pl]
      split
      · exact .ofOk hq h
      · rename_i o ho
        have := opP_ok ho
        exact (iV _ (ok_tail h)).bnd fun x s d h1 h2 => (ih (.Pl (.bin o a x) _) s h2 ⟨by omega, hq, h1⟩).to
    | S => exact (iP _ h).bnd fun x s d h1 h2 => (ih (.Sl x d) s h2 h1).to
    | Sl a d =>
      rw [gr_Sl]
      split
      · exact .ofOk hq h
      · rename_i o ho
        have := opS_ok ho
        exact (iP _ (ok_tail h)).bnd fun x s d h1 h2 => (ih (.Sl (.bin o a x) _) s h2 ⟨by omega, hq, h1⟩).to
    | E =>
      refine (iS _ h).bnd fun x s d h1 h2 => ?_
      split
      · exact .ofOk h1 h2
      · rename_i o ho
        have := opE_ok ho
        exact (iS _ (ok_tail h2)).bnd fun y s d h3 h4 => .ofOk ⟨by omega, h1, h3⟩ h4
    | B => exact Kd.must h fun r hr => ((ih (.L .nil 0 true) r hr trivial).to (ws' := ws)).bnd fun x s d h1 h2 => Kd.must h2 fun r hr => .ofOk h1 hr
    | L b d stop =>
      rw [gr_L]
      split
      · exact .ofOk hq h
      split
      · exact .ofOk hq h
      · exact ((ih .T ws h trivial)).bnd fun x s d h1 h2 => (ih (.L (.snoc b x) _ _) s h2 ⟨hq, h1⟩).to
    | T =>
      cases ws with
      | nil => exact .ofEr
      | cons p r =>
        have hp := h p (List.mem_cons_self ..)
        have hr : ∀ q ∈ r, WordOk q := fun q hq => h q (List.mem_cons_of_mem _ hq)
        rw [gr_T]
        split
        · refine (iE _ hr).bnd fun x s d h1 h2 => (iB _ h2).bnd fun b s2 d2 h3 h4 => ?_
          split
          · exact (iB _ (ok_tail h4)).bnd fun c s3 d3 h5 h6 => .ofOk ⟨h1, h3, h5⟩ h6
          · exact .ofOk ⟨h1, h3⟩ h4
        split
        · exact (iE _ hr).bnd fun x s d h1 h2 => (iB _ h2).bnd fun b s2 d2 h3 h4 => .ofOk ⟨h1, h3⟩ h4
        split
        · exact (iE _ hr).bnd fun x s d h1 h2 => Kd.must h2 fun r hr => .ofOk h1 hr
        split
        · exact (iE _ hr).bnd fun x s d h1 h2 => Kd.must h2 fun r hr => .ofOk h1 hr
        split
        · rename_i hn
          have hn := ok_name hp hn
          split
          · exact (iE _ (ok_tail hr)).bnd fun x s d h1 h2 => Kd.must h2 fun r hr => Kd.must hr fun r hr => (iE _ hr).bnd fun y s2 d2 h3 h4 => Kd.must h4 fun r hr => .ofOk ⟨hn, h1, h3⟩ hr
          · exact Kd.must hr fun r hr => (iE _ hr).bnd fun y s2 d2 h3 h4 => Kd.must h4 fun r hr => .ofOk ⟨hn, h3⟩ hr
        · exact .ofEr

/-- a number's digits are its word -/
theorem dig_ne (n : Nat) : digB n ≠ [] := by
  rw [digB]; split <;> simp
theorem dig_byte (d : Nat) (h : d < 10) : (UInt8.ofNat (48 + d)).toNat = 48 + d := by
  rw [UInt8.toNat_ofNat']; omega
theorem parseM_app (M : Nat) : ∀ (l : Bs) (acc u : Nat) (c : UInt8), Lib.parseUintM M acc l = .ok u → 48 ≤ c.toNat → c.toNat ≤ 57 → u < 1844674407370955162 → u * 10 + (c.toNat - 48) ≤ M → Lib.parseUintM M acc (l ++ [c]) = .ok (u * 10 + (c.toNat - 48)) := by
  intro l
  induction l with
  | nil =>
    intro acc u c h h1 h2 h3 h4
    simp only [Lib.parseUintM, Lib.NumEnd.ok.injEq] at h
    subst h
    rw [List.nil_append, Lib.parseUintM, if_pos ⟨h1, h2⟩, if_neg (by omega), if_neg (by omega)]
    rfl
  | cons d l ih =>
    intro acc u c h h1 h2 h3 h4
    rw [List.cons_append, Lib.parseUintM]
    rw [Lib.parseUintM] at h
    split at h
    · rename_i hd
      rw [if_pos hd]
      split at h
      · cases h
      · rename_i hr
        rw [if_neg hr]
        split at h
        · cases h
        · rename_i hM
          rw [if_neg hM]
          exact ih _ _ _ h h1 h2 h3 h4
    · cases h
theorem dig_parse : ∀ n : Nat, n ≤ 4294967295 → Lib.parseUintM (2 ^ 32 - 1) 0 (digB n) = .ok n := by
  intro n
  induction n using Nat.strongRecOn with
  | _ n ih =>
    intro hn
    rw [digB]
    split
    · rename_i h
      have e := dig_byte n h
      rw [Lib.parseUintM, if_pos (by omega), if_neg (by decide), if_neg (by omega), e]
      simp [Lib.parseUintM]
    · rename_i h
      have e := dig_byte (n % 10) (by omega)
      rw [parseM_app _ _ _ _ _ (ih (n / 10) (by omega) (by omega)) (by omega) (by omega) (by omega) (by omega), e]
      congr 1
      omega
theorem dig_all : ∀ n : Nat, ∀ c ∈ digB n, 48 ≤ c.toNat ∧ c.toNat ≤ 57 := by
  intro n
  induction n using Nat.strongRecOn with
  | _ n ih =>
    intro c hc
    rw [digB] at hc
    split at hc
    · rename_i h
      rcases List.mem_singleton.1 hc with rfl
      rw [dig_byte n h]; omega
    · rcases List.mem_append.1 hc with hc | hc
      · exact ih (n / 10) (by omega) c hc
      · rcases List.mem_singleton.1 hc with rfl
        rw [dig_byte (n % 10) (by omega)]; omega
theorem dig_head : ∀ n : Nat, 10 ≤ n → (digB n).headD 0 ≠ 48 := by
  intro n
  induction n using Nat.strongRecOn with
  | _ n ih =>
    intro hn
    rw [digB, if_neg (by omega)]
    have hne := dig_ne (n / 10)
    have e : (digB (n / 10) ++ [UInt8.ofNat (48 + n % 10)]).headD 0 = (digB (n / 10)).headD 0 := by
      cases h : digB (n / 10) with
      | nil => exact absurd h hne
      | cons c r => rfl
    rw [e]
    by_cases h : 10 ≤ n / 10
    · exact ih _ (by omega) h
    · rw [digB, if_pos (by omega)]
      intro e
      have e : UInt8.ofNat (48 + n / 10) = 48 := e
      have := dig_byte (n / 10) (by omega)
      rw [e] at this
      have h48 : (48 : UInt8).toNat = 48 := by decide
      omega
theorem word_dig (v : Int) (h0 : 0 ≤ v) (h1 : v ≤ 4294967295) : WordOk (nbW v) := by
  have al := dig_all v.toNat
  have hne := dig_ne v.toNat
  have isd : ∀ c : UInt8, 48 ≤ c.toNat ∧ c.toNat ≤ 57 → isL c = false ∧ isD c = true := fun c hc => by
    unfold isL isD
    constructor
    · simp; omega
    · simp; omega
  have hrun : runL (digB v.toNat) = digB v.toNat := by
    have := run_same (l := digB v.toNat) (fun c hc => by unfold alnum; rw [(isd c (al c hc)).2, Bool.or_true]) []
    rw [List.append_nil] at this
    rw [this]; simp [runL]
  have hw : wordL (digB v.toNat) = some (nbW v) := by
    obtain ⟨c, r, e⟩ : ∃ c r, digB v.toNat = c :: r := by
      cases h : digB v.toNat with
      | nil => exact absurd h hne
      | cons c r => exact ⟨c, r, rfl⟩
    have hc := isd c (al c (by rw [e]; exact List.mem_cons_self ..))
    have ht : tell (digB v.toNat) 0 = 2 := by
      rw [e, tell_0]; unfold cls; rw [hc.1, hc.2]; rfl
    unfold wordL
    rw [ht, if_neg (by decide), if_pos rfl, hrun]
    unfold numL Lib.parseUintB
    rw [if_neg hne, dig_parse v.toNat (by omega)]
    show (if _ then none else some ((48 : Int), digB v.toNat, ((v.toNat : Nat) : Int))) = _
    rw [if_neg (by
      rintro ⟨h1, h2⟩
      by_cases h10 : 10 ≤ v.toNat
      · exact dig_head _ h10 h1
      · rw [digB, if_pos (by omega)] at h2; simp at h2), show ((v.toNat : Nat) : Int) = v by omega]
    rfl
  exact (word_ok hw).1
def nmP {α : Type} (ws : List Pc) (k : Bs → List Pc → Except Nat α) : Except Nat α := match ws with | [] => .error 0 | p :: r => if p.1 = 110 then k p.2.1 r else .error (r.length + 1)
def nbP {α : Type} (ws : List Pc) (k : Int → List Pc → Except Nat α) : Except Nat α := match ws with | [] => .error 0 | p :: r => if p.1 = 48 then k p.2.2 r else .error (r.length + 1)
abbrev Dc := Bs × Int
abbrev Rd := Except Nat (List Dc × List Pc)
/-- declarations, behind those that there are -/
def dc : Nat → List Dc → List Pc → Rd
  | 0, _, ws => .error ws.length
  | f + 1, D, ws =>
    if hdW [118, 97, 114] ws then nmP ws.tail fun t r => must [59] r fun r => dc f (D ++ [(t, -1)]) r
    else if hdW [97, 114, 114] ws then nmP ws.tail fun t r => must [91] r fun r => nbP r fun v r => must [93] r fun r => must [59] r fun r => dc f (D ++ [(t, v)]) r
    else .ok (D, ws)
def dcE (D : List Dc) (ws : List Pc) : Rd := dc (ws.length + 1) D ws
theorem nmP_congr {α : Type} {ws : List Pc} {k k' : Bs → List Pc → Except Nat α} (h : ∀ p r, ws = p :: r → k p.2.1 r = k' p.2.1 r) : nmP ws k = nmP ws k' := by
  cases ws with
  | nil => rfl
  | cons p r => show (if _ then _ else _) = (if _ then _ else _); rw [h p r rfl]
theorem nbP_congr {α : Type} {ws : List Pc} {k k' : Int → List Pc → Except Nat α} (h : ∀ p r, ws = p :: r → k p.2.2 r = k' p.2.2 r) : nbP ws k = nbP ws k' := by
  cases ws with
  | nil => rfl
  | cons p r => show (if _ then _ else _) = (if _ then _ else _); rw [h p r rfl]
theorem mustc {α : Type} {t : Bs} {ws : List Pc} {k k' : List Pc → Except Nat α} (h : ∀ p r, ws = p :: r → k r = k' r) : must t ws k = must t ws k' := by
  cases ws with
  | nil => rfl
  | cons p r => show (if _ then _ else _) = (if _ then _ else _); rw [h p r rfl]
theorem dc_step : ∀ (f : Nat) (D : List Dc) (ws : List Pc), ws.length < f → dc (f + 1) D ws = dc f D ws := by
  intro f
  induction f with
  | zero => intro D ws h; omega
  | succ f ih =>
    intro D ws h
    have ht := (List.tail_suffix ws).length_le
    show (if _ then _ else (if _ then _ else _)) = (if _ then _ else (if _ then _ else _))
    congr 1
    · refine nmP_congr fun p r e => mustc fun p2 r2 e2 => ih _ _ ?_
      have := congrArg List.length e; have := congrArg List.length e2
      simp only [List.length_cons] at *; omega
    congr 1
    refine nmP_congr fun p r e => mustc fun p2 r2 e2 => nbP_congr fun p3 r3 e3 => mustc fun p4 r4 e4 => mustc fun p5 r5 e5 => ih _ _ ?_
    have := congrArg List.length e; have := congrArg List.length e2; have := congrArg List.length e3; have := congrArg List.length e4; have := congrArg List.length e5
    simp only [List.length_cons] at *; omega
theorem dc_eq {f : Nat} {D : List Dc} {ws : List Pc} (h : ws.length < f) : dc f D ws = dcE D ws := by
  have : ∀ g, ws.length + 1 ≤ g → dc g D ws = dc (ws.length + 1) D ws := by
    intro g hg
    induction hg with
    | refl => rfl
    | step hg ih => rw [dc_step _ _ _ hg, ih]
  exact this f h
theorem dcE_eq (D : List Dc) (ws : List Pc) : dcE D ws = if hdW [118, 97, 114] ws then nmP ws.tail fun t r => must [59] r fun r => dcE (D ++ [(t, -1)]) r
    else if hdW [97, 114, 114] ws then nmP ws.tail fun t r => must [91] r fun r => nbP r fun v r => must [93] r fun r => must [59] r fun r => dcE (D ++ [(t, v)]) r
    else .ok (D, ws) := by
  have ht := (List.tail_suffix ws).length_le
  show (if _ then _ else (if _ then _ else _)) = (if _ then _ else (if _ then _ else _))
  congr 1
  · refine nmP_congr fun p r e => mustc fun p2 r2 e2 => dc_eq ?_
    have := congrArg List.length e; have := congrArg List.length e2
    simp only [List.length_cons] at *; omega
  congr 1
  refine nmP_congr fun p r e => mustc fun p2 r2 e2 => nbP_congr fun p3 r3 e3 => mustc fun p4 r4 e4 => mustc fun p5 r5 e5 => dc_eq ?_
  have := congrArg List.length e; have := congrArg List.length e2; have := congrArg List.length e3; have := congrArg List.length e4; have := congrArg List.length e5
  simp only [List.length_cons] at *; omega
theorem nmP_ok {α : Type} {ws : List Pc} {k : Bs → List Pc → Except Nat α} {y : α} (h : nmP ws k = .ok y) : ∃ p r, ws = p :: r ∧ p.1 = 110 ∧ k p.2.1 r = .ok y := by
  cases ws with
  | nil => cases h
  | cons p r =>
    have h : (if p.1 = 110 then k p.2.1 r else .error (r.length + 1)) = .ok y := h
    split at h
    · exact ⟨p, r, rfl, ‹_›, h⟩
    · cases h
theorem nbP_ok {α : Type} {ws : List Pc} {k : Int → List Pc → Except Nat α} {y : α} (h : nbP ws k = .ok y) : ∃ p r, ws = p :: r ∧ p.1 = 48 ∧ k p.2.2 r = .ok y := by
  cases ws with
  | nil => cases h
  | cons p r =>
    have h : (if p.1 = 48 then k p.2.2 r else .error (r.length + 1)) = .ok y := h
    split at h
    · exact ⟨p, r, rfl, ‹_›, h⟩
    · cases h
theorem hdW_cons {t : Bs} {ws : List Pc} (h : hdW t ws = true) : ∃ p r, ws = p :: r ∧ isW t p = true := by
  cases ws with
  | nil => cases h
  | cons p r => exact ⟨p, r, rfl, h⟩
/-- a declaration is right: a name, and a number of 32 bits or -1 -/
def okD (D : List Dc) : Prop := ∀ x ∈ D, WordOk (110, x.1, 0) ∧ (x.2 = -1 ∨ (0 ≤ x.2 ∧ x.2 ≤ 4294967295))
/-- neither declaration -/
def noD (ws : List Pc) : Prop := hdW [118, 97, 114] ws = false ∧ hdW [97, 114, 114] ws = false
theorem dcE_no {D : List Dc} {ws : List Pc} (h : noD ws) : dcE D ws = .ok (D, ws) := by
  rw [dcE_eq, h.1, h.2]; rfl
/-- what declarations leave; that they are right; with more words behind them -/
theorem dc_any : ∀ (n : Nat) (ws : List Pc), ws.length ≤ n → ∀ (D D' : List Dc) (r : List Pc), dcE D ws = .ok (D', r) →
    (∃ D2, D' = D ++ D2 ∧ ((∀ p ∈ ws, WordOk p) → okD D2)) ∧ r <:+ ws ∧ noD r ∧ (∀ m, (r ≠ [] ∨ noD m) → dcE D (ws ++ m) = .ok (D', r ++ m)) := by
  intro n
  induction n with
  | zero =>
    intro ws hn D D' r h
    obtain rfl : ws = [] := List.eq_nil_of_length_eq_zero (by omega)
    have h : Except.ok (D, []) = (Except.ok (D', r) : Rd) := h
    injection h with h; injection h with e1 e2
    subst e1 e2
    exact ⟨⟨[], (List.append_nil _).symm, fun _ x hx => by cases hx⟩, List.suffix_refl _, ⟨rfl, rfl⟩, fun m hm => by
      rcases hm with hm | hm
      · exact absurd rfl hm
      · exact dcE_no hm⟩
  | succ n ih =>
    intro ws hn D D' r h
    rw [dcE_eq] at h
    split at h
    · rename_i c1
      obtain ⟨p0, r0, rfl, hp0⟩ := hdW_cons c1
      obtain ⟨p1, r1, e1, h1, h2⟩ := nmP_ok h
      obtain ⟨p2, r2, rfl, h3, h4⟩ := must_ok h2
      obtain rfl : r0 = p1 :: p2 :: r2 := e1
      obtain ⟨⟨D2, e2, k2⟩, k3, k4, k5⟩ := ih r2 (by simp only [List.length_cons] at hn; omega) _ _ _ h4
      refine ⟨⟨(p1.2.1, -1) :: D2, by rw [e2]; simp, fun hw x hx => ?_⟩, k3.trans ((List.suffix_cons _ _).trans ((List.suffix_cons _ _).trans (List.suffix_cons _ _))), k4, fun m hm => ?_⟩
      · rcases List.mem_cons.1 hx with rfl | hx
        · exact ⟨ok_name (hw p1 (by simp)) h1, .inl rfl⟩
        · exact k2 (fun q hq => hw q (by simp [hq])) x hx
      · rw [dcE_eq]
        rw [if_pos (show hdW [118, 97, 114] (p0 :: p1 :: p2 :: r2 ++ m) = true from hp0)]
        show (if p1.1 = 110 then (must [59] (p2 :: (r2 ++ m)) fun r => dcE (D ++ [(p1.2.1, -1)]) r) else _) = _
        rw [if_pos h1, must_is h3]
        exact k5 m hm
    split at h
    · rename_i c1 c2
      obtain ⟨p0, r0, rfl, hp0⟩ := hdW_cons c2
      obtain ⟨p1, r1, e1, h1, h2⟩ := nmP_ok h
      obtain ⟨p2, r2, rfl, h3, h4⟩ := must_ok h2
      obtain ⟨p3, r3, rfl, h5, h6⟩ := nbP_ok h4
      obtain ⟨p4, r4, rfl, h7, h8⟩ := must_ok h6
      obtain ⟨p5, r5, rfl, h9, h10⟩ := must_ok h8
      obtain rfl : r0 = p1 :: p2 :: p3 :: p4 :: p5 :: r5 := e1
      obtain ⟨⟨D2, e2, k2⟩, k3, k4, k5⟩ := ih r5 (by simp only [List.length_cons] at hn; omega) _ _ _ h10
      refine ⟨⟨(p1.2.1, p3.2.2) :: D2, by rw [e2]; simp, fun hw x hx => ?_⟩, k3.trans ((List.suffix_cons _ _).trans ((List.suffix_cons _ _).trans ((List.suffix_cons _ _).trans ((List.suffix_cons _ _).trans ((List.suffix_cons _ _).trans (List.suffix_cons _ _)))))), k4, fun m hm => ?_⟩
      · rcases List.mem_cons.1 hx with rfl | hx
        · have := hw p3 (by simp)
          exact ⟨ok_name (hw p1 (by simp)) h1, .inr ⟨this.v0, this.v1⟩⟩
        · exact k2 (fun q hq => hw q (by simp [hq])) x hx
      · rw [dcE_eq]
        rw [if_neg (show ¬ (hdW [118, 97, 114] (p0 :: p1 :: p2 :: p3 :: p4 :: p5 :: r5 ++ m) = true) from c1), if_pos (show hdW [97, 114, 114] (p0 :: p1 :: p2 :: p3 :: p4 :: p5 :: r5 ++ m) = true from hp0)]
        show (if p1.1 = 110 then (must [91] (p2 :: p3 :: p4 :: p5 :: (r5 ++ m)) fun r => nbP r fun v r => must [93] r fun r => must [59] r fun r => dcE (D ++ [(p1.2.1, v)]) r) else _) = _
        rw [if_pos h1, must_is h3]
        show (if p3.1 = 48 then (must [93] (p4 :: p5 :: (r5 ++ m)) fun r => must [59] r fun r => dcE (D ++ [(p1.2.1, p3.2.2)]) r) else _) = _
        rw [if_pos h5, must_is h7, must_is h9]
        exact k5 m hm
    · rename_i c1 c2
      injection h with h; injection h with e1 e2
      subst e1 e2
      have nd : noD ws := ⟨by simpa using c1, by simpa using c2⟩
      exact ⟨⟨[], (List.append_nil _).symm, fun _ x hx => by cases hx⟩, List.suffix_refl _, nd, fun m hm => dcE_no (by
        by_cases hw : ws = []
        · subst hw
          rcases hm with hm | hm
          · exact absurd rfl hm
          · exact hm
        · exact ⟨(hdW_app m hw).trans nd.1, (hdW_app m hw).trans nd.2⟩)⟩
/-- a program's words -/
def prg (ws : List Pc) : Except Nat (List Dc × Nd × Nat) :=
  match dcE [] ws with
  | .error k => .error k
  | .ok (D, r) => match grE (.L .nil 0 false) r with
    | .error k => .error k
    | .ok (b, _, d) => .ok (D, b, d)
theorem prg_ok {ws : List Pc} {D : List Dc} {b : Nd} {d : Nat} (h : prg ws = .ok (D, b, d)) : ∃ r, dcE [] ws = .ok (D, r) ∧ grE (.L .nil 0 false) r = .ok (b, [], d) := by
  unfold prg at h
  split at h
  · cases h
  · rename_i D' r e
    split at h
    · cases h
    · rename_i b' s d' e2
      injection h with h; injection h with e3 h; injection h with e4 e5
      subst e3 e4 e5
      exact ⟨r, e, by rw [← L_false_nil _ _ _ _ _ _ _ e2]; exact e2⟩
theorem prg_is {ws : List Pc} {D : List Dc} {b : Nd} {d : Nat} {r s : List Pc} (h1 : dcE [] ws = .ok (D, r)) (h2 : grE (.L .nil 0 false) r = .ok (b, s, d)) : prg ws = .ok (D, b, d) := by
  unfold prg; rw [h1]; simp only [h2]
theorem prg_er {ws : List Pc} {D : List Dc} {k : Nat} {r : List Pc} (h1 : dcE [] ws = .ok (D, r)) (h2 : grE (.L .nil 0 false) r = .error k) : prg ws = .error k := by
  unfold prg; rw [h1]; simp only [h2]
theorem prg_kd {ws : List Pc} (hw : ∀ p ∈ ws, WordOk p) {D : List Dc} {b : Nd} {d : Nat} (h : prg ws = .ok (D, b, d)) : okD D ∧ okN 3 b := by
  obtain ⟨r, h1, h2⟩ := prg_ok h
  obtain ⟨⟨D2, e, k⟩, hs, _, _⟩ := dc_any _ ws (Nat.le_refl _) _ _ _ h1
  rw [List.nil_append] at e
  subst e
  exact ⟨k hw, ((gr_kd _ (.L .nil 0 false) r (fun p hp => hw p (hs.subset hp)) trivial).ok b [] d h2).1⟩
/-- the words of declarations -/
def shD (D : List Dc) : List Pc := D.flatMap fun x => if x.2 = -1 then [kyW [118, 97, 114], nmW x.1, sgW [59]] else [kyW [97, 114, 114], nmW x.1, sgW [91], nbW x.2, sgW [93], sgW [59]]
theorem shD_cons (x : Dc) (D : List Dc) : shD (x :: D) = (if x.2 = -1 then [kyW [118, 97, 114], nmW x.1, sgW [59]] else [kyW [97, 114, 114], nmW x.1, sgW [91], nbW x.2, sgW [93], sgW [59]]) ++ shD D := rfl
/-- a program's words, shown -/
def shP (D : List Dc) (b : Nd) : List Pc := shD D ++ shw b
/-- words' text: a blank between two -/
def txtW (ws : List Pc) : Bs := (gapsL [32] ws).drop 1
/-- a node: its kind, up to three others, a name, a number, a block's statements -/
structure NdR where
  k : Int
  a : Int
  b : Int
  c : Int
  t : Bs
  v : Int
  l : List Int
deriving DecidableEq
def nd0 : NdR := ⟨0, 0, 0, 0, [], 0, []⟩
/-- where the last node of it lies -/
def rt (n : Nat) (x : Nd) : Int := ((n + cnt x - 1 : Nat) : Int)
/-- places of a block's statements -/
def lst (n : Nat) : Nd → List Int
  | .snoc b s => lst n b ++ [rt (n + (cnt b - 1)) s]
  | _ => []
/-- the nodes, the first at a place; of a block: its statements' -/
def fl : Nat → Nd → List NdR
  | _, .num v => [⟨1, -1, -1, -1, [], v, []⟩]
  | _, .var t => [⟨2, -1, -1, -1, t, 0, []⟩]
  | n, .get t a => fl n a ++ [⟨3, rt n a, -1, -1, t, 0, []⟩]
  | _, .inp => [⟨4, -1, -1, -1, [], 0, []⟩]
  | n, .neg a => fl n a ++ [⟨5, rt n a, -1, -1, [], 0, []⟩]
  | n, .bin o a b => fl n a ++ fl (n + cnt a) b ++ [⟨6, rt n a, rt (n + cnt a) b, -1, [], o, []⟩]
  | n, .set t a => fl n a ++ [⟨7, rt n a, -1, -1, t, 0, []⟩]
  | n, .put t a b => fl n a ++ fl (n + cnt a) b ++ [⟨8, rt n a, rt (n + cnt a) b, -1, t, 0, []⟩]
  | n, .ife a b => fl n a ++ (fl (n + cnt a) b ++ [⟨13, -1, -1, -1, [], 0, lst (n + cnt a) b⟩]) ++ [⟨9, rt n a, rt (n + cnt a) b, -1, [], 0, []⟩]
  | n, .ifel a b c => fl n a ++ (fl (n + cnt a) b ++ [⟨13, -1, -1, -1, [], 0, lst (n + cnt a) b⟩]) ++ (fl (n + cnt a + cnt b) c ++ [⟨13, -1, -1, -1, [], 0, lst (n + cnt a + cnt b) c⟩]) ++ [⟨9, rt n a, rt (n + cnt a) b, rt (n + cnt a + cnt b) c, [], 0, []⟩]
  | n, .whi a b => fl n a ++ (fl (n + cnt a) b ++ [⟨13, -1, -1, -1, [], 0, lst (n + cnt a) b⟩]) ++ [⟨10, rt n a, rt (n + cnt a) b, -1, [], 0, []⟩]
  | n, .out a => fl n a ++ [⟨11, rt n a, -1, -1, [], 0, []⟩]
  | n, .exi a => fl n a ++ [⟨12, rt n a, -1, -1, [], 0, []⟩]
  | _, .nil => []
  | n, .snoc b s => fl n b ++ fl (n + (cnt b - 1)) s
/-- a block's nodes, its own the last -/
def flB (n : Nat) (b : Nd) : List NdR := fl n b ++ [⟨13, -1, -1, -1, [], 0, lst n b⟩]
def isBl : Nd → Bool | .nil => true | .snoc _ _ => true | _ => false
theorem isBl_ok {x : Nd} : (okN 1 x ∨ okN 2 x → isBl x = false) ∧ (okN 3 x → isBl x = true) := by
  constructor
  · intro h; cases x <;> first | rfl | (rcases h with h | h <;> exact h.elim)
  · intro h; cases x <;> first | rfl | exact h.elim
theorem fl_len : ∀ (x : Nd) (n : Nat), okN 1 x ∨ okN 2 x ∨ okN 3 x → (fl n x).length + (if isBl x then 1 else 0) = cnt x := by
  intro x
  induction x with
  | num v => intros; rfl
  | var t => intros; rfl
  | inp => intros; rfl
  | nil => intros; rfl
  | get t a iha | neg a iha =>
    intro n h
    have h : okN 1 a := by rcases h with h | h | h <;> first | exact h | exact h.2 | exact h.elim
    have := iha n (.inl h)
    rw [(isBl_ok (x := a)).1 (.inl h)] at this
    simp only [fl, cnt, isBl, List.length_append, List.length_cons, List.length_nil] at *
    simp at this ⊢; omega
  | set t a iha | out a iha | exi a iha =>
    intro n h
    have h : okN 1 a := by rcases h with h | h | h <;> first | exact h | exact h.2 | exact h.elim
    have := iha n (.inl h)
    rw [(isBl_ok (x := a)).1 (.inl h)] at this
    simp only [fl, cnt, isBl, List.length_append, List.length_cons, List.length_nil] at *
    simp at this ⊢; omega
  | bin o a b iha ihb | put t a b iha ihb =>
    intro n h
    have h : okN 1 a ∧ okN 1 b := by rcases h with h | h | h <;> first | exact h.2 | exact h.elim
    have h1 := iha n (.inl h.1)
    have h2 := ihb (n + cnt a) (.inl h.2)
    rw [(isBl_ok (x := a)).1 (.inl h.1)] at h1
    rw [(isBl_ok (x := b)).1 (.inl h.2)] at h2
    simp only [fl, cnt, isBl, List.length_append, List.length_cons, List.length_nil] at *
    simp at h1 h2 ⊢; omega
  | ife a b iha ihb | whi a b iha ihb =>
    intro n h
    have h : okN 1 a ∧ okN 3 b := by rcases h with h | h | h <;> first | exact h | exact h.elim
    have h1 := iha n (.inl h.1)
    have h2 := ihb (n + cnt a) (.inr (.inr h.2))
    rw [(isBl_ok (x := a)).1 (.inl h.1)] at h1
    rw [(isBl_ok (x := b)).2 h.2] at h2
    simp only [fl, cnt, isBl, List.length_append, List.length_cons, List.length_nil] at *
    simp at h1 h2 ⊢; omega
  | ifel a b c iha ihb ihc =>
    intro n h
    have h : okN 1 a ∧ okN 3 b ∧ okN 3 c := by rcases h with h | h | h <;> first | exact h | exact h.elim
    have h1 := iha n (.inl h.1)
    have h2 := ihb (n + cnt a) (.inr (.inr h.2.1))
    have h3 := ihc (n + cnt a + cnt b) (.inr (.inr h.2.2))
    rw [(isBl_ok (x := a)).1 (.inl h.1)] at h1
    rw [(isBl_ok (x := b)).2 h.2.1] at h2
    rw [(isBl_ok (x := c)).2 h.2.2] at h3
    simp only [fl, cnt, isBl, List.length_append, List.length_cons, List.length_nil] at *
    simp at h1 h2 h3 ⊢; omega
  | snoc b s ihb ihs =>
    intro n h
    have h : okN 3 b ∧ okN 2 s := by rcases h with h | h | h <;> first | exact h | exact h.elim
    have h1 := ihb n (.inr (.inr h.1))
    have h2 := ihs (n + (cnt b - 1)) (.inr (.inl h.2))
    rw [(isBl_ok (x := b)).2 h.1] at h1
    rw [(isBl_ok (x := s)).1 (.inr h.2)] at h2
    simp only [fl, cnt, isBl, List.length_append] at *
    simp at h1 h2 ⊢; omega
theorem flB_len {b : Nd} (n : Nat) (h : okN 3 b) : (flB n b).length = cnt b := by
  have := fl_len b n (.inr (.inr h))
  rw [(isBl_ok (x := b)).2 h] at this
  unfold flB
  rw [List.length_append]
  simp at this ⊢; omega
/-- a part of a row -/
def PartN (G : List NdR) (n : Nat) (L : List NdR) : Prop := ∀ k, k < L.length → G.getD (n + k) nd0 = L.getD k nd0
theorem PartN.app {G : List NdR} {n : Nat} {L M : List NdR} (h : PartN G n (L ++ M)) : PartN G n L ∧ PartN G (n + L.length) M := by
  constructor
  · intro k hk
    rw [h k (by rw [List.length_append]; omega), List.getD_eq_getElem?_getD, List.getElem?_append_left hk, ← List.getD_eq_getElem?_getD]
  · intro k hk
    rw [Nat.add_assoc, h (L.length + k) (by rw [List.length_append]; omega), List.getD_eq_getElem?_getD, List.getElem?_append_right (by omega), ← List.getD_eq_getElem?_getD]
    congr 1; omega
theorem PartN.one {G : List NdR} {n : Nat} {r : NdR} (h : PartN G n [r]) : G.getD n nd0 = r := h 0 (by simp)
theorem fl_n1 {x : Nd} (n : Nat) (h : okN 1 x ∨ okN 2 x) : (fl n x).length = cnt x := by
  have hl := fl_len x n (h.elim .inl fun h => .inr (.inl h))
  rw [isBl_ok.1 h] at hl
  simpa using hl
theorem fl_n3 {x : Nd} (n : Nat) (h : okN 3 x) : (fl n x).length + 1 = cnt x := by
  have hl := fl_len x n (.inr (.inr h))
  rw [isBl_ok.2 h] at hl
  simpa using hl
theorem rt_lt {x : Nd} (n m : Nat) (h : n + cnt x ≤ m) : 0 ≤ rt n x ∧ rt n x < m := by
  have := cnt_pos x
  unfold rt; omega
theorem gaps_app (a b : List Pc) : gapsL [32] (a ++ b) = gapsL [32] a ++ gapsL [32] b := by unfold gapsL; simp
theorem gaps_cons (p : Pc) (r : List Pc) : gapsL [32] (p :: r) = 32 :: txtW (p :: r) := rfl
theorem rt_app (n : Nat) (x : Nd) : 0 ≤ rt n x ∧ (rt n x).toNat = n + cnt x - 1 := by unfold rt; omega
end Go.Proofs.YtkacplcilkogpaaGreatDoor.Mm
