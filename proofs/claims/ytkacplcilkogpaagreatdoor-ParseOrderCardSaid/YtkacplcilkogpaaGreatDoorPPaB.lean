/- What is shown, as a text; a row of nodes as a tree. No program in it. -/
import Derived.Test.YtkacplcilkogpaaGreatDoorPPaA
namespace Go.Proofs.YtkacplcilkogpaaGreatDoor.Mm
set_option linter.unusedVariables false
set_option linter.unusedSimpArgs false

/-- what the grammar's parts read -/
def kdQ : Gr → Nat | .T => 2 | .B => 3 | .L _ _ _ => 3 | _ => 1
def okQ : Gr → Prop | .Pl a _ => okN 1 a | .Sl a _ => okN 1 a | .L b _ _ => okN 3 b | _ => True
structure Kd (n : Nat) (ws : List Pc) (r : Rr) : Prop where
  ok : ∀ x s d, r = .ok (x, s, d) → okN n x ∧ ∀ p ∈ s, WordOk p
theorem Kd.ofOk {n : Nat} {ws s : List Pc} {x : Nd} {d : Nat} (h : okN n x) (hs : ∀ p ∈ s, WordOk p) : Kd n ws (.ok (x, s, d)) := ⟨fun x' s' d' e => by injection e with e; injection e with e1 e; injection e with e2 e3; subst e1 e2 e3; exact ⟨h, hs⟩⟩
theorem Kd.ofEr {n : Nat} {ws : List Pc} {k : Nat} : Kd n ws (.error k) := ⟨fun x s d e => by cases e⟩
theorem Kd.bnd {n m : Nat} {ws : List Pc} {r : Rr} {k : Nd → List Pc → Nat → Rr} (h : Kd n ws r) (hk : ∀ x s d, okN n x → (∀ p ∈ s, WordOk p) → Kd m ws (k x s d)) : Kd m ws (bnd r k) := by
  match r, h with
  | .error e, h => exact .ofEr
  | .ok (x, s, d), h => exact hk x s d (h.ok x s d rfl).1 (h.ok x s d rfl).2
theorem Kd.must {n : Nat} {t : Bs} {ws s : List Pc} {k : List Pc → Rr} (hs : ∀ p ∈ s, WordOk p) (hk : ∀ r, (∀ p ∈ r, WordOk p) → Kd n ws (k r)) : Kd n ws (must t s k) := by
  match s, hs with
  | [], _ => exact .ofEr
  | p :: r, hs =>
    show Kd n ws (if isW t p then k r else .error (r.length + 1))
    split
    · exact hk r fun q hq => hs q (List.mem_cons_of_mem _ hq)
    · exact .ofEr
theorem ok_tail {ws : List Pc} (h : ∀ p ∈ ws, WordOk p) : ∀ p ∈ ws.tail, WordOk p := fun p hp => h p (List.mem_of_mem_tail hp)
theorem Kd.to {n : Nat} {ws ws' : List Pc} {r : Rr} (h : Kd n ws r) : Kd n ws' r := ⟨h.ok⟩
theorem ok_name {p : Pc} (h : WordOk p) (hp : p.1 = 110) : WordOk (110, p.2.1, 0) := by
  have := h.kV (by rw [hp]; decide)
  obtain ⟨k, t, v⟩ := p
  simp only at hp this
  subst hp this
  exact h
theorem opP_ok {ws : List Pc} {o : Int} (h : opP ws = some o) : o = 5 ∨ o = 6 ∨ o = 7 := by
  unfold opP at h
  split at h
  · injection h with h; omega
  split at h
  · injection h with h; omega
  split at h
  · injection h with h; omega
  · cases h
theorem opS_ok {ws : List Pc} {o : Int} (h : opS ws = some o) : o = 3 ∨ o = 4 := by
  unfold opS at h
  split at h
  · injection h with h; omega
  split at h
  · injection h with h; omega
  · cases h
theorem opE_ok {ws : List Pc} {o : Int} (h : opE ws = some o) : o = 13 ∨ o = 14 := by
  unfold opE at h
  split at h
  · injection h with h; omega
  split at h
  · injection h with h; omega
  · cases h
theorem gr_kd : ∀ (f : Nat) (q : Gr) (ws : List Pc), (∀ p ∈ ws, WordOk p) → okQ q → Kd (kdQ q) ws (gr f q ws) := by
  intro f
  induction f with
  | zero => intro q ws h hq; exact .ofEr
  | succ f ih =>
    intro q ws h hq
    have iE := fun (r : List Pc) (hr : ∀ p ∈ r, WordOk p) => (ih .E r hr trivial).to (ws' := ws)
    have iB := fun (r : List Pc) (hr : ∀ p ∈ r, WordOk p) => (ih .B r hr trivial).to (ws' := ws)
    have iV := fun (r : List Pc) (hr : ∀ p ∈ r, WordOk p) => (ih .V r hr trivial).to (ws' := ws)
    have iP := fun (r : List Pc) (hr : ∀ p ∈ r, WordOk p) => (ih .P r hr trivial).to (ws' := ws)
    have iS := fun (r : List Pc) (hr : ∀ p ∈ r, WordOk p) => (ih .S r hr trivial).to (ws' := ws)
    cases q with
    | V =>
      cases ws with
      | nil => exact .ofEr
      | cons p r =>
        have hp := h p (List.mem_cons_self ..)
        have hr : ∀ q ∈ r, WordOk q := fun q hq => h q (List.mem_cons_of_mem _ hq)
        rw [gr_V]
        split
        · exact .ofOk ⟨hp.v0, hp.v1⟩ hr
        split
        · rename_i hn
          have hn := ok_name hp hn
          split
          · exact (iE _ (ok_tail hr)).bnd fun x s d h1 h2 => Kd.must h2 fun r hr => .ofOk ⟨hn, h1⟩ hr
          · exact .ofOk hn hr
        split
        · exact .ofOk trivial hr
        split
        · exact (iV _ hr).bnd fun x s d h1 h2 => .ofOk h1 h2
        split
        · exact (iE _ hr).bnd fun x s d h1 h2 => Kd.must h2 fun r hr => .ofOk h1 hr
        · exact .ofEr
    | P => exact (iV _ h).bnd fun x s d h1 h2 => (ih (.Pl x d) s h2 h1).to
    | Pl a d =>
      rw [gr_Pl]
      split
      · exact .ofOk hq h
      · rename_i o ho
        have := opP_ok ho
        exact (iV _ (ok_tail h)).bnd fun x s d h1 h2 => (ih (.Pl (.bin o a x) _) s h2 ⟨by omega, hq, h1⟩).to
    | S => exact (iP _ h).bnd fun x s d h1 h2 => (ih (.Sl x d) s h2 h1).to
    | Sl a d =>
      rw [gr_Sl]
      split
      · exact .ofOk hq h
      · rename_i o ho
        have := opS_ok ho
        exact (iP _ (ok_tail h)).bnd fun x s d h1 h2 => (ih (.Sl (.bin o a x) _) s h2 ⟨by omega, hq, h1⟩).to
    | E =>
      refine (iS _ h).bnd fun x s d h1 h2 => ?_
      split
      · exact .ofOk h1 h2
      · rename_i o ho
        have := opE_ok ho
        exact (iS _ (ok_tail h2)).bnd fun y s d h3 h4 => .ofOk ⟨by omega, h1, h3⟩ h4
    | B => exact Kd.must h fun r hr => ((ih (.L .nil 0 true) r hr trivial).to (ws' := ws)).bnd fun x s d h1 h2 => Kd.must h2 fun r hr => .ofOk h1 hr
    | L b d stop =>
      rw [gr_L]
      split
      · exact .ofOk hq h
      split
      · exact .ofOk hq h
      · exact ((ih .T ws h trivial)).bnd fun x s d h1 h2 => (ih (.L (.snoc b x) _ _) s h2 ⟨hq, h1⟩).to
    | T =>
      cases ws with
      | nil => exact .ofEr
      | cons p r =>
        have hp := h p (List.mem_cons_self ..)
        have hr : ∀ q ∈ r, WordOk q := fun q hq => h q (List.mem_cons_of_mem _ hq)
        rw [gr_T]
        split
        · refine (iE _ hr).bnd fun x s d h1 h2 => (iB _ h2).bnd fun b s2 d2 h3 h4 => ?_
          split
          · exact (iB _ (ok_tail h4)).bnd fun c s3 d3 h5 h6 => .ofOk ⟨h1, h3, h5⟩ h6
          · exact .ofOk ⟨h1, h3⟩ h4
        split
        · exact (iE _ hr).bnd fun x s d h1 h2 => (iB _ h2).bnd fun b s2 d2 h3 h4 => .ofOk ⟨h1, h3⟩ h4
        split
        · exact (iE _ hr).bnd fun x s d h1 h2 => Kd.must h2 fun r hr => .ofOk h1 hr
        split
        · exact (iE _ hr).bnd fun x s d h1 h2 => Kd.must h2 fun r hr => .ofOk h1 hr
        split
        · rename_i hn
          have hn := ok_name hp hn
          split
          · exact (iE _ (ok_tail hr)).bnd fun x s d h1 h2 => Kd.must h2 fun r hr => Kd.must hr fun r hr => (iE _ hr).bnd fun y s2 d2 h3 h4 => Kd.must h4 fun r hr => .ofOk ⟨hn, h1, h3⟩ hr
          · exact Kd.must hr fun r hr => (iE _ hr).bnd fun y s2 d2 h3 h4 => Kd.must h4 fun r hr => .ofOk ⟨hn, h3⟩ hr
        · exact .ofEr

/-- a number's digits are its word -/
theorem dig_ne (n : Nat) : digB n ≠ [] := by
  rw [digB]; split <;> simp
theorem dig_byte (d : Nat) (h : d < 10) : (UInt8.ofNat (48 + d)).toNat = 48 + d := by
  rw [UInt8.toNat_ofNat']; omega
theorem parseM_app (M : Nat) : ∀ (l : Bs) (acc u : Nat) (c : UInt8), Lib.parseUintM M acc l = .ok u → 48 ≤ c.toNat → c.toNat ≤ 57 → u < 1844674407370955162 → u * 10 + (c.toNat - 48) ≤ M → Lib.parseUintM M acc (l ++ [c]) = .ok (u * 10 + (c.toNat - 48)) := by
  intro l
  induction l with
  | nil =>
    intro acc u c h h1 h2 h3 h4
    simp only [Lib.parseUintM, Lib.NumEnd.ok.injEq] at h
    subst h
    rw [List.nil_append, Lib.parseUintM, if_pos ⟨h1, h2⟩, if_neg (by omega), if_neg (by omega)]
    rfl
  | cons d l ih =>
    intro acc u c h h1 h2 h3 h4
    rw [List.cons_append, Lib.parseUintM]
    rw [Lib.parseUintM] at h
    split at h
    · rename_i hd
      rw [if_pos hd]
      split at h
      · cases h
      · rename_i hr
        rw [if_neg hr]
        split at h
        · cases h
        · rename_i hM
          rw [if_neg hM]
          exact ih _ _ _ h h1 h2 h3 h4
    · cases h
theorem dig_parse : ∀ n : Nat, n ≤ 4294967295 → Lib.parseUintM (2 ^ 32 - 1) 0 (digB n) = .ok n := by
  intro n
  induction n using Nat.strongRecOn with
  | _ n ih =>
    intro hn
    rw [digB]
    split
    · rename_i h
      have e := dig_byte n h
      rw [Lib.parseUintM, if_pos (by omega), if_neg (by decide), if_neg (by omega), e]
      simp [Lib.parseUintM]
    · rename_i h
      have e := dig_byte (n % 10) (by omega)
      rw [parseM_app _ _ _ _ _ (ih (n / 10) (by omega) (by omega)) (by omega) (by omega) (by omega) (by omega), e]
      congr 1
      omega
theorem dig_all : ∀ n : Nat, ∀ c ∈ digB n, 48 ≤ c.toNat ∧ c.toNat ≤ 57 := by
  intro n
  induction n using Nat.strongRecOn with
  | _ n ih =>
    intro c hc
    rw [digB] at hc
    split at hc
    · rename_i h
      rcases List.mem_singleton.1 hc with rfl
      rw [dig_byte n h]; omega
    · rcases List.mem_append.1 hc with hc | hc
      · exact ih (n / 10) (by omega) c hc
      · rcases List.mem_singleton.1 hc with rfl
        rw [dig_byte (n % 10) (by omega)]; omega
theorem dig_head : ∀ n : Nat, 10 ≤ n → (digB n).headD 0 ≠ 48 := by
  intro n
  induction n using Nat.strongRecOn with
  | _ n ih =>
    intro hn
    rw [digB, if_neg (by omega)]
    have hne := dig_ne (n / 10)
    have e : (digB (n / 10) ++ [UInt8.ofNat (48 + n % 10)]).headD 0 = (digB (n / 10)).headD 0 := by
      cases h : digB (n / 10) with
      | nil => exact absurd h hne
      | cons c r => rfl
    rw [e]
    by_cases h : 10 ≤ n / 10
    · exact ih _ (by omega) h
    · rw [digB, if_pos (by omega)]
      intro e
      have e : UInt8.ofNat (48 + n / 10) = 48 := e
      have := dig_byte (n / 10) (by omega)
      rw [e] at this
      have h48 : (48 : UInt8).toNat = 48 := by decide
      omega
theorem word_dig (v : Int) (h0 : 0 ≤ v) (h1 : v ≤ 4294967295) : WordOk (nbW v) := by
  have al := dig_all v.toNat
  have hne := dig_ne v.toNat
  have isd : ∀ c : UInt8, 48 ≤ c.toNat ∧ c.toNat ≤ 57 → isL c = false ∧ isD c = true := fun c hc => by
    unfold isL isD
    constructor
    · simp; omega
    · simp; omega
  have hrun : runL (digB v.toNat) = digB v.toNat := by
    have := run_same (l := digB v.toNat) (fun c hc => by unfold alnum; rw [(isd c (al c hc)).2, Bool.or_true]) []
    rw [List.append_nil] at this
    rw [this]; simp [runL]
  have hw : wordL (digB v.toNat) = some (nbW v) := by
    obtain ⟨c, r, e⟩ : ∃ c r, digB v.toNat = c :: r := by
      cases h : digB v.toNat with
      | nil => exact absurd h hne
      | cons c r => exact ⟨c, r, rfl⟩
    have hc := isd c (al c (by rw [e]; exact List.mem_cons_self ..))
    have ht : tell (digB v.toNat) 0 = 2 := by
      rw [e, tell_0]; unfold cls; rw [hc.1, hc.2]; rfl
    unfold wordL
    rw [ht, if_neg (by decide), if_pos rfl, hrun]
    unfold numL Lib.parseUintB
    rw [if_neg hne, dig_parse v.toNat (by omega)]
    show (if _ then none else some ((48 : Int), digB v.toNat, ((v.toNat : Nat) : Int))) = _
    rw [if_neg (by
      rintro ⟨h1, h2⟩
      by_cases h10 : 10 ≤ v.toNat
      · exact dig_head _ h10 h1
      · rw [digB, if_pos (by omega)] at h2; simp at h2), show ((v.toNat : Nat) : Int) = v by omega]
    rfl
  exact (word_ok hw).1
theorem word_sg (t : Bs) (h : wordL t = some (sgW t)) : WordOk (sgW t) := (word_ok h).1
theorem word_ky (t : Bs) (h : wordL t = some (kyW t)) : WordOk (kyW t) := (word_ok h).1
/-- the words of what is shown are words -/
theorem shw_ok : ∀ x : Nd, okN 1 x ∨ okN 2 x ∨ okN 3 x → ∀ p ∈ shw x, WordOk p := by
  have K := fun (t : Bs) (h : wordL t = some (sgW t)) => word_sg t h
  have S40 := K [40] rfl
  have S41 := K [41] rfl
  have S91 := K [91] rfl
  have S93 := K [93] rfl
  have S45 := K [45] rfl
  have S59 := K [59] rfl
  have S61 := K [61] rfl
  have S123 := K [123] rfl
  have S125 := K [125] rfl
  have SO : ∀ o : Int, (o = 3 ∨ o = 4 ∨ o = 5 ∨ o = 6 ∨ o = 7 ∨ o = 13 ∨ o = 14) → WordOk (sgW (opW o)) := by
    intro o h
    rcases h with rfl | rfl | rfl | rfl | rfl | rfl | rfl <;> exact K _ rfl
  have KI := word_ky [105, 102] rfl
  have KE := word_ky [101, 108, 115, 101] rfl
  have KW := word_ky [119, 104, 105, 108, 101] rfl
  have KO := word_ky [111, 117, 116] rfl
  have KX := word_ky [101, 120, 105, 116] rfl
  have KN := word_ky [105, 110] rfl
  intro x
  induction x with
  | num v =>
    intro h p hp
    have h : 0 ≤ v ∧ v ≤ 4294967295 := by rcases h with h | h | h <;> first | exact h | exact h.elim
    rcases List.mem_singleton.1 hp with rfl
    exact word_dig v h.1 h.2
  | var t =>
    intro h p hp
    rcases List.mem_singleton.1 hp with rfl
    rcases h with h | h | h <;> first | exact h | exact h.elim
  | inp =>
    intro h p hp
    rcases List.mem_singleton.1 hp with rfl
    exact KN
  | nil => intro h p hp; cases hp
  | get t a iha =>
    intro h p hp
    have h : WordOk (110, t, 0) ∧ okN 1 a := by rcases h with h | h | h <;> first | exact h | exact h.elim
    have := iha (.inl h.2)
    simp only [shw, List.mem_cons, List.mem_append, List.not_mem_nil, or_false] at hp
    rcases hp with rfl | rfl | hp | rfl
    · exact h.1
    · exact S91
    · exact this p hp
    · exact S93
  | neg a iha =>
    intro h p hp
    have h : okN 1 a := by rcases h with h | h | h <;> first | exact h | exact h.elim
    have := iha (.inl h)
    simp only [shw, List.mem_cons, List.mem_append, List.not_mem_nil, or_false] at hp
    rcases hp with rfl | rfl | hp | rfl
    · exact S40
    · exact S45
    · exact this p hp
    · exact S41
  | bin o a b iha ihb =>
    intro h p hp
    have h : (o = 3 ∨ o = 4 ∨ o = 5 ∨ o = 6 ∨ o = 7 ∨ o = 13 ∨ o = 14) ∧ okN 1 a ∧ okN 1 b := by rcases h with h | h | h <;> first | exact h | exact h.elim
    have := iha (.inl h.2.1)
    have := ihb (.inl h.2.2)
    simp only [shw, List.mem_cons, List.mem_append, List.not_mem_nil, or_false] at hp
    rcases hp with rfl | hp | rfl | hp | rfl
    · exact S40
    · exact iha (.inl h.2.1) p hp
    · exact SO o h.1
    · exact this p hp
    · exact S41
  | set t a iha =>
    intro h p hp
    have h : WordOk (110, t, 0) ∧ okN 1 a := by rcases h with h | h | h <;> first | exact h | exact h.elim
    simp only [shw, List.mem_cons, List.mem_append, List.not_mem_nil, or_false] at hp
    rcases hp with rfl | rfl | hp | rfl
    · exact h.1
    · exact S61
    · exact iha (.inl h.2) p hp
    · exact S59
  | put t a b iha ihb =>
    intro h p hp
    have h : WordOk (110, t, 0) ∧ okN 1 a ∧ okN 1 b := by rcases h with h | h | h <;> first | exact h | exact h.elim
    simp only [shw, List.mem_cons, List.mem_append, List.not_mem_nil, or_false] at hp
    rcases hp with rfl | rfl | hp | rfl | rfl | hp | rfl
    · exact h.1
    · exact S91
    · exact iha (.inl h.2.1) p hp
    · exact S93
    · exact S61
    · exact ihb (.inl h.2.2) p hp
    · exact S59
  | ife a b iha ihb =>
    intro h p hp
    have h : okN 1 a ∧ okN 3 b := by rcases h with h | h | h <;> first | exact h | exact h.elim
    simp only [shw, List.mem_cons, List.mem_append, List.not_mem_nil, or_false] at hp
    rcases hp with rfl | hp | rfl | hp | rfl
    · exact KI
    · exact iha (.inl h.1) p hp
    · exact S123
    · exact ihb (.inr (.inr h.2)) p hp
    · exact S125
  | ifel a b c iha ihb ihc =>
    intro h p hp
    have h : okN 1 a ∧ okN 3 b ∧ okN 3 c := by rcases h with h | h | h <;> first | exact h | exact h.elim
    simp only [shw, List.mem_cons, List.mem_append, List.not_mem_nil, or_false] at hp
    rcases hp with rfl | hp | rfl | hp | rfl | rfl | rfl | hp | rfl
    · exact KI
    · exact iha (.inl h.1) p hp
    · exact S123
    · exact ihb (.inr (.inr h.2.1)) p hp
    · exact S125
    · exact KE
    · exact S123
    · exact ihc (.inr (.inr h.2.2)) p hp
    · exact S125
  | whi a b iha ihb =>
    intro h p hp
    have h : okN 1 a ∧ okN 3 b := by rcases h with h | h | h <;> first | exact h | exact h.elim
    simp only [shw, List.mem_cons, List.mem_append, List.not_mem_nil, or_false] at hp
    rcases hp with rfl | hp | rfl | hp | rfl
    · exact KW
    · exact iha (.inl h.1) p hp
    · exact S123
    · exact ihb (.inr (.inr h.2)) p hp
    · exact S125
  | out a iha =>
    intro h p hp
    have h : okN 1 a := by rcases h with h | h | h <;> first | exact h | exact h.elim
    simp only [shw, List.mem_cons, List.mem_append, List.not_mem_nil, or_false] at hp
    rcases hp with rfl | hp | rfl
    · exact KO
    · exact iha (.inl h) p hp
    · exact S59
  | exi a iha =>
    intro h p hp
    have h : okN 1 a := by rcases h with h | h | h <;> first | exact h | exact h.elim
    simp only [shw, List.mem_cons, List.mem_append, List.not_mem_nil, or_false] at hp
    rcases hp with rfl | hp | rfl
    · exact KX
    · exact iha (.inl h) p hp
    · exact S59
  | snoc b s ihb ihs =>
    intro h p hp
    have h : okN 3 b ∧ okN 2 s := by rcases h with h | h | h <;> first | exact h | exact h.elim
    rcases List.mem_append.1 hp with hp | hp
    · exact ihb (.inr (.inr h.1)) p hp
    · exact ihs (.inr (.inl h.2)) p hp
theorem dpt_len : ∀ x : Nd, dpt x ≤ (shw x).length := by
  intro x
  induction x <;> simp only [dpt, shw, List.length_cons, List.length_append, List.length_nil] <;> omega
def nmP {α : Type} (ws : List Pc) (k : Bs → List Pc → Except Nat α) : Except Nat α := match ws with | [] => .error 0 | p :: r => if p.1 = 110 then k p.2.1 r else .error (r.length + 1)
def nbP {α : Type} (ws : List Pc) (k : Int → List Pc → Except Nat α) : Except Nat α := match ws with | [] => .error 0 | p :: r => if p.1 = 48 then k p.2.2 r else .error (r.length + 1)
abbrev Dc := Bs × Int
abbrev Rd := Except Nat (List Dc × List Pc)
/-- declarations, behind those that there are -/
def dc : Nat → List Dc → List Pc → Rd
  | 0, _, ws => .error ws.length
  | f + 1, D, ws =>
    if hdW [118, 97, 114] ws then nmP ws.tail fun t r => must [59] r fun r => dc f (D ++ [(t, -1)]) r
    else if hdW [97, 114, 114] ws then nmP ws.tail fun t r => must [91] r fun r => nbP r fun v r => must [93] r fun r => must [59] r fun r => dc f (D ++ [(t, v)]) r
    else .ok (D, ws)
def dcE (D : List Dc) (ws : List Pc) : Rd := dc (ws.length + 1) D ws
theorem nmP_congr {α : Type} {ws : List Pc} {k k' : Bs → List Pc → Except Nat α} (h : ∀ p r, ws = p :: r → k p.2.1 r = k' p.2.1 r) : nmP ws k = nmP ws k' := by
  cases ws with
  | nil => rfl
  | cons p r => show (if _ then _ else _) = (if _ then _ else _); rw [h p r rfl]
theorem nbP_congr {α : Type} {ws : List Pc} {k k' : Int → List Pc → Except Nat α} (h : ∀ p r, ws = p :: r → k p.2.2 r = k' p.2.2 r) : nbP ws k = nbP ws k' := by
  cases ws with
  | nil => rfl
  | cons p r => show (if _ then _ else _) = (if _ then _ else _); rw [h p r rfl]
theorem mustc {α : Type} {t : Bs} {ws : List Pc} {k k' : List Pc → Except Nat α} (h : ∀ p r, ws = p :: r → k r = k' r) : must t ws k = must t ws k' := by
  cases ws with
  | nil => rfl
  | cons p r => show (if _ then _ else _) = (if _ then _ else _); rw [h p r rfl]
theorem dc_step : ∀ (f : Nat) (D : List Dc) (ws : List Pc), ws.length < f → dc (f + 1) D ws = dc f D ws := by
  intro f
  induction f with
  | zero => intro D ws h; omega
  | succ f ih =>
    intro D ws h
    have ht := (List.tail_suffix ws).length_le
    show (if _ then _ else (if _ then _ else _)) = (if _ then _ else (if _ then _ else _))
    congr 1
    · refine nmP_congr fun p r e => mustc fun p2 r2 e2 => ih _ _ ?_
      have := congrArg List.length e; have := congrArg List.length e2
      simp only [List.length_cons] at *; omega
    congr 1
    refine nmP_congr fun p r e => mustc fun p2 r2 e2 => nbP_congr fun p3 r3 e3 => mustc fun p4 r4 e4 => mustc fun p5 r5 e5 => ih _ _ ?_
    have := congrArg List.length e; have := congrArg List.length e2; have := congrArg List.length e3; have := congrArg List.length e4; have := congrArg List.length e5
    simp only [List.length_cons] at *; omega
theorem dc_eq {f : Nat} {D : List Dc} {ws : List Pc} (h : ws.length < f) : dc f D ws = dcE D ws := by
  have : ∀ g, ws.length + 1 ≤ g → dc g D ws = dc (ws.length + 1) D ws := by
    intro g hg
    induction hg with
    | refl => rfl
    | step hg ih => rw [dc_step _ _ _ hg, ih]
  exact this f h
theorem dcE_eq (D : List Dc) (ws : List Pc) : dcE D ws = if hdW [118, 97, 114] ws then nmP ws.tail fun t r => must [59] r fun r => dcE (D ++ [(t, -1)]) r
    else if hdW [97, 114, 114] ws then nmP ws.tail fun t r => must [91] r fun r => nbP r fun v r => must [93] r fun r => must [59] r fun r => dcE (D ++ [(t, v)]) r
    else .ok (D, ws) := by
  have ht := (List.tail_suffix ws).length_le
  show (if _ then _ else (if _ then _ else _)) = (if _ then _ else (if _ then _ else _))
  congr 1
  · refine nmP_congr fun p r e => mustc fun p2 r2 e2 => dc_eq ?_
    have := congrArg List.length e; have := congrArg List.length e2
    simp only [List.length_cons] at *; omega
  congr 1
  refine nmP_congr fun p r e => mustc fun p2 r2 e2 => nbP_congr fun p3 r3 e3 => mustc fun p4 r4 e4 => mustc fun p5 r5 e5 => dc_eq ?_
  have := congrArg List.length e; have := congrArg List.length e2; have := congrArg List.length e3; have := congrArg List.length e4; have := congrArg List.length e5
  simp only [List.length_cons] at *; omega
theorem nmP_ok {α : Type} {ws : List Pc} {k : Bs → List Pc → Except Nat α} {y : α} (h : nmP ws k = .ok y) : ∃ p r, ws = p :: r ∧ p.1 = 110 ∧ k p.2.1 r = .ok y := by
  cases ws with
  | nil => cases h
  | cons p r =>
    have h : (if p.1 = 110 then k p.2.1 r else .error (r.length + 1)) = .ok y := h
    split at h
    · exact ⟨p, r, rfl, ‹_›, h⟩
    · cases h
theorem nbP_ok {α : Type} {ws : List Pc} {k : Int → List Pc → Except Nat α} {y : α} (h : nbP ws k = .ok y) : ∃ p r, ws = p :: r ∧ p.1 = 48 ∧ k p.2.2 r = .ok y := by
  cases ws with
  | nil => cases h
  | cons p r =>
    have h : (if p.1 = 48 then k p.2.2 r else .error (r.length + 1)) = .ok y := h
    split at h
    · exact ⟨p, r, rfl, ‹_›, h⟩
    · cases h
theorem hdW_cons {t : Bs} {ws : List Pc} (h : hdW t ws = true) : ∃ p r, ws = p :: r ∧ isW t p = true := by
  cases ws with
  | nil => cases h
  | cons p r => exact ⟨p, r, rfl, h⟩
/-- a declaration is right: a name, and a number of 32 bits or -1 -/
def okD (D : List Dc) : Prop := ∀ x ∈ D, WordOk (110, x.1, 0) ∧ (x.2 = -1 ∨ (0 ≤ x.2 ∧ x.2 ≤ 4294967295))
/-- neither declaration -/
def noD (ws : List Pc) : Prop := hdW [118, 97, 114] ws = false ∧ hdW [97, 114, 114] ws = false
theorem dcE_no {D : List Dc} {ws : List Pc} (h : noD ws) : dcE D ws = .ok (D, ws) := by
  rw [dcE_eq, h.1, h.2]; rfl
/-- what declarations leave; that they are right; with more words behind them -/
theorem dc_any : ∀ (n : Nat) (ws : List Pc), ws.length ≤ n → ∀ (D D' : List Dc) (r : List Pc), dcE D ws = .ok (D', r) →
    (∃ D2, D' = D ++ D2 ∧ ((∀ p ∈ ws, WordOk p) → okD D2)) ∧ r <:+ ws ∧ noD r ∧ (∀ m, (r ≠ [] ∨ noD m) → dcE D (ws ++ m) = .ok (D', r ++ m)) := by
  intro n
  induction n with
  | zero =>
    intro ws hn D D' r h
    obtain rfl : ws = [] := List.eq_nil_of_length_eq_zero (by omega)
    have h : Except.ok (D, []) = (Except.ok (D', r) : Rd) := h
    injection h with h; injection h with e1 e2
    subst e1 e2
    exact ⟨⟨[], (List.append_nil _).symm, fun _ x hx => by cases hx⟩, List.suffix_refl _, ⟨rfl, rfl⟩, fun m hm => by
      rcases hm with hm | hm
      · exact absurd rfl hm
      · exact dcE_no hm⟩
  | succ n ih =>
    intro ws hn D D' r h
    rw [dcE_eq] at h
    split at h
    · rename_i c1
      obtain ⟨p0, r0, rfl, hp0⟩ := hdW_cons c1
      obtain ⟨p1, r1, e1, h1, h2⟩ := nmP_ok h
      obtain ⟨p2, r2, rfl, h3, h4⟩ := must_ok h2
      obtain rfl : r0 = p1 :: p2 :: r2 := e1
      obtain ⟨⟨D2, e2, k2⟩, k3, k4, k5⟩ := ih r2 (by simp only [List.length_cons] at hn; omega) _ _ _ h4
      refine ⟨⟨(p1.2.1, -1) :: D2, by rw [e2]; simp, fun hw x hx => ?_⟩, k3.trans ((List.suffix_cons _ _).trans ((List.suffix_cons _ _).trans (List.suffix_cons _ _))), k4, fun m hm => ?_⟩
      · rcases List.mem_cons.1 hx with rfl | hx
        · exact ⟨ok_name (hw p1 (by simp)) h1, .inl rfl⟩
        · exact k2 (fun q hq => hw q (by simp [hq])) x hx
      · rw [dcE_eq]
        rw [if_pos (show hdW [118, 97, 114] (p0 :: p1 :: p2 :: r2 ++ m) = true from hp0)]
        show (if p1.1 = 110 then (must [59] (p2 :: (r2 ++ m)) fun r => dcE (D ++ [(p1.2.1, -1)]) r) else _) = _
        rw [if_pos h1, must_is h3]
        exact k5 m hm
    split at h
    · rename_i c1 c2
      obtain ⟨p0, r0, rfl, hp0⟩ := hdW_cons c2
      obtain ⟨p1, r1, e1, h1, h2⟩ := nmP_ok h
      obtain ⟨p2, r2, rfl, h3, h4⟩ := must_ok h2
      obtain ⟨p3, r3, rfl, h5, h6⟩ := nbP_ok h4
      obtain ⟨p4, r4, rfl, h7, h8⟩ := must_ok h6
      obtain ⟨p5, r5, rfl, h9, h10⟩ := must_ok h8
      obtain rfl : r0 = p1 :: p2 :: p3 :: p4 :: p5 :: r5 := e1
      obtain ⟨⟨D2, e2, k2⟩, k3, k4, k5⟩ := ih r5 (by simp only [List.length_cons] at hn; omega) _ _ _ h10
      refine ⟨⟨(p1.2.1, p3.2.2) :: D2, by rw [e2]; simp, fun hw x hx => ?_⟩, k3.trans ((List.suffix_cons _ _).trans ((List.suffix_cons _ _).trans ((List.suffix_cons _ _).trans ((List.suffix_cons _ _).trans ((List.suffix_cons _ _).trans (List.suffix_cons _ _)))))), k4, fun m hm => ?_⟩
      · rcases List.mem_cons.1 hx with rfl | hx
        · have := hw p3 (by simp)
          exact ⟨ok_name (hw p1 (by simp)) h1, .inr ⟨this.v0, this.v1⟩⟩
        · exact k2 (fun q hq => hw q (by simp [hq])) x hx
      · rw [dcE_eq]
        rw [if_neg (show ¬ (hdW [118, 97, 114] (p0 :: p1 :: p2 :: p3 :: p4 :: p5 :: r5 ++ m) = true) from c1), if_pos (show hdW [97, 114, 114] (p0 :: p1 :: p2 :: p3 :: p4 :: p5 :: r5 ++ m) = true from hp0)]
        show (if p1.1 = 110 then (must [91] (p2 :: p3 :: p4 :: p5 :: (r5 ++ m)) fun r => nbP r fun v r => must [93] r fun r => must [59] r fun r => dcE (D ++ [(p1.2.1, v)]) r) else _) = _
        rw [if_pos h1, must_is h3]
        show (if p3.1 = 48 then (must [93] (p4 :: p5 :: (r5 ++ m)) fun r => must [59] r fun r => dcE (D ++ [(p1.2.1, p3.2.2)]) r) else _) = _
        rw [if_pos h5, must_is h7, must_is h9]
        exact k5 m hm
    · rename_i c1 c2
      injection h with h; injection h with e1 e2
      subst e1 e2
      have nd : noD ws := ⟨by simpa using c1, by simpa using c2⟩
      exact ⟨⟨[], (List.append_nil _).symm, fun _ x hx => by cases hx⟩, List.suffix_refl _, nd, fun m hm => dcE_no (by
        by_cases hw : ws = []
        · subst hw
          rcases hm with hm | hm
          · exact absurd rfl hm
          · exact hm
        · exact ⟨(hdW_app m hw).trans nd.1, (hdW_app m hw).trans nd.2⟩)⟩
/-- a program's words -/
def prg (ws : List Pc) : Except Nat (List Dc × Nd × Nat) :=
  match dcE [] ws with
  | .error k => .error k
  | .ok (D, r) => match grE (.L .nil 0 false) r with
    | .error k => .error k
    | .ok (b, _, d) => .ok (D, b, d)
theorem prg_ok {ws : List Pc} {D : List Dc} {b : Nd} {d : Nat} (h : prg ws = .ok (D, b, d)) : ∃ r, dcE [] ws = .ok (D, r) ∧ grE (.L .nil 0 false) r = .ok (b, [], d) := by
  unfold prg at h
  split at h
  · cases h
  · rename_i D' r e
    split at h
    · cases h
    · rename_i b' s d' e2
      injection h with h; injection h with e3 h; injection h with e4 e5
      subst e3 e4 e5
      exact ⟨r, e, by rw [← L_false_nil _ _ _ _ _ _ _ e2]; exact e2⟩
theorem prg_is {ws : List Pc} {D : List Dc} {b : Nd} {d : Nat} {r s : List Pc} (h1 : dcE [] ws = .ok (D, r)) (h2 : grE (.L .nil 0 false) r = .ok (b, s, d)) : prg ws = .ok (D, b, d) := by
  unfold prg; rw [h1]; simp only [h2]
theorem prg_er {ws : List Pc} {D : List Dc} {k : Nat} {r : List Pc} (h1 : dcE [] ws = .ok (D, r)) (h2 : grE (.L .nil 0 false) r = .error k) : prg ws = .error k := by
  unfold prg; rw [h1]; simp only [h2]
theorem prg_kd {ws : List Pc} (hw : ∀ p ∈ ws, WordOk p) {D : List Dc} {b : Nd} {d : Nat} (h : prg ws = .ok (D, b, d)) : okD D ∧ okN 3 b := by
  obtain ⟨r, h1, h2⟩ := prg_ok h
  obtain ⟨⟨D2, e, k⟩, hs, _, _⟩ := dc_any _ ws (Nat.le_refl _) _ _ _ h1
  rw [List.nil_append] at e
  subst e
  exact ⟨k hw, ((gr_kd _ (.L .nil 0 false) r (fun p hp => hw p (hs.subset hp)) trivial).ok b [] d h2).1⟩
/-- two programs, the second without declarations, one behind the other -/
theorem prg_join {w1 w2 : List Pc} (k2 : ∀ p ∈ w2, WordOk p) {D : List Dc} {b1 b2 : Nd} {d1 d2 : Nat} (h1 : prg w1 = .ok (D, b1, d1)) (h2 : prg w2 = .ok ([], b2, d2)) : prg (w1 ++ w2) = .ok (D, appN b1 b2, max d1 d2) := by
  obtain ⟨r1, a1, a2⟩ := prg_ok h1
  obtain ⟨r2, c1, c2⟩ := prg_ok h2
  have n2 : noD w2 := by
    obtain ⟨⟨D2, e, _⟩, _, _, _⟩ := dc_any _ w2 (Nat.le_refl _) _ _ _ c1
    constructor
    · cases hh : hdW [118, 97, 114] w2 with
      | false => rfl
      | true =>
        exfalso
        rw [dcE_eq, if_pos hh] at c1
        obtain ⟨p1, r1, e1, h1, h2⟩ := nmP_ok c1
        obtain ⟨p2, r2, rfl, h3, h4⟩ := must_ok h2
        obtain ⟨⟨D2, e, _⟩, _⟩ := dc_any _ r2 (Nat.le_refl _) _ _ _ h4
        simp at e
    · cases hh : hdW [97, 114, 114] w2 with
      | false => rfl
      | true =>
        exfalso
        rw [dcE_eq] at c1
        split at c1
        · obtain ⟨p1, r1, e1, h1, h2⟩ := nmP_ok c1
          obtain ⟨p2, r2, rfl, h3, h4⟩ := must_ok h2
          obtain ⟨⟨D2, e, _⟩, _⟩ := dc_any _ r2 (Nat.le_refl _) _ _ _ h4
          simp at e
        obtain ⟨p1, r1, e1, h1, h2⟩ := nmP_ok c1
        obtain ⟨p2, r2, rfl, h3, h4⟩ := must_ok h2
        obtain ⟨p3, r3, rfl, h5, h6⟩ := nbP_ok h4
        obtain ⟨p4, r4, rfl, h7, h8⟩ := must_ok h6
        obtain ⟨p5, r5, rfl, h9, h10⟩ := must_ok h8
        obtain ⟨⟨D2, e, _⟩, _⟩ := dc_any _ r5 (Nat.le_refl _) _ _ _ h10
        simp at e
  rw [dcE_no n2] at c1
  injection c1 with c1; injection c1 with _ c1
  subst c1
  obtain ⟨_, _, _, hm⟩ := dc_any _ w1 (Nat.le_refl _) _ _ _ a1
  exact prg_is (hm w2 (.inr n2)) (grE_join a2 c2 k2)
/-- the words of declarations -/
def shD (D : List Dc) : List Pc := D.flatMap fun x => if x.2 = -1 then [kyW [118, 97, 114], nmW x.1, sgW [59]] else [kyW [97, 114, 114], nmW x.1, sgW [91], nbW x.2, sgW [93], sgW [59]]
theorem shD_cons (x : Dc) (D : List Dc) : shD (x :: D) = (if x.2 = -1 then [kyW [118, 97, 114], nmW x.1, sgW [59]] else [kyW [97, 114, 114], nmW x.1, sgW [91], nbW x.2, sgW [93], sgW [59]]) ++ shD D := rfl
theorem shD_ok {D : List Dc} (h : okD D) : ∀ p ∈ shD D, WordOk p := by
  intro p hp
  obtain ⟨x, hx, hp⟩ := List.mem_flatMap.1 hp
  obtain ⟨h1, h2⟩ := h x hx
  have K := fun (t : Bs) (h : wordL t = some (sgW t)) => word_sg t h
  split at hp
  · simp only [List.mem_cons, List.not_mem_nil, or_false] at hp
    rcases hp with rfl | rfl | rfl
    · exact word_ky _ rfl
    · exact h1
    · exact K _ rfl
  · simp only [List.mem_cons, List.not_mem_nil, or_false] at hp
    rcases hp with rfl | rfl | rfl | rfl | rfl | rfl
    · exact word_ky _ rfl
    · exact h1
    · exact K _ rfl
    · exact word_dig _ (by omega) (by omega)
    · exact K _ rfl
    · exact K _ rfl
theorem dc_shD : ∀ (D : List Dc) (D0 : List Dc) (r : List Pc), noD r → dcE D0 (shD D ++ r) = .ok (D0 ++ D, r) := by
  intro D
  induction D with
  | nil => intro D0 r h; rw [List.append_nil]; exact dcE_no h
  | cons x D ih =>
    intro D0 r h
    rw [shD_cons]
    split
    · rename_i hx
      show dcE D0 (kyW [118, 97, 114] :: nmW x.1 :: sgW [59] :: (shD D ++ r)) = _
      rw [dcE_eq, if_pos (by rfl)]
      show dcE (D0 ++ [(x.1, -1)]) (shD D ++ r) = _
      rw [ih _ _ h]
      obtain ⟨t, v⟩ := x
      simp only at hx
      subst hx
      simp
    · rename_i hx
      show dcE D0 (kyW [97, 114, 114] :: nmW x.1 :: sgW [91] :: nbW x.2 :: sgW [93] :: sgW [59] :: (shD D ++ r)) = _
      rw [dcE_eq, if_neg (show ¬ (hdW [118, 97, 114] (kyW [97, 114, 114] :: _) = true) from Bool.false_ne_true), if_pos (by rfl)]
      show dcE (D0 ++ [(x.1, x.2)]) (shD D ++ r) = _
      rw [ih _ _ h]
      simp
/-- a program's words, shown -/
def shP (D : List Dc) (b : Nd) : List Pc := shD D ++ shw b
theorem blk_head {b : Nd} (h : okN 3 b) : noD (shw b) ∧ (1 ≤ lenN b → 2 ≤ (shw b).length ∧ ∃ l z, shw b = l ++ [z] ∧ l ≠ [] ∧ (z = sgW [59] ∨ z = sgW [125])) := by
  have st : ∀ s, okN 2 s → noD (shw s) ∧ ∃ l z, shw s = l ++ [z] ∧ l ≠ [] ∧ (z = sgW [59] ∨ z = sgW [125]) := by
    have nm : ∀ t r, WordOk (110, t, 0) → noD (nmW t :: r) := fun t r h => ⟨name_not h (.inr (by decide)), name_not h (.inr (by decide))⟩
    intro s hs
    cases s with
    | set t a => exact ⟨nm t _ hs.1, nmW t :: sgW [61] :: shw a, sgW [59], by simp [shw], by simp, .inl rfl⟩
    | put t a b => exact ⟨nm t _ hs.1, nmW t :: sgW [91] :: (shw a ++ sgW [93] :: sgW [61] :: shw b), sgW [59], by simp [shw], by simp, .inl rfl⟩
    | ife a b => exact ⟨⟨rfl, rfl⟩, kyW [105, 102] :: (shw a ++ sgW [123] :: shw b), sgW [125], by simp [shw], by simp, .inr rfl⟩
    | ifel a b c => exact ⟨⟨rfl, rfl⟩, kyW [105, 102] :: (shw a ++ sgW [123] :: (shw b ++ sgW [125] :: kyW [101, 108, 115, 101] :: sgW [123] :: shw c)), sgW [125], by simp [shw], by simp, .inr rfl⟩
    | whi a b => exact ⟨⟨rfl, rfl⟩, kyW [119, 104, 105, 108, 101] :: (shw a ++ sgW [123] :: shw b), sgW [125], by simp [shw], by simp, .inr rfl⟩
    | out a => exact ⟨⟨rfl, rfl⟩, kyW [111, 117, 116] :: shw a, sgW [59], by simp [shw], by simp, .inl rfl⟩
    | exi a => exact ⟨⟨rfl, rfl⟩, kyW [101, 120, 105, 116] :: shw a, sgW [59], by simp [shw], by simp, .inl rfl⟩
    | _ => exact hs.elim
  induction b with
  | nil => exact ⟨⟨rfl, rfl⟩, fun h => by simp [lenN] at h⟩
  | snoc b s ihb ihs =>
    obtain ⟨i1, i2⟩ := ihb h.1
    obtain ⟨s1, l, z, e, hl, hz⟩ := st s h.2
    refine ⟨?_, fun _ => ⟨?_, shw b ++ l, z, ?_, by simp [hl], hz⟩⟩
    · show noD (shw b ++ shw s)
      by_cases hb : shw b = []
      · rw [hb]; exact s1
      · exact ⟨(hdW_app _ hb).trans i1.1, (hdW_app _ hb).trans i1.2⟩
    · show 2 ≤ (shw b ++ shw s).length
      cases l with
      | nil => exact absurd rfl hl
      | cons p l => rw [List.length_append, e]; simp only [List.length_append, List.length_cons, List.length_nil]; omega
    · show shw b ++ shw s = _
      rw [e, List.append_assoc]
  | _ => exact h.elim
theorem shP_ok {D : List Dc} {b : Nd} (hD : okD D) (hb : okN 3 b) : ∀ p ∈ shP D b, WordOk p := fun p hp => by
  rcases List.mem_append.1 hp with hp | hp
  · exact shD_ok hD p hp
  · exact shw_ok b (.inr (.inr hb)) p hp
/-- what is shown is read as it was -/
theorem prg_shP {D : List Dc} {b : Nd} (hb : okN 3 b) : prg (shP D b) = .ok (D, b, dpt b) := by
  have h1 := dc_shD D [] (shw b) (blk_head hb).1
  rw [List.nil_append] at h1
  refine prg_is h1 (s := []) ?_
  have := (read_shw b).2.2 hb false [] rfl
  rw [List.append_nil] at this
  rw [this, grE_L, if_pos rfl]
/-- statements one behind the other: what the second ones come to is what comes -/
theorem grE_join' {w2 : List Pc} (hm : hdW [101, 108, 115, 101] w2 = false) : ∀ (n : Nat) (w1 : List Pc), w1.length ≤ n → ∀ (b : Nd) (d : Nat) (b1 : Nd) (d1 : Nat), grE (.L b d false) w1 = .ok (b1, [], d1) → grE (.L b d false) (w1 ++ w2) = grE (.L b1 d1 false) w2 := by
  intro n
  induction n with
  | zero =>
    intro w1 hn b d b1 d1 h
    obtain rfl : w1 = [] := List.eq_nil_of_length_eq_zero (by omega)
    rw [grE_L, if_pos rfl] at h
    injection h with h; injection h with e1 h; injection h with _ e3
    subst e1 e3
    rfl
  | succ n ih =>
    intro w1 hn b d b1 d1 h
    by_cases hw : w1 = []
    · subst hw
      rw [grE_L, if_pos rfl] at h
      injection h with h; injection h with e1 h; injection h with _ e3
      subst e1 e3
      rfl
    rw [grE_L, if_neg hw, Bool.false_and, if_neg (by decide)] at h
    obtain ⟨a, s, d2, h3, h4⟩ := bnd_ok h
    have hl := ((grE_suf .T w1).ok a s d2 h3).2 rfl
    have hT : grE .T (w1 ++ w2) = .ok (a, s ++ w2, d2) := by
      have h3' : gr (8 * w1.length + 7) .T w1 = .ok (a, s, d2) := h3
      by_cases hs : s = []
      · subst hs
        exact grE_of (gr_T_end h3' hm)
      · exact grE_of ((gr_ext w2 _ .T w1).ok a s d2 h3' hs)
    rw [grE_L, if_neg (fun e => hw (List.append_eq_nil_iff.1 e).1), Bool.false_and, if_neg (by decide), bnd_is hT]
    exact ih s (by omega) _ _ _ _ h4
/-- without its last word it is none: words are missing -/
theorem prg_cut {D : List Dc} {b : Nd} (hb : okN 3 b) (h1 : 1 ≤ lenN b) : ∃ l z, shP D b = l ++ [z] ∧ (z = sgW [59] ∨ z = sgW [125]) ∧ l ≠ [] ∧ prg l = .error 0 := by
  obtain ⟨nd, hh⟩ := blk_head hb
  obtain ⟨_, l, z, e, hl, hz⟩ := hh h1
  refine ⟨shD D ++ l, z, by unfold shP; rw [e, List.append_assoc], hz, by simp [hl], ?_⟩
  have nl : noD l := ⟨by rw [← hdW_app [z] hl, ← e]; exact nd.1, by rw [← hdW_app [z] hl, ← e]; exact nd.2⟩
  have hd := dc_shD D [] l nl
  have full : grE (.L .nil 0 false) (l ++ [z]) = .ok (b, [], dpt b) := by
    have := (read_shw b).2.2 hb false [] rfl
    rw [List.append_nil] at this
    rw [← e, this, grE_L, if_pos rfl]
  cases h : grE (.L .nil 0 false) l with
  | ok y =>
    exfalso
    obtain ⟨b1, s, d1⟩ := y
    obtain rfl := L_false_nil _ _ _ _ _ _ _ h
    have := grE_join' (w2 := [z]) (by rcases hz with rfl | rfl <;> rfl) _ l (Nat.le_refl _) _ _ _ _ h
    rw [full, grE_L, if_neg (by simp), Bool.false_and, if_neg (by decide), grE_T] at this
    rcases hz with rfl | rfl <;> cases this
  | error k =>
    rw [prg_er hd h]
    rcases Nat.eq_zero_or_pos k with rfl | hk
    · rfl
    · exfalso
      have h' : gr (8 * l.length + 7) (.L .nil 0 false) l = .error k := h
      have h2 := (gr_ext [z] _ _ l).er k h' hk
      have h3 := gr_up1 (8 * l.length + 7) (.L .nil 0 false) (l ++ [z])
      have f1 : grE (.L .nil 0 false) (l ++ [z]) = gr (8 * l.length + 15) (.L .nil 0 false) (l ++ [z]) := by
        unfold grE; rw [List.length_append]; rfl
      have h4 : gr (8 * l.length + 7) (.L .nil 0 false) l = gr (8 * l.length + 15) (.L .nil 0 false) l := (gr_enough (by simp only [fuelQ]; omega) _ (by omega)).symm
      have h5 := (gr_ext [z] (8 * l.length + 15) _ l).er k (h4 ▸ h') hk
      rw [← f1, full] at h5
      cases h5
/-- words' text: a blank between two -/
def txtW (ws : List Pc) : Bs := (gapsL [32] ws).drop 1
theorem txtW_cons (p : Pc) (ws : List Pc) : txtW (p :: ws) = p.2.1 ++ gapsL [32] ws := rfl
theorem txt_gap (ws : List Pc) (h : ws ≠ []) : 32 :: txtW ws = gapsL [32] ws := by
  cases ws with
  | nil => exact absurd rfl h
  | cons p r => rfl
theorem read_txt {ws : List Pc} (h : ∀ p ∈ ws, WordOk p) : readL (txtW ws) = .ok ws := by
  by_cases hw : ws = []
  · subst hw; rfl
  have e := read_back (g := [32]) (by intro c hc; rcases List.mem_singleton.1 hc with rfl; decide) (by simp) h
  rw [← txt_gap ws hw, read_gap (by decide)] at e
  cases hr : readL (txtW ws) with
  | ok y => rw [hr] at e; injection e with e; rw [e]
  | error k => rw [hr] at e; cases e
theorem gaps_len (ws : List Pc) : (gapsL [32] ws).length = ws.length + (ws.map fun p => p.2.1.length).sum := by
  induction ws with
  | nil => rfl
  | cons p r ih =>
    have : gapsL [32] (p :: r) = 32 :: (p.2.1 ++ gapsL [32] r) := rfl
    rw [this]
    simp only [List.length_cons, List.length_append, List.map_cons, List.sum_cons, ih]
    omega
theorem txt_len {ws : List Pc} (h : ∀ p ∈ ws, WordOk p) : 2 * ws.length ≤ (txtW ws).length + 1 := by
  unfold txtW
  rw [List.length_drop, gaps_len]
  have := sum_count h
  omega
/-- a text without its last word -/
theorem txt_cut {l : List Pc} {z : Pc} (hz : z = sgW [59] ∨ z = sgW [125]) (hl : l ≠ []) : (txtW (l ++ [z])).take ((txtW (l ++ [z])).length - 1) = txtW l ++ [32] := by
  have e : txtW (l ++ [z]) = txtW l ++ [32] ++ z.2.1 := by
    cases l with
    | nil => exact absurd rfl hl
    | cons p r =>
      rw [List.cons_append, txtW_cons, gaps_snoc, txtW_cons]
      simp [List.append_assoc]
  have e1 : z.2.1.length = 1 := by rcases hz with rfl | rfl <;> rfl
  rw [e, List.length_append, e1, Nat.add_sub_cancel, List.take_left']
  rfl
theorem read_cut {l : List Pc} (h : ∀ p ∈ l, WordOk p) : readL (txtW l ++ [32]) = .ok l := by
  have := read_parts _ (txtW l) [] (Nat.le_refl _)
  rw [this, read_txt h]
  show Except.ok (l ++ []) = _
  rw [List.append_nil]
/-- a node: its kind, up to three others, a name, a number, a block's statements -/
structure NdR where
  k : Int
  a : Int
  b : Int
  c : Int
  t : Bs
  v : Int
  l : List Int
deriving DecidableEq
def nd0 : NdR := ⟨0, 0, 0, 0, [], 0, []⟩
/-- where the last node of it lies -/
def rt (n : Nat) (x : Nd) : Int := ((n + cnt x - 1 : Nat) : Int)
/-- places of a block's statements -/
def lst (n : Nat) : Nd → List Int
  | .snoc b s => lst n b ++ [rt (n + (cnt b - 1)) s]
  | _ => []
/-- the nodes, the first at a place; of a block: its statements' -/
def fl : Nat → Nd → List NdR
  | _, .num v => [⟨1, -1, -1, -1, [], v, []⟩]
  | _, .var t => [⟨2, -1, -1, -1, t, 0, []⟩]
  | n, .get t a => fl n a ++ [⟨3, rt n a, -1, -1, t, 0, []⟩]
  | _, .inp => [⟨4, -1, -1, -1, [], 0, []⟩]
  | n, .neg a => fl n a ++ [⟨5, rt n a, -1, -1, [], 0, []⟩]
  | n, .bin o a b => fl n a ++ fl (n + cnt a) b ++ [⟨6, rt n a, rt (n + cnt a) b, -1, [], o, []⟩]
  | n, .set t a => fl n a ++ [⟨7, rt n a, -1, -1, t, 0, []⟩]
  | n, .put t a b => fl n a ++ fl (n + cnt a) b ++ [⟨8, rt n a, rt (n + cnt a) b, -1, t, 0, []⟩]
  | n, .ife a b => fl n a ++ (fl (n + cnt a) b ++ [⟨13, -1, -1, -1, [], 0, lst (n + cnt a) b⟩]) ++ [⟨9, rt n a, rt (n + cnt a) b, -1, [], 0, []⟩]
  | n, .ifel a b c => fl n a ++ (fl (n + cnt a) b ++ [⟨13, -1, -1, -1, [], 0, lst (n + cnt a) b⟩]) ++ (fl (n + cnt a + cnt b) c ++ [⟨13, -1, -1, -1, [], 0, lst (n + cnt a + cnt b) c⟩]) ++ [⟨9, rt n a, rt (n + cnt a) b, rt (n + cnt a + cnt b) c, [], 0, []⟩]
  | n, .whi a b => fl n a ++ (fl (n + cnt a) b ++ [⟨13, -1, -1, -1, [], 0, lst (n + cnt a) b⟩]) ++ [⟨10, rt n a, rt (n + cnt a) b, -1, [], 0, []⟩]
  | n, .out a => fl n a ++ [⟨11, rt n a, -1, -1, [], 0, []⟩]
  | n, .exi a => fl n a ++ [⟨12, rt n a, -1, -1, [], 0, []⟩]
  | _, .nil => []
  | n, .snoc b s => fl n b ++ fl (n + (cnt b - 1)) s
/-- a block's nodes, its own the last -/
def flB (n : Nat) (b : Nd) : List NdR := fl n b ++ [⟨13, -1, -1, -1, [], 0, lst n b⟩]
def isBl : Nd → Bool | .nil => true | .snoc _ _ => true | _ => false
theorem isBl_ok {x : Nd} : (okN 1 x ∨ okN 2 x → isBl x = false) ∧ (okN 3 x → isBl x = true) := by
  constructor
  · intro h; cases x <;> first | rfl | (rcases h with h | h <;> exact h.elim)
  · intro h; cases x <;> first | rfl | exact h.elim
theorem fl_len : ∀ (x : Nd) (n : Nat), okN 1 x ∨ okN 2 x ∨ okN 3 x → (fl n x).length + (if isBl x then 1 else 0) = cnt x := by
  intro x
  induction x with
  | num v => intros; rfl
  | var t => intros; rfl
  | inp => intros; rfl
  | nil => intros; rfl
  | get t a iha | neg a iha =>
    intro n h
    have h : okN 1 a := by rcases h with h | h | h <;> first | exact h | exact h.2 | exact h.elim
    have := iha n (.inl h)
    rw [(isBl_ok (x := a)).1 (.inl h)] at this
    simp only [fl, cnt, isBl, List.length_append, List.length_cons, List.length_nil] at *
    simp at this ⊢; omega
  | set t a iha | out a iha | exi a iha =>
    intro n h
    have h : okN 1 a := by rcases h with h | h | h <;> first | exact h | exact h.2 | exact h.elim
    have := iha n (.inl h)
    rw [(isBl_ok (x := a)).1 (.inl h)] at this
    simp only [fl, cnt, isBl, List.length_append, List.length_cons, List.length_nil] at *
    simp at this ⊢; omega
  | bin o a b iha ihb | put t a b iha ihb =>
    intro n h
    have h : okN 1 a ∧ okN 1 b := by rcases h with h | h | h <;> first | exact h.2 | exact h.elim
    have h1 := iha n (.inl h.1)
    have h2 := ihb (n + cnt a) (.inl h.2)
    rw [(isBl_ok (x := a)).1 (.inl h.1)] at h1
    rw [(isBl_ok (x := b)).1 (.inl h.2)] at h2
    simp only [fl, cnt, isBl, List.length_append, List.length_cons, List.length_nil] at *
    simp at h1 h2 ⊢; omega
  | ife a b iha ihb | whi a b iha ihb =>
    intro n h
    have h : okN 1 a ∧ okN 3 b := by rcases h with h | h | h <;> first | exact h | exact h.elim
    have h1 := iha n (.inl h.1)
    have h2 := ihb (n + cnt a) (.inr (.inr h.2))
    rw [(isBl_ok (x := a)).1 (.inl h.1)] at h1
    rw [(isBl_ok (x := b)).2 h.2] at h2
    simp only [fl, cnt, isBl, List.length_append, List.length_cons, List.length_nil] at *
    simp at h1 h2 ⊢; omega
  | ifel a b c iha ihb ihc =>
    intro n h
    have h : okN 1 a ∧ okN 3 b ∧ okN 3 c := by rcases h with h | h | h <;> first | exact h | exact h.elim
    have h1 := iha n (.inl h.1)
    have h2 := ihb (n + cnt a) (.inr (.inr h.2.1))
    have h3 := ihc (n + cnt a + cnt b) (.inr (.inr h.2.2))
    rw [(isBl_ok (x := a)).1 (.inl h.1)] at h1
    rw [(isBl_ok (x := b)).2 h.2.1] at h2
    rw [(isBl_ok (x := c)).2 h.2.2] at h3
    simp only [fl, cnt, isBl, List.length_append, List.length_cons, List.length_nil] at *
    simp at h1 h2 h3 ⊢; omega
  | snoc b s ihb ihs =>
    intro n h
    have h : okN 3 b ∧ okN 2 s := by rcases h with h | h | h <;> first | exact h | exact h.elim
    have h1 := ihb n (.inr (.inr h.1))
    have h2 := ihs (n + (cnt b - 1)) (.inr (.inl h.2))
    rw [(isBl_ok (x := b)).2 h.1] at h1
    rw [(isBl_ok (x := s)).1 (.inr h.2)] at h2
    simp only [fl, cnt, isBl, List.length_append] at *
    simp at h1 h2 ⊢; omega
theorem flB_len {b : Nd} (n : Nat) (h : okN 3 b) : (flB n b).length = cnt b := by
  have := fl_len b n (.inr (.inr h))
  rw [(isBl_ok (x := b)).2 h] at this
  unfold flB
  rw [List.length_append]
  simp at this ⊢; omega
/-- a part of a row -/
def PartN (G : List NdR) (n : Nat) (L : List NdR) : Prop := ∀ k, k < L.length → G.getD (n + k) nd0 = L.getD k nd0
theorem PartN.app {G : List NdR} {n : Nat} {L M : List NdR} (h : PartN G n (L ++ M)) : PartN G n L ∧ PartN G (n + L.length) M := by
  constructor
  · intro k hk
    rw [h k (by rw [List.length_append]; omega), List.getD_eq_getElem?_getD, List.getElem?_append_left hk, ← List.getD_eq_getElem?_getD]
  · intro k hk
    rw [Nat.add_assoc, h (L.length + k) (by rw [List.length_append]; omega), List.getD_eq_getElem?_getD, List.getElem?_append_right (by omega), ← List.getD_eq_getElem?_getD]
    congr 1; omega
theorem PartN.one {G : List NdR} {n : Nat} {r : NdR} (h : PartN G n [r]) : G.getD n nd0 = r := h 0 (by simp)
/-- a node is behind those that it has, which are of kinds that it may have -/
structure OrdN (G : List NdR) (i : Nat) (n : NdR) : Prop where
  k1 : 1 ≤ n.k ∧ n.k ≤ 13
  a : (n.k = 3 ∨ (5 ≤ n.k ∧ n.k ≤ 12)) ↔ 0 ≤ n.a
  b : (n.k = 6 ∨ (8 ≤ n.k ∧ n.k ≤ 10)) ↔ 0 ≤ n.b
  c : 0 ≤ n.c → n.k = 9
  lt : n.a < i ∧ n.b < i ∧ n.c < i
  ka : 0 ≤ n.a → (G.getD n.a.toNat nd0).k ≤ 6
  kb : 0 ≤ n.b → ((n.k = 6 ∨ n.k = 8) ↔ (G.getD n.b.toNat nd0).k ≤ 6)
  kc : 0 ≤ n.c → (G.getD n.c.toNat nd0).k = 13
  l : ∀ j ∈ n.l, n.k = 13 ∧ 0 ≤ j ∧ j < i ∧ 7 ≤ (G.getD j.toNat nd0).k ∧ (G.getD j.toNat nd0).k ≤ 12
def AllN (G : List NdR) (n : Nat) (L : List NdR) : Prop := ∀ k, k < L.length → OrdN G (n + k) (G.getD (n + k) nd0)
theorem AllN.app {G : List NdR} {n : Nat} {L M : List NdR} (h : AllN G n L) (h2 : AllN G (n + L.length) M) : AllN G n (L ++ M) := by
  intro k hk
  by_cases hl : k < L.length
  · exact h k hl
  · have := h2 (k - L.length) (by rw [List.length_append] at hk; omega)
    rwa [show n + L.length + (k - L.length) = n + k by omega] at this
theorem AllN.one {G : List NdR} {n : Nat} {r : NdR} (hp : PartN G n [r]) (h : OrdN G n r) : AllN G n [r] := by
  intro k hk
  obtain rfl : k = 0 := by simpa using hk
  rw [Nat.add_zero, hp.one]; exact h
/-- the last node's kind -/
def rk : Nd → Int
  | .num _ => 1 | .var _ => 2 | .get _ _ => 3 | .inp => 4 | .neg _ => 5 | .bin _ _ _ => 6 | .set _ _ => 7 | .put _ _ _ => 8 | .ife _ _ => 9 | .ifel _ _ _ => 9 | .whi _ _ => 10 | .out _ => 11 | .exi _ => 12
  | _ => 13
theorem last_k {G : List NdR} {n : Nat} {L : List NdR} {r : NdR} (h : PartN G n (L ++ [r])) : (G.getD (n + L.length) nd0).k = r.k := by rw [h.app.2.one]
theorem fl_last (x : Nd) (n : Nat) (h : okN 1 x ∨ okN 2 x) : ∃ L r, fl n x = L ++ [r] ∧ r.k = rk x := by
  cases x with
  | num v => exact ⟨[], _, rfl, rfl⟩
  | var t => exact ⟨[], _, rfl, rfl⟩
  | inp => exact ⟨[], _, rfl, rfl⟩
  | nil => rcases h with h | h <;> exact h.elim
  | snoc b s => rcases h with h | h <;> exact h.elim
  | _ => exact ⟨_, _, rfl, rfl⟩
theorem rt_k {G : List NdR} {n : Nat} {x : Nd} (h : okN 1 x ∨ okN 2 x) (hp : PartN G n (fl n x)) : (G.getD (rt n x).toNat nd0).k = rk x := by
  obtain ⟨L, r, e, hr⟩ := fl_last x n h
  have hl := fl_len x n (h.elim .inl fun h => .inr (.inl h))
  rw [isBl_ok.1 h] at hl
  rw [e] at hp
  rw [← hr, ← last_k hp]
  rw [e, List.length_append] at hl
  unfold rt
  congr 2
  simp at hl; omega
theorem rt_kB {G : List NdR} {n : Nat} {b : Nd} (h : okN 3 b) (hp : PartN G n (flB n b)) : (G.getD (rt n b).toNat nd0).k = 13 := by
  have hl := flB_len n h
  rw [show (13 : Int) = (⟨13, -1, -1, -1, [], 0, lst n b⟩ : NdR).k from rfl, ← last_k hp]
  unfold flB at hl
  rw [List.length_append] at hl
  unfold rt
  congr 2
  simp at hl; omega
theorem rk1 {x : Nd} (h : okN 1 x) : 1 ≤ rk x ∧ rk x ≤ 6 := by
  cases x <;> first | exact h.elim | (simp [rk])
theorem rk2 {x : Nd} (h : okN 2 x) : 7 ≤ rk x ∧ rk x ≤ 12 := by
  cases x <;> first | exact h.elim | (simp [rk])
theorem fl_n1 {x : Nd} (n : Nat) (h : okN 1 x ∨ okN 2 x) : (fl n x).length = cnt x := by
  have hl := fl_len x n (h.elim .inl fun h => .inr (.inl h))
  rw [isBl_ok.1 h] at hl
  simpa using hl
theorem fl_n3 {x : Nd} (n : Nat) (h : okN 3 x) : (fl n x).length + 1 = cnt x := by
  have hl := fl_len x n (.inr (.inr h))
  rw [isBl_ok.2 h] at hl
  simpa using hl
theorem rt_lt {x : Nd} (n m : Nat) (h : n + cnt x ≤ m) : 0 ≤ rt n x ∧ rt n x < m := by
  have := cnt_pos x
  unfold rt; omega
/-- a block's statements are statements, ahead of it -/
theorem lst_ok {G : List NdR} : ∀ (b : Nd) (n m : Nat), okN 3 b → PartN G n (fl n b) → n + cnt b ≤ m + 1 → ∀ j ∈ lst n b, 0 ≤ j ∧ j < m ∧ 7 ≤ (G.getD j.toNat nd0).k ∧ (G.getD j.toNat nd0).k ≤ 12 := by
  intro b
  induction b with
  | nil => intro n m h hp hm j hj; cases hj
  | snoc b s ihb ihs =>
    intro n m h hp hm j hj
    obtain ⟨hp1, hp2⟩ := PartN.app (G := G) (n := n) (L := fl n b) (M := fl (n + (cnt b - 1)) s) hp
    have hl := fl_n3 n h.1
    have hc : cnt (b.snoc s) = cnt b + cnt s := rfl
    have := cnt_pos s
    rw [show (fl n b).length = cnt b - 1 by omega] at hp2
    rcases List.mem_append.1 hj with hj | hj
    · exact ihb n m h.1 hp1 (by omega) j hj
    · rcases List.mem_singleton.1 hj with rfl
      have h1 := rt_k (.inr h.2) hp2
      have h2 := rk2 h.2
      have h3 := rt_lt (x := s) (n + (cnt b - 1)) m (by omega)
      rw [h1]
      exact ⟨h3.1, h3.2, h2.1, h2.2⟩
  | _ => intro n m h; exact h.elim
theorem ordN_val {G : List NdR} (x : Nd) : ∀ n, (okN 1 x ∨ okN 2 x ∨ okN 3 x) → PartN G n (fl n x) → AllN G n (fl n x) := by
  have leaf : ∀ (n : Nat) (k : Int) (t : Bs) (v : Int), (k = 1 ∨ k = 2 ∨ k = 4) → PartN G n [⟨k, -1, -1, -1, t, v, []⟩] → AllN G n [⟨k, -1, -1, -1, t, v, []⟩] := by
    intro n k t v hk hp
    refine AllN.one hp ⟨by simp only; omega, by simp only; omega, by simp only; omega, by simp only; omega, by simp only; omega, by simp only; omega, by simp only; omega, by simp only; omega, fun j hj => by cases hj⟩
  have one : ∀ (n : Nat) (k : Int) (a : Nd) (t : Bs) (v : Int), okN 1 a → (AllN G n (fl n a)) → (k = 3 ∨ k = 5 ∨ k = 7 ∨ k = 11 ∨ k = 12) → PartN G n (fl n a ++ [⟨k, rt n a, -1, -1, t, v, []⟩]) → AllN G n (fl n a ++ [⟨k, rt n a, -1, -1, t, v, []⟩]) := by
    intro n k a t v ha iha hk hp
    obtain ⟨p1, p2⟩ := hp.app
    have hl := fl_n1 n (.inl ha)
    have h3 := rt_lt (x := a) n (n + (fl n a).length) (by omega)
    have h4 := rt_k (.inl ha) p1
    have h5 := rk1 ha
    refine iha.app (AllN.one p2 ⟨by simp only; omega, by simp only; omega, by simp only; omega, by simp only; omega, by simp only; omega, fun _ => by simp only; omega, by simp only; omega, by simp only; omega, fun j hj => by cases hj⟩)
  have two : ∀ (n : Nat) (k : Int) (a b : Nd) (t : Bs) (v : Int), okN 1 a → okN 1 b → (AllN G n (fl n a)) → (PartN G (n + cnt a) (fl (n + cnt a) b) → AllN G (n + cnt a) (fl (n + cnt a) b)) → (k = 6 ∨ k = 8) → PartN G n (fl n a ++ fl (n + cnt a) b ++ [⟨k, rt n a, rt (n + cnt a) b, -1, t, v, []⟩]) → AllN G n (fl n a ++ fl (n + cnt a) b ++ [⟨k, rt n a, rt (n + cnt a) b, -1, t, v, []⟩]) := by
    intro n k a b t v ha hb iha ihb hk hp
    obtain ⟨p0, p3⟩ := hp.app
    obtain ⟨p1, p2⟩ := p0.app
    have hl := fl_n1 n (.inl ha)
    have hl2 := fl_n1 (n + cnt a) (.inl hb)
    rw [hl] at p2
    have h3 := rt_lt (x := a) n (n + (fl n a ++ fl (n + cnt a) b).length) (by rw [List.length_append]; omega)
    have h3' := rt_lt (x := b) (n + cnt a) (n + (fl n a ++ fl (n + cnt a) b).length) (by rw [List.length_append]; omega)
    have h4 := rt_k (.inl ha) p1
    have h5 := rk1 ha
    have h6 := rt_k (.inl hb) p2
    have h7 := rk1 hb
    refine (iha.app (by rw [hl]; exact ihb p2)).app (AllN.one p3 ⟨by simp only; omega, by simp only; omega, by simp only; omega, by simp only; omega, by simp only; omega, fun _ => by simp only; omega, fun _ => by simp only; omega, by simp only; omega, fun j hj => by cases hj⟩)
  have blk : ∀ (n : Nat) (b : Nd), okN 3 b → (PartN G n (fl n b) → AllN G n (fl n b)) → PartN G n (flB n b) → AllN G n (flB n b) := by
    intro n b hb ihb hp
    obtain ⟨p1, p2⟩ := PartN.app (G := G) (n := n) (L := fl n b) (M := [⟨13, -1, -1, -1, [], 0, lst n b⟩]) hp
    have hl := fl_n3 n hb
    refine (ihb p1).app (AllN.one p2 ⟨by simp only; omega, by simp only; omega, by simp only; omega, by simp only; omega, by simp only; omega, by simp only; omega, by simp only; omega, by simp only; omega, fun j hj => ?_⟩)
    exact ⟨rfl, lst_ok b n _ hb p1 (by omega) j hj⟩
  have cond : ∀ (n : Nat) (k : Int) (a b : Nd), okN 1 a → okN 3 b → (AllN G n (fl n a)) → (PartN G (n + cnt a) (fl (n + cnt a) b) → AllN G (n + cnt a) (fl (n + cnt a) b)) → (k = 9 ∨ k = 10) → PartN G n (fl n a ++ flB (n + cnt a) b ++ [⟨k, rt n a, rt (n + cnt a) b, -1, [], 0, []⟩]) → AllN G n (fl n a ++ flB (n + cnt a) b ++ [⟨k, rt n a, rt (n + cnt a) b, -1, [], 0, []⟩]) := by
    intro n k a b ha hb iha ihb hk hp
    obtain ⟨p0, p3⟩ := hp.app
    obtain ⟨p1, p2⟩ := p0.app
    have hl := fl_n1 n (.inl ha)
    have hl2 := flB_len (n + cnt a) hb
    rw [hl] at p2
    have h3 := rt_lt (x := a) n (n + (fl n a ++ flB (n + cnt a) b).length) (by rw [List.length_append]; omega)
    have h3' := rt_lt (x := b) (n + cnt a) (n + (fl n a ++ flB (n + cnt a) b).length) (by rw [List.length_append]; omega)
    have h4 := rt_k (.inl ha) p1
    have h5 := rk1 ha
    have h6 := rt_kB hb p2
    refine (iha.app (by rw [hl]; exact blk _ _ hb ihb p2)).app (AllN.one p3 ⟨by simp only; omega, by simp only; omega, by simp only; omega, by simp only; omega, by simp only; omega, fun _ => by simp only; omega, fun _ => by simp only; omega, by simp only; omega, fun j hj => by cases hj⟩)
  induction x with
  | num v => intro n h hp; exact leaf n 1 [] v (.inl rfl) hp
  | var t => intro n h hp; exact leaf n 2 t 0 (.inr (.inl rfl)) hp
  | inp => intro n h hp; exact leaf n 4 [] 0 (.inr (.inr rfl)) hp
  | nil => intro n h hp k hk; cases hk
  | get t a iha =>
    intro n h hp
    have h : okN 1 a := by rcases h with h | h | h <;> first | exact h.2 | exact h.elim
    exact one n 3 a t 0 h (iha n (.inl h) hp.app.1) (by decide) hp
  | neg a iha =>
    intro n h hp
    have h : okN 1 a := by rcases h with h | h | h <;> first | exact h | exact h.elim
    exact one n 5 a [] 0 h (iha n (.inl h) hp.app.1) (by decide) hp
  | set t a iha =>
    intro n h hp
    have h : okN 1 a := by rcases h with h | h | h <;> first | exact h.2 | exact h.elim
    exact one n 7 a t 0 h (iha n (.inl h) hp.app.1) (by decide) hp
  | out a iha =>
    intro n h hp
    have h : okN 1 a := by rcases h with h | h | h <;> first | exact h | exact h.elim
    exact one n 11 a [] 0 h (iha n (.inl h) hp.app.1) (by decide) hp
  | exi a iha =>
    intro n h hp
    have h : okN 1 a := by rcases h with h | h | h <;> first | exact h | exact h.elim
    exact one n 12 a [] 0 h (iha n (.inl h) hp.app.1) (by decide) hp
  | bin o a b iha ihb =>
    intro n h hp
    have h : okN 1 a ∧ okN 1 b := by rcases h with h | h | h <;> first | exact h.2 | exact h.elim
    exact two n 6 a b [] o h.1 h.2 (iha n (.inl h.1) hp.app.1.app.1) (ihb _ (.inl h.2)) (by decide) hp
  | put t a b iha ihb =>
    intro n h hp
    have h : okN 1 a ∧ okN 1 b := by rcases h with h | h | h <;> first | exact h.2 | exact h.elim
    exact two n 8 a b t 0 h.1 h.2 (iha n (.inl h.1) hp.app.1.app.1) (ihb _ (.inl h.2)) (by decide) hp
  | ife a b iha ihb =>
    intro n h hp
    have h : okN 1 a ∧ okN 3 b := by rcases h with h | h | h <;> first | exact h | exact h.elim
    exact cond n 9 a b h.1 h.2 (iha n (.inl h.1) hp.app.1.app.1) (ihb _ (.inr (.inr h.2))) (by decide) hp
  | whi a b iha ihb =>
    intro n h hp
    have h : okN 1 a ∧ okN 3 b := by rcases h with h | h | h <;> first | exact h | exact h.elim
    exact cond n 10 a b h.1 h.2 (iha n (.inl h.1) hp.app.1.app.1) (ihb _ (.inr (.inr h.2))) (by decide) hp
  | ifel a b c iha ihb ihc =>
    intro n h hp
    have h : okN 1 a ∧ okN 3 b ∧ okN 3 c := by rcases h with h | h | h <;> first | exact h | exact h.elim
    have hp : PartN G n (fl n a ++ flB (n + cnt a) b ++ flB (n + cnt a + cnt b) c ++ [⟨9, rt n a, rt (n + cnt a) b, rt (n + cnt a + cnt b) c, [], 0, []⟩]) := hp
    show AllN G n (fl n a ++ flB (n + cnt a) b ++ flB (n + cnt a + cnt b) c ++ [⟨9, rt n a, rt (n + cnt a) b, rt (n + cnt a + cnt b) c, [], 0, []⟩])
    obtain ⟨p0, p4⟩ := hp.app
    obtain ⟨p0, p3⟩ := p0.app
    obtain ⟨p1, p2⟩ := p0.app
    have hl := fl_n1 n (.inl h.1)
    have hl2 := flB_len (n + cnt a) h.2.1
    have hl3 := flB_len (n + cnt a + cnt b) h.2.2
    rw [hl] at p2
    rw [List.length_append, hl, hl2, ← Nat.add_assoc] at p3
    have hL : (fl n a ++ flB (n + cnt a) b ++ flB (n + cnt a + cnt b) c).length = cnt a + cnt b + cnt c := by rw [List.length_append, List.length_append]; omega
    have h3 := rt_lt (x := a) n (n + (cnt a + cnt b + cnt c)) (by omega)
    have h3' := rt_lt (x := b) (n + cnt a) (n + (cnt a + cnt b + cnt c)) (by omega)
    have h3'' := rt_lt (x := c) (n + cnt a + cnt b) (n + (cnt a + cnt b + cnt c)) (by omega)
    have h4 := rt_k (.inl h.1) p1
    have h5 := rk1 h.1
    have h6 := rt_kB h.2.1 p2
    have h7 := rt_kB h.2.2 p3
    rw [hL] at p4
    refine (((iha n (.inl h.1) p1).app (by rw [hl]; exact blk _ _ h.2.1 (ihb _ (.inr (.inr h.2.1))) p2)).app (by rw [List.length_append, hl, hl2, ← Nat.add_assoc]; exact blk _ _ h.2.2 (ihc _ (.inr (.inr h.2.2))) p3)).app ?_
    rw [hL]
    refine AllN.one p4 ⟨?_, ?_, ?_, ?_, ?_, fun _ => by simp only; omega, fun _ => by simp only; omega, fun _ => by simp only; omega, fun j hj => by cases hj⟩
    · simp only; omega
    · simp only; omega
    · simp only; omega
    · exact fun _ => rfl
    · simp only; omega
  | snoc b s ihb ihs =>
    intro n h hp
    have h : okN 3 b ∧ okN 2 s := by rcases h with h | h | h <;> first | exact h | exact h.elim
    obtain ⟨p1, p2⟩ := PartN.app (G := G) (n := n) (L := fl n b) (M := fl (n + (cnt b - 1)) s) hp
    have hl := fl_n3 n h.1
    rw [show (fl n b).length = cnt b - 1 by omega] at p2
    refine AllN.app (ihb n (.inr (.inr h.1)) p1) ?_
    rw [show (fl n b).length = cnt b - 1 by omega]
    exact ihs _ (.inr (.inl h.2)) p2
/-- a program's nodes: each is behind those that it has; the last is its block -/
theorem ordN_all {b : Nd} (h : okN 3 b) : (flB 0 b).length = cnt b ∧ (∀ i, i < cnt b → OrdN (flB 0 b) i ((flB 0 b).getD i nd0)) ∧ ((flB 0 b).getD (cnt b - 1) nd0).k = 13 := by
  have hl := flB_len 0 h
  have hp : PartN (flB 0 b) 0 (flB 0 b) := fun k hk => by rw [Nat.zero_add]
  have hf := fl_n3 0 h
  obtain ⟨p1, p2⟩ := PartN.app (G := flB 0 b) (n := 0) (L := fl 0 b) (M := [⟨13, -1, -1, -1, [], 0, lst 0 b⟩]) hp
  refine ⟨hl, fun i hi => ?_, ?_⟩
  · have : AllN (flB 0 b) 0 (flB 0 b) := by
      refine AllN.app (ordN_val b 0 (.inr (.inr h)) p1) (AllN.one p2 ⟨by simp only; omega, by simp only; omega, by simp only; omega, by simp only; omega, by simp only; omega, by simp only; omega, by simp only; omega, by simp only; omega, fun j hj => ?_⟩)
      exact ⟨rfl, lst_ok b 0 _ h p1 (by omega) j hj⟩
    have h2 := this i (by rw [hl]; exact hi)
    rwa [Nat.zero_add] at h2
  · have := rt_kB h hp
    unfold rt at this
    rw [Nat.zero_add] at this
    exact this
theorem gaps_app (a b : List Pc) : gapsL [32] (a ++ b) = gapsL [32] a ++ gapsL [32] b := by unfold gapsL; simp
theorem gaps_cons (p : Pc) (r : List Pc) : gapsL [32] (p :: r) = 32 :: txtW (p :: r) := rfl
theorem rt_app (n : Nat) (x : Nd) : 0 ≤ rt n x ∧ (rt n x).toNat = n + cnt x - 1 := by unfold rt; omega
end Go.Proofs.YtkacplcilkogpaaGreatDoor.Mm
