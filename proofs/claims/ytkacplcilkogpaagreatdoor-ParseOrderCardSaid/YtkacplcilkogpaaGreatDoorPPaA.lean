/- The grammar without fuel; the words of what is shown, and that they are read as it was. No program in it. -/
import Derived.Test.YtkacplcilkogpaaGreatDoorPLxA
namespace Go.Proofs.YtkacplcilkogpaaGreatDoor.Mm
set_option linter.unusedVariables false

/-- what a program is made of: values, statements, and rows of statements -/
inductive Nd where
  | num (v : Int) | var (t : Bs) | get (t : Bs) (a : Nd) | inp | neg (a : Nd) | bin (o : Int) (a b : Nd)
  | set (t : Bs) (a : Nd) | put (t : Bs) (a b : Nd) | ife (a b : Nd) | ifel (a b c : Nd) | whi (a b : Nd) | out (a : Nd) | exi (a : Nd)
  | nil | snoc (b s : Nd)
deriving DecidableEq
/-- the parts of the grammar: a value, a product, more of it, a sum, more of it, an expression, a block, statements up to its end or the text's, a statement -/
inductive Gr where
  | V | P | Pl (a : Nd) (d : Nat) | S | Sl (a : Nd) (d : Nat) | E | B | L (b : Nd) (d : Nat) (stop : Bool) | T
/-- what is read: with the words left, and how deep it is; or how many words are left where one can't stand -/
abbrev Rr := Except Nat (Nd × List Pc × Nat)
/-- a word is this sign, or key -/
def isW (t : Bs) (p : Pc) : Bool := decide (p.1 ≠ 48) && decide (p.2.1 = t)
def hdW (t : Bs) (ws : List Pc) : Bool := match ws with | [] => false | p :: _ => isW t p
def bnd (r : Rr) (k : Nd → List Pc → Nat → Rr) : Rr := match r with | .ok (a, s, d) => k a s d | .error e => .error e
def must {α : Type} (t : Bs) (ws : List Pc) (k : List Pc → Except Nat α) : Except Nat α := match ws with | [] => .error 0 | p :: r => if isW t p then k r else .error (r.length + 1)
def opP (ws : List Pc) : Option Int := if hdW [42] ws then some 5 else if hdW [47] ws then some 6 else if hdW [37] ws then some 7 else none
def opS (ws : List Pc) : Option Int := if hdW [43] ws then some 3 else if hdW [45] ws then some 4 else none
def opE (ws : List Pc) : Option Int := if hdW [60] ws then some 13 else if hdW [61, 61] ws then some 14 else none
def gr : Nat → Gr → List Pc → Rr
  | 0, _, ws => .error ws.length
  | f + 1, .V, ws => match ws with
    | [] => .error 0
    | p :: r =>
      if p.1 = 48 then .ok (.num p.2.2, r, 1)
      else if p.1 = 110 then
        if hdW [91] r then bnd (gr f .E r.tail) fun a s d => must [93] s fun s => .ok (.get p.2.1 a, s, d + 1)
        else .ok (.var p.2.1, r, 1)
      else if isW [105, 110] p then .ok (.inp, r, 1)
      else if isW [45] p then bnd (gr f .V r) fun a s d => .ok (.neg a, s, d + 1)
      else if isW [40] p then bnd (gr f .E r) fun a s d => must [41] s fun s => .ok (a, s, d + 1)
      else .error (r.length + 1)
  | f + 1, .P, ws => bnd (gr f .V ws) fun a s d => gr f (.Pl a d) s
  | f + 1, .Pl a d, ws => match opP ws with
    | none => .ok (a, ws, d)
    | some o => bnd (gr f .V ws.tail) fun b s d2 => gr f (.Pl (.bin o a b) (max d d2)) s
  | f + 1, .S, ws => bnd (gr f .P ws) fun a s d => gr f (.Sl a d) s
  | f + 1, .Sl a d, ws => match opS ws with
    | none => .ok (a, ws, d)
    | some o => bnd (gr f .P ws.tail) fun b s d2 => gr f (.Sl (.bin o a b) (max d d2)) s
  | f + 1, .E, ws => bnd (gr f .S ws) fun a s d => match opE s with
    | none => .ok (a, s, d + 1)
    | some o => bnd (gr f .S s.tail) fun b s2 d2 => .ok (.bin o a b, s2, max d d2 + 1)
  | f + 1, .B, ws => must [123] ws fun s => bnd (gr f (.L .nil 0 true) s) fun b s2 d => must [125] s2 fun s3 => .ok (b, s3, d)
  | f + 1, .L b d stop, ws =>
    if ws = [] then .ok (b, ws, d)
    else if stop && hdW [125] ws then .ok (b, ws, d)
    else bnd (gr f .T ws) fun a s d2 => gr f (.L (.snoc b a) (max d d2) stop) s
  | f + 1, .T, ws => match ws with
    | [] => .error 0
    | p :: r =>
      if isW [105, 102] p then bnd (gr f .E r) fun a s d => bnd (gr f .B s) fun b s2 d2 =>
        if hdW [101, 108, 115, 101] s2 then bnd (gr f .B s2.tail) fun c s3 d3 => .ok (.ifel a b c, s3, max (max d d2) d3 + 1)
        else .ok (.ife a b, s2, max d d2 + 1)
      else if isW [119, 104, 105, 108, 101] p then bnd (gr f .E r) fun a s d => bnd (gr f .B s) fun b s2 d2 => .ok (.whi a b, s2, max d d2 + 1)
      else if isW [111, 117, 116] p then bnd (gr f .E r) fun a s d => must [59] s fun s => .ok (.out a, s, d + 1)
      else if isW [101, 120, 105, 116] p then bnd (gr f .E r) fun a s d => must [59] s fun s => .ok (.exi a, s, d + 1)
      else if p.1 = 110 then
        if hdW [91] r then bnd (gr f .E r.tail) fun a s d => must [93] s fun s => must [61] s fun s => bnd (gr f .E s) fun b s2 d2 => must [59] s2 fun s3 => .ok (.put p.2.1 a b, s3, max d d2 + 1)
        else must [61] r fun s => bnd (gr f .E s) fun b s2 d2 => must [59] s2 fun s3 => .ok (.set p.2.1 b, s3, d2 + 1)
      else .error (r.length + 1)

theorem bnd_ok {r : Rr} {k : Nd → List Pc → Nat → Rr} {y : Nd × List Pc × Nat} (h : bnd r k = .ok y) : ∃ a s d, r = .ok (a, s, d) ∧ k a s d = .ok y := by
  unfold bnd at h
  split at h
  · rename_i a s d
    exact ⟨a, s, d, rfl, h⟩
  · cases h
theorem must_ok {α : Type} {t : Bs} {ws : List Pc} {k : List Pc → Except Nat α} {y : α} (h : must t ws k = .ok y) : ∃ p r, ws = p :: r ∧ isW t p = true ∧ k r = .ok y := by
  unfold must at h
  split at h
  · cases h
  · rename_i p r
    split at h
    · exact ⟨p, r, rfl, ‹_›, h⟩
    · cases h
theorem bnd_is {r : Rr} {k : Nd → List Pc → Nat → Rr} {a : Nd} {s : List Pc} {d : Nat} (h : r = .ok (a, s, d)) : bnd r k = k a s d := by rw [h]; rfl
theorem bnd_er {r : Rr} {k : Nd → List Pc → Nat → Rr} {e : Nat} (h : r = .error e) : bnd r k = .error e := by rw [h]; rfl

/-- with words behind it does as it did, as far as it doesn't come to the end -/
structure Ext (m : List Pc) (r r' : Rr) : Prop where
  ok : ∀ x s d, r = .ok (x, s, d) → s ≠ [] → r' = .ok (x, s ++ m, d)
  er : ∀ k, r = .error k → 0 < k → r' = .error (k + m.length)
/-- it came to the end -/
def End (r : Rr) : Prop := r = .error 0 ∨ ∃ x d, r = .ok (x, [], d)
theorem End.ext {r r' : Rr} (m : List Pc) (h : End r) : Ext m r r' := by
  rcases h with h | ⟨x, d, h⟩
  · exact ⟨fun x s d e => (by rw [h] at e; cases e), fun k e hk => by rw [h] at e; injection e with e; omega⟩
  · exact ⟨fun x' s d' e hs => (by rw [h] at e; injection e with e; injection e with _ e; injection e with e; exact absurd e.symm hs), fun k e => by rw [h] at e; cases e⟩
theorem Ext.ofOk {m : List Pc} (x : Nd) (s : List Pc) (d : Nat) : Ext m (.ok (x, s, d)) (.ok (x, s ++ m, d)) := ⟨fun x' s' d' e _ => (by injection e with e; injection e with e1 e; injection e with e2 e3; subst e1 e2 e3; rfl), fun k e => by cases e⟩
theorem Ext.ofEr {m : List Pc} (k : Nat) : Ext m (.error k) (.error (k + m.length)) := ⟨fun x s d e => (by cases e), fun k' e _ => by injection e with e; subst e; rfl⟩
theorem Ext.bnd {m : List Pc} {r r' : Rr} {k k' : Nd → List Pc → Nat → Rr} (h : Ext m r r') (hk : ∀ x s d, s ≠ [] → Ext m (k x s d) (k' x (s ++ m) d)) (he : ∀ x d, End (k x [] d)) : Ext m (bnd r k) (bnd r' k') := by
  match r, h with
  | .error e, h =>
    rcases Nat.eq_zero_or_pos e with rfl | hp
    · exact End.ext m (.inl rfl)
    · rw [h.er e rfl hp]
      exact Ext.ofEr e
  | .ok (x, s, d), h =>
    by_cases hs : s = []
    · subst hs
      exact End.ext m (he x d)
    · rw [h.ok x s d rfl hs]
      exact hk x s d hs
theorem Ext.must {m : List Pc} {t : Bs} {ws : List Pc} {k k' : List Pc → Rr} (hk : ∀ p r, ws = p :: r → Ext m (k r) (k' (r ++ m))) : Ext m (must t ws k) (must t (ws ++ m) k') := by
  match ws, hk with
  | [], _ => exact End.ext m (.inl rfl)
  | p :: r, hk =>
    show Ext m (if isW t p then k r else .error (r.length + 1)) (if isW t p then k' (r ++ m) else .error ((r ++ m).length + 1))
    by_cases h : isW t p = true
    · rw [if_pos h, if_pos h]
      exact hk p r rfl
    · rw [if_neg h, if_neg h, List.length_append, show r.length + m.length + 1 = r.length + 1 + m.length by omega]
      exact Ext.ofEr _
theorem End.bnd {r : Rr} {k : Nd → List Pc → Nat → Rr} (h : End r) (hk : ∀ x d, End (k x [] d)) : End (Mm.bnd r k) := by
  rcases h with h | ⟨x, d, h⟩
  · exact .inl (bnd_er h)
  · rw [bnd_is h]; exact hk x d
theorem gr_end : ∀ (f : Nat) (q : Gr), End (gr f q []) := by
  intro f
  induction f with
  | zero => intro q; exact .inl rfl
  | succ f ih =>
    intro q
    cases q with
    | V => exact .inl rfl
    | P => exact End.bnd (ih _) fun x d => ih _
    | Pl a d => exact .inr ⟨a, d, rfl⟩
    | S => exact End.bnd (ih _) fun x d => ih _
    | Sl a d => exact .inr ⟨a, d, rfl⟩
    | E => exact End.bnd (ih _) fun x d => .inr ⟨x, d + 1, rfl⟩
    | B => exact .inl rfl
    | L b d stop => exact .inr ⟨b, d, rfl⟩
    | T => exact .inl rfl
theorem hdW_app {t : Bs} {ws : List Pc} (m : List Pc) (h : ws ≠ []) : hdW t (ws ++ m) = hdW t ws := by
  cases ws with
  | nil => exact absurd rfl h
  | cons p r => rfl
theorem opP_app {ws : List Pc} (m : List Pc) (h : ws ≠ []) : opP (ws ++ m) = opP ws := by unfold opP; simp only [hdW_app m h]
theorem opS_app {ws : List Pc} (m : List Pc) (h : ws ≠ []) : opS (ws ++ m) = opS ws := by unfold opS; simp only [hdW_app m h]
theorem opE_app {ws : List Pc} (m : List Pc) (h : ws ≠ []) : opE (ws ++ m) = opE ws := by unfold opE; simp only [hdW_app m h]
theorem tail_app {ws : List Pc} (m : List Pc) (h : ws ≠ []) : (ws ++ m).tail = ws.tail ++ m := by
  cases ws with
  | nil => exact absurd rfl h
  | cons p r => rfl
theorem gr_ext (m : List Pc) : ∀ (f : Nat) (q : Gr) (ws : List Pc), Ext m (gr f q ws) (gr f q (ws ++ m)) := by
  intro f
  induction f with
  | zero =>
    intro q ws
    show Ext m (.error ws.length) (.error (ws ++ m).length)
    rw [List.length_append]
    exact Ext.ofEr _
  | succ f ih =>
    intro q ws
    by_cases hws : ws = []
    · subst hws
      exact (gr_end _ _).ext m
    cases q with
    | V =>
      obtain ⟨p, r, rfl⟩ : ∃ p r, ws = p :: r := by cases ws with | nil => exact absurd rfl hws | cons p r => exact ⟨p, r, rfl⟩
      simp only [gr, List.cons_append]
      by_cases h1 : p.1 = 48
      · rw [if_pos h1, if_pos h1]; exact Ext.ofOk _ _ _
      rw [if_neg h1, if_neg h1]
      by_cases h2 : p.1 = 110
      · rw [if_pos h2, if_pos h2]
        by_cases hr : r = []
        · subst hr
          exact End.ext m (.inr ⟨_, _, rfl⟩)
        rw [hdW_app m hr, tail_app m hr]
        by_cases h3 : hdW [91] r = true
        · rw [if_pos h3, if_pos h3]
          exact (ih .E r.tail).bnd (fun x s d _ => Ext.must fun p r e => Ext.ofOk _ _ _) (fun x d => .inl rfl)
        · rw [if_neg h3, if_neg h3]; exact Ext.ofOk _ _ _
      rw [if_neg h2, if_neg h2]
      by_cases h4 : isW [105, 110] p = true
      · rw [if_pos h4, if_pos h4]; exact Ext.ofOk _ _ _
      rw [if_neg h4, if_neg h4]
      by_cases h5 : isW [45] p = true
      · rw [if_pos h5, if_pos h5]
        exact (ih .V r).bnd (fun x s d _ => Ext.ofOk _ _ _) (fun x d => .inr ⟨_, _, rfl⟩)
      rw [if_neg h5, if_neg h5]
      by_cases h6 : isW [40] p = true
      · rw [if_pos h6, if_pos h6]
        exact (ih .E r).bnd (fun x s d _ => Ext.must fun p r e => Ext.ofOk _ _ _) (fun x d => .inl rfl)
      rw [if_neg h6, if_neg h6, List.length_append, show r.length + m.length + 1 = r.length + 1 + m.length by omega]
      exact Ext.ofEr _
    | P => exact (ih .V ws).bnd (fun x s d _ => ih _ _) (fun x d => gr_end _ _)
    | Pl a d =>
      simp only [gr, opP_app m hws, tail_app m hws]
      cases opP ws with
      | none => exact Ext.ofOk _ _ _
      | some o => exact (ih .V ws.tail).bnd (fun x s d _ => ih _ _) (fun x d => gr_end _ _)
    | S => exact (ih .P ws).bnd (fun x s d _ => ih _ _) (fun x d => gr_end _ _)
    | Sl a d =>
      simp only [gr, opS_app m hws, tail_app m hws]
      cases opS ws with
      | none => exact Ext.ofOk _ _ _
      | some o => exact (ih .P ws.tail).bnd (fun x s d _ => ih _ _) (fun x d => gr_end _ _)
    | E =>
      refine (ih .S ws).bnd (fun x s d hs => ?_) (fun x d => .inr ⟨_, _, rfl⟩)
      simp only [opE_app m hs, tail_app m hs]
      cases opE s with
      | none => exact Ext.ofOk _ _ _
      | some o => exact (ih .S s.tail).bnd (fun x s d _ => Ext.ofOk _ _ _) (fun x d => .inr ⟨_, _, rfl⟩)
    | B =>
      refine Ext.must fun p r e => (ih _ r).bnd (fun x s d hs => Ext.must fun p r e => Ext.ofOk _ _ _) (fun x d => .inl rfl)
    | L b d stop =>
      simp only [gr]
      rw [if_neg hws, if_neg (show ¬ (ws ++ m = []) from fun e => hws (List.append_eq_nil_iff.1 e).1), hdW_app m hws]
      by_cases h1 : (stop && hdW [125] ws) = true
      · rw [if_pos h1, if_pos h1]; exact Ext.ofOk _ _ _
      · rw [if_neg h1, if_neg h1]
        exact (ih .T ws).bnd (fun x s d _ => ih _ _) (fun x d => gr_end _ _)
    | T =>
      obtain ⟨p, r, rfl⟩ : ∃ p r, ws = p :: r := by cases ws with | nil => exact absurd rfl hws | cons p r => exact ⟨p, r, rfl⟩
      simp only [gr, List.cons_append]
      by_cases h1 : isW [105, 102] p = true
      · rw [if_pos h1, if_pos h1]
        refine (ih .E r).bnd (fun a s d _ => (ih .B s).bnd (fun b s2 d2 hs2 => ?_) (fun x d => .inr ⟨_, _, rfl⟩)) (fun x d => End.bnd (gr_end _ _) fun x d => .inr ⟨_, _, rfl⟩)
        rw [hdW_app m hs2, tail_app m hs2]
        by_cases h2 : hdW [101, 108, 115, 101] s2 = true
        · rw [if_pos h2, if_pos h2]
          exact (ih .B s2.tail).bnd (fun x s d _ => Ext.ofOk _ _ _) (fun x d => .inr ⟨_, _, rfl⟩)
        · rw [if_neg h2, if_neg h2]; exact Ext.ofOk _ _ _
      rw [if_neg h1, if_neg h1]
      by_cases h2 : isW [119, 104, 105, 108, 101] p = true
      · rw [if_pos h2, if_pos h2]
        exact (ih .E r).bnd (fun a s d _ => (ih .B s).bnd (fun b s2 d2 hs2 => Ext.ofOk _ _ _) (fun x d => .inr ⟨_, _, rfl⟩)) (fun x d => End.bnd (gr_end _ _) fun x d => .inr ⟨_, _, rfl⟩)
      rw [if_neg h2, if_neg h2]
      by_cases h3 : isW [111, 117, 116] p = true
      · rw [if_pos h3, if_pos h3]
        exact (ih .E r).bnd (fun x s d _ => Ext.must fun p r e => Ext.ofOk _ _ _) (fun x d => .inl rfl)
      rw [if_neg h3, if_neg h3]
      by_cases h4 : isW [101, 120, 105, 116] p = true
      · rw [if_pos h4, if_pos h4]
        exact (ih .E r).bnd (fun x s d _ => Ext.must fun p r e => Ext.ofOk _ _ _) (fun x d => .inl rfl)
      rw [if_neg h4, if_neg h4]
      by_cases h5 : p.1 = 110
      · rw [if_pos h5, if_pos h5]
        by_cases hr : r = []
        · subst hr
          exact End.ext m (.inl rfl)
        rw [hdW_app m hr, tail_app m hr]
        by_cases h6 : hdW [91] r = true
        · rw [if_pos h6, if_pos h6]
          exact (ih .E r.tail).bnd (fun a s d _ => Ext.must fun p r e => Ext.must fun p r e => (ih .E r).bnd (fun b s d _ => Ext.must fun p r e => Ext.ofOk _ _ _) (fun x d => .inl rfl)) (fun x d => .inl rfl)
        · rw [if_neg h6, if_neg h6]
          exact Ext.must fun p r e => (ih .E r).bnd (fun b s d _ => Ext.must fun p r e => Ext.ofOk _ _ _) (fun x d => .inl rfl)
      · rw [if_neg h5, if_neg h5, List.length_append, show r.length + m.length + 1 = r.length + 1 + m.length by omega]
        exact Ext.ofEr _
/-- these take a word at least -/
def tkW : Gr → Bool | .Pl _ _ => false | .Sl _ _ => false | .L _ _ _ => false | _ => true
/-- what is left is an end of the words; an error's place is one of them, or behind them -/
structure Suf (b : Bool) (ws : List Pc) (r : Rr) : Prop where
  ok : ∀ x s d, r = .ok (x, s, d) → s <:+ ws ∧ (b = true → s.length < ws.length)
  er : ∀ k, r = .error k → k ≤ ws.length
theorem Suf.ofOk {b : Bool} {ws s : List Pc} {x : Nd} {d : Nat} (h : s <:+ ws) (hl : b = true → s.length < ws.length) : Suf b ws (.ok (x, s, d)) := ⟨fun x' s' d' e => (by injection e with e; injection e with e1 e; injection e with e2 e3; subst e1 e2 e3; exact ⟨h, hl⟩), fun k e => by cases e⟩
theorem Suf.ofEr {b : Bool} {ws : List Pc} {k : Nat} (h : k ≤ ws.length) : Suf b ws (.error k) := ⟨fun x s d e => (by cases e), fun k' e => by injection e with e; omega⟩
theorem Suf.lt {b : Bool} {ws s : List Pc} {r : Rr} (h : Suf b s r) (hs : s <:+ ws) (hl : b = true ∨ s.length < ws.length) {c : Bool} : Suf c ws r :=
  ⟨fun x t d e => ⟨(h.ok x t d e).1.trans hs, fun _ => by
    have := hs.length_le
    have h2 := (h.ok x t d e).1.length_le
    rcases hl with hl | hl
    · have := (h.ok x t d e).2 hl; omega
    · omega⟩, fun k e => Nat.le_trans (h.er k e) hs.length_le⟩
theorem Suf.bnd {b c : Bool} {ws : List Pc} {r : Rr} {k : Nd → List Pc → Nat → Rr} (h : Suf b ws r) (hk : ∀ x s d, s <:+ ws → (b = true → s.length < ws.length) → Suf c ws (k x s d)) : Suf c ws (bnd r k) := by
  match r, h with
  | .error e, h => exact .ofEr (h.er e rfl)
  | .ok (x, s, d), h => exact hk x s d (h.ok x s d rfl).1 (h.ok x s d rfl).2
theorem Suf.must {c : Bool} {t : Bs} {ws s : List Pc} {k : List Pc → Rr} (hs : s <:+ ws) (hk : ∀ r, r <:+ ws → r.length < ws.length → Suf c ws (k r)) : Suf c ws (must t s k) := by
  match s, hs with
  | [], _ => exact .ofEr (Nat.zero_le _)
  | p :: r, hs =>
    show Suf c ws (if isW t p then k r else .error (r.length + 1))
    have hl := hs.length_le
    have hr : r <:+ ws := (List.suffix_cons p r).trans hs
    simp only [List.length_cons] at hl
    split
    · exact hk r hr (by omega)
    · exact .ofEr hl
theorem suf_tail {ws s : List Pc} (h : s <:+ ws) : s.tail <:+ ws := (List.tail_suffix s).trans h
theorem gr_suf : ∀ (f : Nat) (q : Gr) (ws : List Pc), Suf (tkW q) ws (gr f q ws) := by
  intro f
  induction f with
  | zero => intro q ws; exact .ofEr (Nat.le_refl _)
  | succ f ih =>
    intro q ws
    cases q with
    | V =>
      cases ws with
      | nil => exact .ofEr (Nat.le_refl _)
      | cons p r =>
        have hr : r <:+ p :: r := List.suffix_cons p r
        have hl : r.length < (p :: r).length := by simp
        simp only [gr]
        split
        · exact .ofOk hr fun _ => hl
        split
        · split
          · have ht := suf_tail hr
            refine ((ih .E r.tail).lt ht (.inl rfl) (c := true)).bnd fun x s d h1 h2 => Suf.must h1 fun t h3 h4 => .ofOk h3 fun _ => h4
          · exact .ofOk hr fun _ => hl
        split
        · exact .ofOk hr fun _ => hl
        split
        · exact ((ih .V r).lt hr (.inl rfl) (c := true)).bnd fun x s d h1 h2 => .ofOk h1 h2
        split
        · exact ((ih .E r).lt hr (.inl rfl) (c := true)).bnd fun x s d h1 h2 => Suf.must h1 fun t h3 h4 => .ofOk h3 fun _ => h4
        · exact .ofEr (Nat.le_refl _)
    | P => exact (ih .V ws).bnd fun x s d h1 h2 => (ih _ s).lt h1 (.inr (h2 rfl))
    | Pl a d =>
      simp only [gr]
      split
      · exact .ofOk (List.suffix_refl _) fun e => by cases e
      · exact ((ih .V ws.tail).lt (List.tail_suffix ws) (.inl rfl) (c := true)).bnd fun x s d h1 h2 => (ih _ s).lt h1 (.inr (h2 rfl))
    | S => exact (ih .P ws).bnd fun x s d h1 h2 => (ih _ s).lt h1 (.inr (h2 rfl))
    | Sl a d =>
      simp only [gr]
      split
      · exact .ofOk (List.suffix_refl _) fun e => by cases e
      · exact ((ih .P ws.tail).lt (List.tail_suffix ws) (.inl rfl) (c := true)).bnd fun x s d h1 h2 => (ih _ s).lt h1 (.inr (h2 rfl))
    | E =>
      refine (ih .S ws).bnd fun x s d h1 h2 => ?_
      split
      · exact .ofOk h1 h2
      · exact ((ih .S s.tail).lt (suf_tail h1) (.inl rfl) (c := true)).bnd fun x s d h1 h2 => .ofOk h1 h2
    | B => exact Suf.must (List.suffix_refl _) fun r h1 h2 => ((ih _ r).lt h1 (.inr h2) (c := true)).bnd fun x s d h3 h4 => Suf.must h3 fun t h5 h6 => .ofOk h5 fun _ => h6
    | L b d stop =>
      simp only [gr]
      split
      · exact .ofOk (List.suffix_refl _) fun e => by cases e
      split
      · exact .ofOk (List.suffix_refl _) fun e => by cases e
      · exact (ih .T ws).bnd fun x s d h1 h2 => (ih _ s).lt h1 (.inr (h2 rfl))
    | T =>
      cases ws with
      | nil => exact .ofEr (Nat.le_refl _)
      | cons p r =>
        have hr : r <:+ p :: r := List.suffix_cons p r
        have hl : r.length < (p :: r).length := by simp
        simp only [gr]
        split
        · refine ((ih .E r).lt hr (.inl rfl) (c := true)).bnd fun x s d h1 h2 => ((ih .B s).lt h1 (.inl rfl) (c := true)).bnd fun b s2 d2 h3 h4 => ?_
          split
          · exact ((ih .B s2.tail).lt (suf_tail h3) (.inl rfl) (c := true)).bnd fun x s d h1 h2 => .ofOk h1 h2
          · exact .ofOk h3 h4
        split
        · exact ((ih .E r).lt hr (.inl rfl) (c := true)).bnd fun x s d h1 h2 => ((ih .B s).lt h1 (.inl rfl) (c := true)).bnd fun b s2 d2 h3 h4 => .ofOk h3 h4
        split
        · exact ((ih .E r).lt hr (.inl rfl) (c := true)).bnd fun x s d h1 h2 => Suf.must h1 fun t h3 h4 => .ofOk h3 fun _ => h4
        split
        · exact ((ih .E r).lt hr (.inl rfl) (c := true)).bnd fun x s d h1 h2 => Suf.must h1 fun t h3 h4 => .ofOk h3 fun _ => h4
        split
        · split
          · exact ((ih .E r.tail).lt (suf_tail hr) (.inl rfl) (c := true)).bnd fun x s d h1 h2 => Suf.must h1 fun t h3 h4 => Suf.must h3 fun t h5 h6 => ((ih .E t).lt h5 (.inl rfl) (c := true)).bnd fun x s d h1 h2 => Suf.must h1 fun t h3 h4 => .ofOk h3 fun _ => h4
          · exact Suf.must hr fun t h5 h6 => ((ih .E t).lt h5 (.inl rfl) (c := true)).bnd fun x s d h1 h2 => Suf.must h1 fun t h3 h4 => .ofOk h3 fun _ => h4
        · exact .ofEr (Nat.le_refl _)

/-- what is read with less fuel is read with more -/
def LeR (r r' : Rr) : Prop := ∀ y, r = .ok y → r' = .ok y
theorem LeR.refl (r : Rr) : LeR r r := fun _ h => h
theorem LeR.bnd {r r' : Rr} {k k' : Nd → List Pc → Nat → Rr} (h : LeR r r') (hk : ∀ a s d, LeR (k a s d) (k' a s d)) : LeR (bnd r k) (bnd r' k') := by
  intro y e
  obtain ⟨a, s, d, h1, h2⟩ := bnd_ok e
  rw [bnd_is (h _ h1)]
  exact hk a s d y h2
theorem LeR.must {t : Bs} {ws : List Pc} {k k' : List Pc → Rr} (hk : ∀ r, LeR (k r) (k' r)) : LeR (must t ws k) (must t ws k') := by
  intro y e
  obtain ⟨p, r, rfl, h1, h2⟩ := must_ok e
  show (if isW t p then k' r else _) = _
  rw [if_pos h1]
  exact hk r y h2
theorem LeR.ite {c : Prop} [Decidable c] {a a' b b' : Rr} (h : LeR a a') (h' : LeR b b') : LeR (if c then a else b) (if c then a' else b') := by
  split
  · exact h
  · exact h'
theorem gr_up1 : ∀ (f : Nat) (q : Gr) (ws : List Pc), LeR (gr f q ws) (gr (f + 1) q ws) := by
  intro f
  induction f with
  | zero => intro q ws y e; cases e
  | succ f ih =>
    intro q ws
    cases q with
    | V =>
      cases ws with
      | nil => exact LeR.refl _
      | cons p r => exact .ite (LeR.refl _) (.ite (.ite ((ih _ _).bnd fun a s d => .must fun r => LeR.refl _) (LeR.refl _)) (.ite (LeR.refl _) (.ite ((ih _ _).bnd fun a s d => LeR.refl _) (.ite ((ih _ _).bnd fun a s d => .must fun r => LeR.refl _) (LeR.refl _)))))
    | P => exact (ih _ _).bnd fun a s d => ih _ _
    | Pl a d =>
      simp only [gr]
      split
      · exact LeR.refl _
      · exact (ih _ _).bnd fun a s d => ih _ _
    | S => exact (ih _ _).bnd fun a s d => ih _ _
    | Sl a d =>
      simp only [gr]
      split
      · exact LeR.refl _
      · exact (ih _ _).bnd fun a s d => ih _ _
    | E =>
      refine (ih _ _).bnd fun a s d => ?_
      split
      · exact LeR.refl _
      · exact (ih _ _).bnd fun a s d => LeR.refl _
    | B => exact .must fun r => (ih _ _).bnd fun a s d => .must fun r => LeR.refl _
    | L b d stop => exact .ite (LeR.refl _) (.ite (LeR.refl _) ((ih _ _).bnd fun a s d => ih _ _))
    | T =>
      cases ws with
      | nil => exact LeR.refl _
      | cons p r =>
        exact .ite ((ih _ _).bnd fun a s d => (ih _ _).bnd fun b s2 d2 => .ite ((ih _ _).bnd fun a s d => LeR.refl _) (LeR.refl _)) (.ite ((ih _ _).bnd fun a s d => (ih _ _).bnd fun b s2 d2 => LeR.refl _) (.ite ((ih _ _).bnd fun a s d => .must fun r => LeR.refl _) (.ite ((ih _ _).bnd fun a s d => .must fun r => LeR.refl _) (.ite (.ite ((ih _ _).bnd fun a s d => .must fun r => .must fun r => (ih _ _).bnd fun a s d => .must fun r => LeR.refl _) (.must fun r => (ih _ _).bnd fun a s d => .must fun r => LeR.refl _)) (LeR.refl _)))))
theorem gr_up {f g : Nat} (h : f ≤ g) {q : Gr} {ws : List Pc} {y : Nd × List Pc × Nat} (e : gr f q ws = .ok y) : gr g q ws = .ok y := by
  induction h with
  | refl => exact e
  | step _ ih => exact gr_up1 _ _ _ _ ih

/-- so much fuel is enough -/
def fuelQ : Gr → Nat | .V => 1 | .P => 2 | .S => 3 | .E => 4 | .Pl _ _ => 5 | .Sl _ _ => 5 | .T => 6 | .L _ _ _ => 7 | .B => 1
theorem bnd_congr {r : Rr} {k k' : Nd → List Pc → Nat → Rr} (h : ∀ a s d, r = .ok (a, s, d) → k a s d = k' a s d) : bnd r k = bnd r k' := by
  match r, h with
  | .error _, _ => rfl
  | .ok (a, s, d), h => exact h a s d rfl
theorem must_congr {t : Bs} {ws : List Pc} {k k' : List Pc → Rr} (h : ∀ p r, ws = p :: r → k r = k' r) : must t ws k = must t ws k' := by
  cases ws with
  | nil => rfl
  | cons p r => show (if _ then _ else _) = (if _ then _ else _); rw [h p r rfl]
theorem gr_V (f : Nat) (p : Pc) (r : List Pc) : gr (f + 1) .V (p :: r) = if p.1 = 48 then .ok (.num p.2.2, r, 1)
      else if p.1 = 110 then
        if hdW [91] r then bnd (gr f .E r.tail) fun a s d => must [93] s fun s => .ok (.get p.2.1 a, s, d + 1)
        else .ok (.var p.2.1, r, 1)
      else if isW [105, 110] p then .ok (.inp, r, 1)
      else if isW [45] p then bnd (gr f .V r) fun a s d => .ok (.neg a, s, d + 1)
      else if isW [40] p then bnd (gr f .E r) fun a s d => must [41] s fun s => .ok (a, s, d + 1)
      else .error (r.length + 1) := rfl
theorem gr_T (f : Nat) (p : Pc) (r : List Pc) : gr (f + 1) .T (p :: r) = if isW [105, 102] p then bnd (gr f .E r) fun a s d => bnd (gr f .B s) fun b s2 d2 =>
        if hdW [101, 108, 115, 101] s2 then bnd (gr f .B s2.tail) fun c s3 d3 => .ok (.ifel a b c, s3, max (max d d2) d3 + 1)
        else .ok (.ife a b, s2, max d d2 + 1)
      else if isW [119, 104, 105, 108, 101] p then bnd (gr f .E r) fun a s d => bnd (gr f .B s) fun b s2 d2 => .ok (.whi a b, s2, max d d2 + 1)
      else if isW [111, 117, 116] p then bnd (gr f .E r) fun a s d => must [59] s fun s => .ok (.out a, s, d + 1)
      else if isW [101, 120, 105, 116] p then bnd (gr f .E r) fun a s d => must [59] s fun s => .ok (.exi a, s, d + 1)
      else if p.1 = 110 then
        if hdW [91] r then bnd (gr f .E r.tail) fun a s d => must [93] s fun s => must [61] s fun s => bnd (gr f .E s) fun b s2 d2 => must [59] s2 fun s3 => .ok (.put p.2.1 a b, s3, max d d2 + 1)
        else must [61] r fun s => bnd (gr f .E s) fun b s2 d2 => must [59] s2 fun s3 => .ok (.set p.2.1 b, s3, d2 + 1)
      else .error (r.length + 1) := rfl
theorem gr_L (f : Nat) (b : Nd) (d : Nat) (stop : Bool) (ws : List Pc) : gr (f + 1) (.L b d stop) ws = if ws = [] then .ok (b, ws, d)
    else if stop && hdW [125] ws then .ok (b, ws, d)
    else bnd (gr f .T ws) fun a s d2 => gr f (.L (.snoc b a) (max d d2) stop) s := rfl
theorem gr_Pl (f : Nat) (a : Nd) (d : Nat) (ws : List Pc) : gr (f + 1) (.Pl a d) ws = match opP ws with
    | none => .ok (a, ws, d)
    | some o => bnd (gr f .V ws.tail) fun b s d2 => gr f (.Pl (.bin o a b) (max d d2)) s := rfl
theorem gr_Sl (f : Nat) (a : Nd) (d : Nat) (ws : List Pc) : gr (f + 1) (.Sl a d) ws = match opS ws with
    | none => .ok (a, ws, d)
    | some o => bnd (gr f .P ws.tail) fun b s d2 => gr f (.Sl (.bin o a b) (max d d2)) s := rfl
theorem gr_step : ∀ (f : Nat) (q : Gr) (ws : List Pc), 8 * ws.length + fuelQ q ≤ f → gr (f + 1) q ws = gr f q ws := by
  intro f
  induction f with
  | zero => intro q ws h; cases q <;> (simp only [fuelQ] at h; omega)
  | succ f ih =>
    intro q ws h
    have sh := fun (q' : Gr) (s : List Pc) (hs : s.length < ws.length) => ih q' s (by
      have : fuelQ q' ≤ 7 := by cases q' <;> simp [fuelQ]
      have : 1 ≤ fuelQ q := by cases q <;> simp [fuelQ]
      omega)
    have lo := fun (q' : Gr) (x : Nd) (s : List Pc) (d : Nat) (hq : tkW q' = true) (e : gr f q' ws = .ok (x, s, d)) => ((gr_suf f q' ws).ok x s d e).2 hq
    cases q with
    | V =>
      cases ws with
      | nil => rfl
      | cons p r =>
        have h1 := fun q' => sh q' r (by simp)
        have h2 := fun q' => sh q' r.tail (by have := (List.tail_suffix r).length_le; simp; omega)
        rw [gr_V, gr_V, h1, h2, h1]
    | P =>
      show bnd (gr (f + 1) .V ws) _ = bnd (gr f .V ws) _
      rw [ih .V ws (by simp only [fuelQ] at h ⊢; omega)]
      exact bnd_congr fun a s d e => sh _ _ (lo .V a s d rfl e)
    | Pl a d =>
      rw [gr_Pl, gr_Pl]
      split
      · rfl
      · rename_i o ho
        cases ws with
        | nil => cases ho
        | cons p r =>
          show bnd (gr (f + 1) .V r) _ = bnd (gr f .V r) _
          rw [sh .V r (by simp)]
          exact bnd_congr fun a s d e => sh _ _ (by have := ((gr_suf f .V r).ok a s d e).1.length_le; simp; omega)
    | S =>
      show bnd (gr (f + 1) .P ws) _ = bnd (gr f .P ws) _
      rw [ih .P ws (by simp only [fuelQ] at h ⊢; omega)]
      exact bnd_congr fun a s d e => sh _ _ (lo .P a s d rfl e)
    | Sl a d =>
      rw [gr_Sl, gr_Sl]
      split
      · rfl
      · rename_i o ho
        cases ws with
        | nil => cases ho
        | cons p r =>
          show bnd (gr (f + 1) .P r) _ = bnd (gr f .P r) _
          rw [sh .P r (by simp)]
          exact bnd_congr fun a s d e => sh _ _ (by have := ((gr_suf f .P r).ok a s d e).1.length_le; simp; omega)
    | E =>
      show bnd (gr (f + 1) .S ws) _ = bnd (gr f .S ws) _
      rw [ih .S ws (by simp only [fuelQ] at h ⊢; omega)]
      refine bnd_congr fun a s d e => ?_
      have := lo .S a s d rfl e
      have ht := (List.tail_suffix s).length_le
      rw [sh .S s.tail (by omega)]
    | B =>
      refine must_congr fun p r e => ?_
      subst e
      rw [sh _ r (by simp)]
    | L b d stop =>
      rw [gr_L, gr_L]
      split
      · rfl
      split
      · rfl
      show bnd (gr (f + 1) .T ws) _ = bnd (gr f .T ws) _
      rw [ih .T ws (by simp only [fuelQ] at h ⊢; omega)]
      exact bnd_congr fun a s d e => sh _ _ (lo .T a s d rfl e)
    | T =>
      cases ws with
      | nil => rfl
      | cons p r =>
        have h1 := fun q' => sh q' r (by simp)
        have h2 := fun q' => sh q' r.tail (by have := (List.tail_suffix r).length_le; simp; omega)
        rw [gr_T, gr_T, h1, h2]
        have EB : ∀ (k k' : Nd → List Pc → Nat → Rr), (∀ a s d, s.length < r.length → k a s d = k' a s d) → bnd (gr f .E r) k = bnd (gr f .E r) k' := fun k k' hk => bnd_congr fun a s d e => hk a s d (((gr_suf f .E r).ok a s d e).2 rfl)
        have BB : ∀ (s : List Pc) (k k' : Nd → List Pc → Nat → Rr), s.length < r.length → (∀ a s2 d, s2.length < s.length → k a s2 d = k' a s2 d) → bnd (gr (f + 1) .B s) k = bnd (gr f .B s) k' := fun s k k' hs hk => by
          rw [sh .B s (by simp; omega)]
          exact bnd_congr fun a s2 d e => hk a s2 d (((gr_suf f .B s).ok a s2 d e).2 rfl)
        congr 1
        · refine EB _ _ fun a s d hs => BB s _ _ hs fun b s2 d2 hs2 => ?_
          have := (List.tail_suffix s2).length_le
          rw [sh .B s2.tail (by simp; omega)]
        congr 1
        · exact EB _ _ fun a s d hs => BB s _ _ hs fun b s2 d2 hs2 => rfl
        congr 1
        congr 1
        congr 1
        congr 1
        · refine bnd_congr fun a s d e => must_congr fun p2 r2 e2 => must_congr fun p3 r3 e3 => ?_
          subst e2
          subst e3
          have hs := ((gr_suf f .E r.tail).ok a _ d e).1.length_le
          have ht := (List.tail_suffix r).length_le
          simp only [List.length_cons] at hs
          rw [sh .E r3 (by simp; omega)]
        · refine must_congr fun p3 r3 e3 => ?_
          subst e3
          rw [sh .E r3 (by simp; omega)]
theorem gr_enough {f : Nat} {q : Gr} {ws : List Pc} (h : 8 * ws.length + fuelQ q ≤ f) : ∀ g, f ≤ g → gr g q ws = gr f q ws := by
  intro g hg
  induction hg with
  | refl => rfl
  | step hg ih => rw [gr_step _ _ _ (Nat.le_trans h hg), ih]
/-- the words read -/
def grE (q : Gr) (ws : List Pc) : Rr := gr (8 * ws.length + 7) q ws
theorem fuelQ_le (q : Gr) : fuelQ q ≤ 7 := by cases q <;> simp [fuelQ]
theorem grE_eq {f : Nat} {q : Gr} {ws : List Pc} (h : 8 * ws.length + fuelQ q ≤ f) : gr f q ws = grE q ws := by
  rcases Nat.le_total f (8 * ws.length + 7) with h1 | h1
  · exact (gr_enough h _ h1).symm
  · exact gr_enough (by have := fuelQ_le q; omega) _ h1
theorem grE_of {f : Nat} {q : Gr} {ws : List Pc} {y : Nd × List Pc × Nat} (h : gr f q ws = .ok y) : grE q ws = .ok y := by
  have h2 := gr_up (g := f + (8 * ws.length + 7)) (by omega) h
  rwa [grE_eq (by have := fuelQ_le q; omega)] at h2
/-- a block of both's statements -/
def appN (b : Nd) : Nd → Nd
  | .snoc c s => .snoc (appN b c) s
  | _ => b
def liftR (b : Nd) (d : Nat) (r : Rr) : Rr := match r with | .ok (x, s, e) => .ok (appN b x, s, max d e) | .error k => .error k
theorem gr_acc : ∀ (f : Nat) (b c : Nd) (d e : Nat) (st : Bool) (ws : List Pc), gr f (.L (appN b c) (max d e) st) ws = liftR b d (gr f (.L c e st) ws) := by
  intro f
  induction f with
  | zero => intros; rfl
  | succ f ih =>
    intro b c d e st ws
    rw [gr_L, gr_L]
    split
    · rfl
    split
    · rfl
    cases h : gr f .T ws with
    | error k => rfl
    | ok y =>
      obtain ⟨a, s, d2⟩ := y
      show gr f (.L (.snoc (appN b c) a) (max (max d e) d2) st) s = liftR b d (gr f (.L (.snoc c a) (max e d2) st) s)
      rw [← ih, Nat.max_assoc]
      rfl
theorem must_is {α : Type} {t : Bs} {p : Pc} {r : List Pc} {k : List Pc → Except Nat α} (h : isW t p = true) : must t (p :: r) k = k r := by
  show (if isW t p then k r else _) = _
  rw [if_pos h]
/-- a block, whatever is behind it -/
theorem gr_B_app {f : Nat} {ws s m : List Pc} {x : Nd} {d : Nat} (h : gr f .B ws = .ok (x, s, d)) : gr f .B (ws ++ m) = .ok (x, s ++ m, d) := by
  cases f with
  | zero => cases h
  | succ f =>
    obtain ⟨p, r, rfl, h1, h2⟩ := must_ok h
    obtain ⟨b, s2, d2, h3, h4⟩ := bnd_ok h2
    obtain ⟨p2, r2, rfl, h5, h6⟩ := must_ok h4
    injection h6 with h6; injection h6 with e1 h6; injection h6 with e2 e3
    subst e1 e2 e3
    show must [123] (p :: (r ++ m)) _ = _
    rw [must_is h1, bnd_is ((gr_ext m f _ r).ok b (p2 :: r2) d2 h3 (by simp))]
    exact must_is h5
/-- a statement at the words' end, and others behind it -/
theorem gr_T_end {f : Nat} {ws m : List Pc} {x : Nd} {d : Nat} (h : gr f .T ws = .ok (x, [], d)) (hm : hdW [101, 108, 115, 101] m = false) : gr f .T (ws ++ m) = .ok (x, m, d) := by
  cases f with
  | zero => cases h
  | succ f =>
    cases ws with
    | nil => cases h
    | cons p r =>
      have EX : ∀ (r : List Pc) (a : Nd) (s : List Pc) (d : Nat), gr f .E r = .ok (a, s, d) → s ≠ [] → gr f .E (r ++ m) = .ok (a, s ++ m, d) := fun r a s d e hs => (gr_ext m f .E r).ok a s d e hs
      rw [List.cons_append, gr_T]
      rw [gr_T] at h
      have B0 : ∀ y, gr f .B [] = .ok y → False := fun y e => by cases f <;> cases e
      split at h
      · rename_i c1
        rw [if_pos c1]
        obtain ⟨a, s, d1, h1, h2⟩ := bnd_ok h
        obtain ⟨b, s2, d2, h3, h4⟩ := bnd_ok h2
        have hs : s ≠ [] := fun e => by rw [e] at h3; exact B0 _ h3
        rw [bnd_is (EX _ _ _ _ h1 hs), bnd_is (gr_B_app h3)]
        split at h4
        · rename_i c2
          obtain ⟨c, s3, d3, h5, h6⟩ := bnd_ok h4
          injection h6 with h6; injection h6 with e1 h6; injection h6 with e2 e3
          subst e1 e2 e3
          have hs2 : s2 ≠ [] := fun e => by rw [e] at h5; exact B0 _ h5
          rw [hdW_app m hs2, tail_app m hs2, if_pos c2, bnd_is (gr_B_app h5)]
          rfl
        · injection h4 with h4; injection h4 with e1 h4; injection h4 with e2 e3
          subst e1 e2 e3
          rw [List.nil_append, hm]
          rfl
      rename_i c1
      rw [if_neg c1]
      split at h
      · rename_i c2
        rw [if_pos c2]
        obtain ⟨a, s, d1, h1, h2⟩ := bnd_ok h
        obtain ⟨b, s2, d2, h3, h4⟩ := bnd_ok h2
        injection h4 with h4; injection h4 with e1 h4; injection h4 with e2 e3
        subst e1 e2 e3
        have hs : s ≠ [] := fun e => by rw [e] at h3; exact B0 _ h3
        rw [bnd_is (EX _ _ _ _ h1 hs), bnd_is (gr_B_app h3)]
        rfl
      rename_i c2
      rw [if_neg c2]
      split at h
      · rename_i c3
        rw [if_pos c3]
        obtain ⟨a, s, d1, h1, h2⟩ := bnd_ok h
        obtain ⟨p2, r2, rfl, h5, h6⟩ := must_ok h2
        injection h6 with h6; injection h6 with e1 h6; injection h6 with e2 e3
        subst e1 e2 e3
        rw [bnd_is (EX _ _ _ _ h1 (by simp))]
        exact must_is h5
      rename_i c3
      rw [if_neg c3]
      split at h
      · rename_i c4
        rw [if_pos c4]
        obtain ⟨a, s, d1, h1, h2⟩ := bnd_ok h
        obtain ⟨p2, r2, rfl, h5, h6⟩ := must_ok h2
        injection h6 with h6; injection h6 with e1 h6; injection h6 with e2 e3
        subst e1 e2 e3
        rw [bnd_is (EX _ _ _ _ h1 (by simp))]
        exact must_is h5
      rename_i c4
      rw [if_neg c4]
      split at h
      · rename_i c5
        rw [if_pos c5]
        split at h
        · rename_i c6
          have hr : r ≠ [] := fun e => by rw [e] at c6; cases c6
          rw [hdW_app m hr, tail_app m hr, if_pos c6]
          obtain ⟨a, s, d1, h1, h2⟩ := bnd_ok h
          obtain ⟨p2, r2, rfl, h5, h6⟩ := must_ok h2
          obtain ⟨p3, r3, rfl, h7, h8⟩ := must_ok h6
          obtain ⟨b, s2, d2, h9, h10⟩ := bnd_ok h8
          obtain ⟨p4, r4, rfl, h11, h12⟩ := must_ok h10
          injection h12 with h6; injection h6 with e1 h6; injection h6 with e2 e3
          subst e1 e2 e3
          rw [bnd_is (EX _ _ _ _ h1 (by simp))]
          refine (must_is h5).trans ((must_is h7).trans ?_)
          show bnd (gr f .E (r3 ++ m)) _ = _
          rw [bnd_is (EX _ _ _ _ h9 (by simp))]
          exact must_is h11
        · rename_i c6
          obtain ⟨p3, r3, rfl, h7, h8⟩ := must_ok h
          obtain ⟨b, s2, d2, h9, h10⟩ := bnd_ok h8
          obtain ⟨p4, r4, rfl, h11, h12⟩ := must_ok h10
          injection h12 with h6; injection h6 with e1 h6; injection h6 with e2 e3
          subst e1 e2 e3
          rw [hdW_app m (by simp), if_neg c6]
          refine (must_is h7).trans ?_
          show bnd (gr f .E (r3 ++ m)) _ = _
          rw [bnd_is (EX _ _ _ _ h9 (by simp))]
          exact must_is h11
      · cases h
/-- statements to the words' end, and others behind them -/
theorem gr_join {w2 : List Pc} {y : Nd × List Pc × Nat} (hm : hdW [101, 108, 115, 101] w2 = false) (g : Nat) : ∀ (f : Nat) (b : Nd) (d : Nat) (w1 : List Pc) (b1 : Nd) (d1 : Nat), gr f (.L b d false) w1 = .ok (b1, [], d1) → gr g (.L b1 d1 false) w2 = .ok y → ∃ f', gr f' (.L b d false) (w1 ++ w2) = .ok y := by
  intro f
  induction f with
  | zero => intro b d w1 b1 d1 h; cases h
  | succ f ih =>
    intro b d w1 b1 d1 h h2
    rw [gr_L] at h
    split at h
    · rename_i hw
      subst hw
      injection h with h; injection h with e1 h; injection h with e2 e3
      subst e1 e3
      exact ⟨g, h2⟩
    rename_i hw
    rw [Bool.false_and, if_neg (by decide)] at h
    obtain ⟨a, s, d2, h3, h4⟩ := bnd_ok h
    obtain ⟨f', h5⟩ := ih _ _ _ _ _ h4 h2
    refine ⟨max f f' + 1, ?_⟩
    rw [gr_L, if_neg (fun e => hw (List.append_eq_nil_iff.1 e).1), Bool.false_and, if_neg (by decide)]
    have hT : gr f .T (w1 ++ w2) = .ok (a, s ++ w2, d2) := by
      by_cases hs : s = []
      · subst hs
        exact gr_T_end h3 hm
      · exact (gr_ext w2 f .T w1).ok a s d2 h3 hs
    rw [bnd_is (gr_up (Nat.le_max_left _ _) hT)]
    exact gr_up (Nat.le_max_right _ _) h5
theorem L_false_nil : ∀ (f : Nat) (b : Nd) (d : Nat) (ws : List Pc) (x : Nd) (s : List Pc) (e : Nat), gr f (.L b d false) ws = .ok (x, s, e) → s = [] := by
  intro f
  induction f with
  | zero => intro b d ws x s e h; cases h
  | succ f ih =>
    intro b d ws x s e h
    rw [gr_L] at h
    split at h
    · rename_i hw
      injection h with h; injection h with e1 h; injection h with e2 e3
      rw [← e2]; exact hw
    · rw [Bool.false_and, if_neg (by decide)] at h
      obtain ⟨a, s2, d2, h3, h4⟩ := bnd_ok h
      exact ih _ _ _ _ _ _ h4
/-- a program's statements don't begin with else -/
theorem no_else {f : Nat} {b : Nd} {d : Nat} {ws : List Pc} {y : Nd × List Pc × Nat} (h : gr f (.L b d false) ws = .ok y) (hk : ∀ p ∈ ws, WordOk p) : hdW [101, 108, 115, 101] ws = false := by
  cases ws with
  | nil => rfl
  | cons p r =>
    cases hh : isW [101, 108, 115, 101] p with
    | false => exact hh
    | true =>
      exfalso
      unfold isW at hh
      simp only [Bool.and_eq_true, decide_eq_true_eq] at hh
      have kk := (hk p (List.mem_cons_self ..)).kK.2 (by rw [hh.2]; decide)
      have nw : ∀ t : Bs, t ≠ [101, 108, 115, 101] → isW t p = false := fun t ht => by unfold isW; simp only [hh.2]; simp [ht.symm]
      cases f with
      | zero => cases h
      | succ f =>
        rw [gr_L, if_neg (by simp), Bool.false_and, if_neg (by decide)] at h
        obtain ⟨a, s, d2, h3, h4⟩ := bnd_ok h
        cases f with
        | zero => cases h3
        | succ f =>
          rw [gr_T, nw _ (by decide), nw _ (by decide), nw _ (by decide), nw _ (by decide), if_neg (by decide), if_neg (by decide), if_neg (by decide), if_neg (by decide), if_neg (by rw [kk]; decide)] at h3
          cases h3
theorem grE_join {w1 w2 : List Pc} {b1 b2 : Nd} {s1 s2 : List Pc} {d1 d2 : Nat} (h1 : grE (.L .nil 0 false) w1 = .ok (b1, s1, d1)) (h2 : grE (.L .nil 0 false) w2 = .ok (b2, s2, d2)) (hk : ∀ p ∈ w2, WordOk p) : grE (.L .nil 0 false) (w1 ++ w2) = .ok (appN b1 b2, [], max d1 d2) := by
  obtain rfl := L_false_nil _ _ _ _ _ _ _ h1
  obtain rfl := L_false_nil _ _ _ _ _ _ _ h2
  have h3 := gr_acc (8 * w2.length + 7) b1 .nil d1 0 false w2
  have e : gr (8 * w2.length + 7) (.L .nil 0 false) w2 = .ok (b2, [], d2) := h2
  rw [e] at h3
  have h4 : gr (8 * w2.length + 7) (.L b1 d1 false) w2 = .ok (appN b1 b2, [], max d1 d2) := by
    rw [show appN b1 .nil = b1 from rfl, Nat.max_zero] at h3
    exact h3
  obtain ⟨f', h5⟩ := gr_join (no_else h2 hk) _ _ _ _ _ _ _ h1 h4
  exact grE_of h5
/-- how many nodes: a block is one -/
def cnt : Nd → Nat
  | .num _ => 1 | .var _ => 1 | .get _ a => cnt a + 1 | .inp => 1 | .neg a => cnt a + 1 | .bin _ a b => cnt a + cnt b + 1
  | .set _ a => cnt a + 1 | .put _ a b => cnt a + cnt b + 1 | .ife a b => cnt a + cnt b + 1 | .ifel a b c => cnt a + cnt b + cnt c + 1
  | .whi a b => cnt a + cnt b + 1 | .out a => cnt a + 1 | .exi a => cnt a + 1 | .nil => 1 | .snoc b s => cnt b + cnt s
/-- of which kind: 1 a value, 2 a statement, 3 a block -/
def okN : Nat → Nd → Prop
  | 1, .num v => 0 ≤ v ∧ v ≤ 4294967295 | 1, .var t => WordOk (110, t, 0) | 1, .get t a => WordOk (110, t, 0) ∧ okN 1 a | 1, .inp => True | 1, .neg a => okN 1 a
  | 1, .bin o a b => (o = 3 ∨ o = 4 ∨ o = 5 ∨ o = 6 ∨ o = 7 ∨ o = 13 ∨ o = 14) ∧ okN 1 a ∧ okN 1 b
  | 2, .set t a => WordOk (110, t, 0) ∧ okN 1 a | 2, .put t a b => WordOk (110, t, 0) ∧ okN 1 a ∧ okN 1 b
  | 2, .ife a b => okN 1 a ∧ okN 3 b | 2, .ifel a b c => okN 1 a ∧ okN 3 b ∧ okN 3 c | 2, .whi a b => okN 1 a ∧ okN 3 b | 2, .out a => okN 1 a | 2, .exi a => okN 1 a
  | 3, .nil => True | 3, .snoc b s => okN 3 b ∧ okN 2 s
  | _, _ => False
theorem cnt_pos : ∀ x : Nd, 1 ≤ cnt x := by
  intro x
  induction x <;> simp only [cnt] <;> omega
theorem cnt_app (b c : Nd) (hc : okN 3 c) : cnt (appN b c) + 1 = cnt b + cnt c := by
  induction c with
  | nil => rfl
  | snoc c s ih1 ih2 =>
    have := ih1 hc.1
    show cnt (appN b c) + cnt s + 1 = cnt b + (cnt c + cnt s)
    omega
  | _ => exact hc.elim
/-- how many statements -/
def lenN : Nd → Nat | .snoc b s => lenN b + 1 | _ => 0
theorem len_app (b c : Nd) (hc : okN 3 c) : lenN (appN b c) = lenN b + lenN c := by
  induction c with
  | nil => rfl
  | snoc c s ih1 ih2 =>
    have := ih1 hc.1
    show lenN (appN b c) + 1 = lenN b + (lenN c + 1)
    omega
  | _ => exact hc.elim
theorem grE_suf (q : Gr) (ws : List Pc) : Suf (tkW q) ws (grE q ws) := gr_suf _ q ws
theorem grE_sh {q : Gr} {s ws : List Pc} (h : s.length < ws.length) : gr (8 * ws.length + 6) q s = grE q s := grE_eq (by have := fuelQ_le q; omega)
theorem grE_nil_V : grE .V [] = .error 0 := rfl
theorem grE_nil_T : grE .T [] = .error 0 := rfl
theorem grE_V (p : Pc) (r : List Pc) : grE .V (p :: r) = if p.1 = 48 then .ok (.num p.2.2, r, 1)
      else if p.1 = 110 then
        if hdW [91] r then bnd (grE .E r.tail) fun a s d => must [93] s fun s => .ok (.get p.2.1 a, s, d + 1)
        else .ok (.var p.2.1, r, 1)
      else if isW [105, 110] p then .ok (.inp, r, 1)
      else if isW [45] p then bnd (grE .V r) fun a s d => .ok (.neg a, s, d + 1)
      else if isW [40] p then bnd (grE .E r) fun a s d => must [41] s fun s => .ok (a, s, d + 1)
      else .error (r.length + 1) := by
  show gr (8 * (p :: r).length + 6 + 1) .V (p :: r) = _
  have ht := (List.tail_suffix r).length_le
  rw [gr_V, grE_sh (by simp; omega), grE_sh (by simp), grE_sh (by simp)]
theorem grE_P (ws : List Pc) : grE .P ws = bnd (grE .V ws) fun a s d => grE (.Pl a d) s := by
  show bnd (gr (8 * ws.length + 6) .V ws) _ = _
  rw [grE_eq (q := .V) (by simp only [fuelQ]; omega)]
  exact bnd_congr fun a s d e => grE_sh (((grE_suf .V ws).ok a s d e).2 rfl)
theorem grE_S (ws : List Pc) : grE .S ws = bnd (grE .P ws) fun a s d => grE (.Sl a d) s := by
  show bnd (gr (8 * ws.length + 6) .P ws) _ = _
  rw [grE_eq (q := .P) (by simp only [fuelQ]; omega)]
  exact bnd_congr fun a s d e => grE_sh (((grE_suf .P ws).ok a s d e).2 rfl)
theorem grE_Pl (a : Nd) (d : Nat) (ws : List Pc) : grE (.Pl a d) ws = match opP ws with
    | none => .ok (a, ws, d)
    | some o => bnd (grE .V ws.tail) fun b s d2 => grE (.Pl (.bin o a b) (max d d2)) s := by
  show gr (8 * ws.length + 6 + 1) (.Pl a d) ws = _
  rw [gr_Pl]
  cases ws with
  | nil => rfl
  | cons p r =>
    rw [grE_sh (by simp)]
    cases opP (p :: r) with
    | none => rfl
    | some o => exact bnd_congr fun b s d2 e => grE_sh (by have := ((grE_suf .V r).ok b s d2 e).1.length_le; simp; omega)
theorem grE_Sl (a : Nd) (d : Nat) (ws : List Pc) : grE (.Sl a d) ws = match opS ws with
    | none => .ok (a, ws, d)
    | some o => bnd (grE .P ws.tail) fun b s d2 => grE (.Sl (.bin o a b) (max d d2)) s := by
  show gr (8 * ws.length + 6 + 1) (.Sl a d) ws = _
  rw [gr_Sl]
  cases ws with
  | nil => rfl
  | cons p r =>
    rw [grE_sh (by simp)]
    cases opS (p :: r) with
    | none => rfl
    | some o => exact bnd_congr fun b s d2 e => grE_sh (by have := ((grE_suf .P r).ok b s d2 e).1.length_le; simp; omega)
theorem grE_E (ws : List Pc) : grE .E ws = bnd (grE .S ws) fun a s d => match opE s with
    | none => .ok (a, s, d + 1)
    | some o => bnd (grE .S s.tail) fun b s2 d2 => .ok (.bin o a b, s2, max d d2 + 1) := by
  show bnd (gr (8 * ws.length + 6) .S ws) _ = _
  rw [grE_eq (q := .S) (by simp only [fuelQ]; omega)]
  refine bnd_congr fun a s d e => ?_
  have := ((grE_suf .S ws).ok a s d e).2 rfl
  have ht := (List.tail_suffix s).length_le
  rw [grE_sh (by omega)]
  all_goals (cases opE s <;> rfl)
theorem grE_B (ws : List Pc) : grE .B ws = must [123] ws fun s => bnd (grE (.L .nil 0 true) s) fun b s2 d => must [125] s2 fun s3 => .ok (b, s3, d) := by
  refine must_congr fun p r e => ?_
  subst e
  rw [grE_sh (by simp)]
theorem grE_L (b : Nd) (d : Nat) (stop : Bool) (ws : List Pc) : grE (.L b d stop) ws = if ws = [] then .ok (b, ws, d)
    else if stop && hdW [125] ws then .ok (b, ws, d)
    else bnd (grE .T ws) fun a s d2 => grE (.L (.snoc b a) (max d d2) stop) s := by
  show gr (8 * ws.length + 6 + 1) (.L b d stop) ws = _
  rw [gr_L, grE_eq (q := .T) (by simp only [fuelQ]; omega), bnd_congr fun a s d2 e => grE_sh (((grE_suf .T ws).ok a s d2 e).2 rfl)]
theorem ite_c {c : Prop} [Decidable c] {a a' b b' : Rr} (h : a = a') (h' : b = b') : (if c then a else b) = (if c then a' else b') := by rw [h, h']
set_option maxHeartbeats 2000000 in
theorem grE_T (p : Pc) (r : List Pc) : grE .T (p :: r) = if isW [105, 102] p then bnd (grE .E r) fun a s d => bnd (grE .B s) fun b s2 d2 =>
        if hdW [101, 108, 115, 101] s2 then bnd (grE .B s2.tail) fun c s3 d3 => .ok (.ifel a b c, s3, max (max d d2) d3 + 1)
        else .ok (.ife a b, s2, max d d2 + 1)
      else if isW [119, 104, 105, 108, 101] p then bnd (grE .E r) fun a s d => bnd (grE .B s) fun b s2 d2 => .ok (.whi a b, s2, max d d2 + 1)
      else if isW [111, 117, 116] p then bnd (grE .E r) fun a s d => must [59] s fun s => .ok (.out a, s, d + 1)
      else if isW [101, 120, 105, 116] p then bnd (grE .E r) fun a s d => must [59] s fun s => .ok (.exi a, s, d + 1)
      else if p.1 = 110 then
        if hdW [91] r then bnd (grE .E r.tail) fun a s d => must [93] s fun s => must [61] s fun s => bnd (grE .E s) fun b s2 d2 => must [59] s2 fun s3 => .ok (.put p.2.1 a b, s3, max d d2 + 1)
        else must [61] r fun s => bnd (grE .E s) fun b s2 d2 => must [59] s2 fun s3 => .ok (.set p.2.1 b, s3, d2 + 1)
      else .error (r.length + 1) := by
  show gr (8 * (p :: r).length + 6 + 1) .T (p :: r) = _
  have ht := (List.tail_suffix r).length_le
  have lE : ∀ (w : List Pc) (a : Nd) (s : List Pc) (d : Nat), w.length ≤ r.length → grE .E w = .ok (a, s, d) → s.length < (p :: r).length := fun w a s d hw e => by
    have := ((grE_suf .E w).ok a s d e).1.length_le
    simp; omega
  have lB : ∀ (w : List Pc) (a : Nd) (s : List Pc) (d : Nat), w.length < (p :: r).length → grE .B w = .ok (a, s, d) → s.tail.length < (p :: r).length := fun w a s d hw e => by
    have := ((grE_suf .B w).ok a s d e).1.length_le
    have := (List.tail_suffix s).length_le
    omega
  rw [gr_T, grE_sh (by simp), grE_sh (by simp; omega)]
  refine ite_c ?_ (ite_c ?_ (ite_c rfl (ite_c rfl (ite_c (ite_c ?_ ?_) rfl))))
  · refine bnd_congr fun a s d e => ?_
    have hs := lE r a s d (Nat.le_refl _) e
    rw [grE_sh hs]
    refine bnd_congr fun b s2 d2 e2 => ?_
    rw [grE_sh (lB s b s2 d2 hs e2)]
  · exact bnd_congr fun a s d e => by rw [grE_sh (lE r a s d (Nat.le_refl _) e)]
  · refine bnd_congr fun a s d e => must_congr fun p2 r2 e2 => must_congr fun p3 r3 e3 => ?_
    subst e2
    subst e3
    have := lE _ a _ d ht e
    simp only [List.length_cons] at this
    rw [grE_sh (by simp; omega)]
  · refine must_congr fun p3 r3 e3 => ?_
    subst e3
    rw [grE_sh (by simp; omega)]

/-- the words of what is shown -/
def sgW (t : Bs) : Pc := (115, t, 0)
def kyW (t : Bs) : Pc := (107, t, 0)
def nmW (t : Bs) : Pc := (110, t, 0)
/-- a number's digits -/
def digB (n : Nat) : Bs := if n < 10 then [UInt8.ofNat (48 + n)] else digB (n / 10) ++ [UInt8.ofNat (48 + n % 10)]
def nbW (v : Int) : Pc := (48, digB v.toNat, v)
def opW (o : Int) : Bs := if o = 3 then [43] else if o = 4 then [45] else if o = 5 then [42] else if o = 6 then [47] else if o = 7 then [37] else if o = 13 then [60] else [61, 61]
def shw : Nd → List Pc
  | .num v => [nbW v] | .var t => [nmW t] | .get t a => nmW t :: sgW [91] :: (shw a ++ [sgW [93]]) | .inp => [kyW [105, 110]]
  | .neg a => sgW [40] :: sgW [45] :: (shw a ++ [sgW [41]]) | .bin o a b => sgW [40] :: (shw a ++ sgW (opW o) :: (shw b ++ [sgW [41]]))
  | .set t a => nmW t :: sgW [61] :: (shw a ++ [sgW [59]]) | .put t a b => nmW t :: sgW [91] :: (shw a ++ sgW [93] :: sgW [61] :: (shw b ++ [sgW [59]]))
  | .ife a b => kyW [105, 102] :: (shw a ++ sgW [123] :: (shw b ++ [sgW [125]]))
  | .ifel a b c => kyW [105, 102] :: (shw a ++ sgW [123] :: (shw b ++ sgW [125] :: kyW [101, 108, 115, 101] :: sgW [123] :: (shw c ++ [sgW [125]])))
  | .whi a b => kyW [119, 104, 105, 108, 101] :: (shw a ++ sgW [123] :: (shw b ++ [sgW [125]]))
  | .out a => kyW [111, 117, 116] :: (shw a ++ [sgW [59]]) | .exi a => kyW [101, 120, 105, 116] :: (shw a ++ [sgW [59]])
  | .nil => [] | .snoc b s => shw b ++ shw s
/-- how deep it is when it is read again -/
def dpt : Nd → Nat
  | .num _ => 1 | .var _ => 1 | .get _ a => dpt a + 2 | .inp => 1 | .neg a => dpt a + 3 | .bin _ a b => max (dpt a) (dpt b) + 2
  | .set _ a => dpt a + 2 | .put _ a b => max (dpt a + 1) (dpt b + 1) + 1 | .ife a b => max (dpt a + 1) (dpt b) + 1 | .ifel a b c => max (max (dpt a + 1) (dpt b)) (dpt c) + 1
  | .whi a b => max (dpt a + 1) (dpt b) + 1 | .out a => dpt a + 2 | .exi a => dpt a + 2 | .nil => 0 | .snoc b s => max (dpt b) (dpt s)
/-- what may stand behind a value without being part of it -/
structure Behind (r : List Pc) : Prop where
  br : hdW [91] r = false
  p : opP r = none
  s : opS r = none
  e : opE r = none
theorem behind_sg (t : Bs) (r : List Pc) (h : t = [41] ∨ t = [93] ∨ t = [59] ∨ t = [123]) : Behind (sgW t :: r) := by
  rcases h with rfl | rfl | rfl | rfl <;> exact ⟨rfl, rfl, rfl, rfl⟩
theorem E_of_V {ws r : List Pc} {x : Nd} {d : Nat} (h : grE .V ws = .ok (x, r, d)) (b : Behind r) : grE .P ws = .ok (x, r, d) ∧ grE .S ws = .ok (x, r, d) ∧ grE .E ws = .ok (x, r, d + 1) := by
  have h1 : grE .P ws = .ok (x, r, d) := by rw [grE_P, bnd_is h, grE_Pl, b.p]
  have h2 : grE .S ws = .ok (x, r, d) := by rw [grE_S, bnd_is h1, grE_Sl, b.s]
  refine ⟨h1, h2, ?_⟩
  rw [grE_E, bnd_is h2, b.e]
theorem V_br (r : List Pc) {y : Nd} {r2 : List Pc} {d : Nat} (h : grE .E r = .ok (y, sgW [41] :: r2, d)) : grE .V (sgW [40] :: r) = .ok (y, r2, d + 1) := by
  rw [grE_V, if_neg (by decide), if_neg (by decide), if_neg (by decide), if_neg (by decide), if_pos (by decide), bnd_is h]
  rfl
theorem app2 (a b : List Pc) (x : Pc) (r : List Pc) : (a ++ x :: b) ++ r = a ++ x :: (b ++ r) := by simp
/-- how a statement's words begin -/
theorem stm_head {s : Nd} (h : okN 2 s) : ∃ p r, shw s = p :: r ∧ isW [125] p = false ∧ isW [101, 108, 115, 101] p = false := by
  have nm : ∀ t, WordOk (110, t, 0) → isW [125] (nmW t) = false ∧ isW [101, 108, 115, 101] (nmW t) = false := by
    intro t ht
    refine ⟨?_, ?_⟩
    · have := ht.kL
      unfold isW nmW
      by_cases e : t = [125]
      · subst e; exact absurd (this.2 (.inl rfl)) (by decide)
      · simp [e]
    · have := ht.kK
      unfold isW nmW
      by_cases e : t = [101, 108, 115, 101]
      · subst e; exact absurd (this.2 (by decide)) (by decide)
      · simp [e]
  cases s with
  | set t a => exact ⟨_, _, rfl, nm t h.1⟩
  | put t a b => exact ⟨_, _, rfl, nm t h.1⟩
  | ife a b => exact ⟨_, _, rfl, rfl, rfl⟩
  | ifel a b c => exact ⟨_, _, rfl, rfl, rfl⟩
  | whi a b => exact ⟨_, _, rfl, rfl, rfl⟩
  | out a => exact ⟨_, _, rfl, rfl, rfl⟩
  | exi a => exact ⟨_, _, rfl, rfl, rfl⟩
  | _ => exact h.elim
theorem isW_nm (t u : Bs) : isW t (nmW u) = decide (u = t) := by unfold isW nmW; simp
theorem name_not {t u : Bs} (h : WordOk (110, u, 0)) (ht : isL (t.headD 0) = false ∨ isK t = true) : isW t (nmW u) = false := by
  rw [isW_nm]
  by_cases e : u = t
  · subst e
    rcases ht with ht | ht
    · exact absurd (h.kL.2 (.inl rfl)) (by rw [ht]; decide)
    · exact absurd (h.kK.2 ht) (show ¬ ((110 : Int) = 107) by decide)
  · simp [e]
theorem nm48 (t : Bs) : ¬ (nmW t).1 = 48 := show ¬ ((110 : Int) = 48) by decide
theorem nm110 (t : Bs) : (nmW t).1 = 110 := rfl
set_option maxHeartbeats 2000000 in
/-- what is shown is read as it was -/
theorem read_shw : ∀ x : Nd, (okN 1 x → ∀ r, hdW [91] r = false → grE .V (shw x ++ r) = .ok (x, r, dpt x)) ∧
    (okN 2 x → ∀ r, hdW [101, 108, 115, 101] r = false → grE .T (shw x ++ r) = .ok (x, r, dpt x)) ∧
    (okN 3 x → ∀ stop r, hdW [101, 108, 115, 101] r = false → grE (.L .nil 0 stop) (shw x ++ r) = grE (.L x (dpt x) stop) r) := by
  intro x
  have BB : ∀ {b : Nd} (hb : ∀ stop r, hdW [101, 108, 115, 101] r = false → grE (.L .nil 0 stop) (shw b ++ r) = grE (.L b (dpt b) stop) r) (r : List Pc), grE .B (sgW [123] :: (shw b ++ sgW [125] :: r)) = .ok (b, r, dpt b) := by
    intro b hb r
    rw [grE_B, must_is (by decide), hb true _ (by rfl), grE_L, if_neg (by simp)]
    rfl
  induction x with
  | num v => exact ⟨fun h r hr => by show grE .V (nbW v :: r) = _; rw [grE_V]; rfl, fun h => h.elim, fun h => h.elim⟩
  | var t => exact ⟨fun h r hr => by show grE .V (nmW t :: r) = _; rw [grE_V, if_neg (nm48 t), if_pos (nm110 t), hr]; rfl, fun h => h.elim, fun h => h.elim⟩
  | get t a iha =>
    refine ⟨fun h r hr => ?_, fun h => h.elim, fun h => h.elim⟩
    show grE .V (nmW t :: sgW [91] :: ((shw a ++ [sgW [93]]) ++ r)) = _
    rw [app2, grE_V, if_neg (nm48 t), if_pos (nm110 t), if_pos (by rfl)]
    show bnd (grE .E (shw a ++ sgW [93] :: r)) _ = _
    rw [bnd_is (E_of_V (iha.1 h.2 (sgW [93] :: r) rfl) (behind_sg _ _ (by decide))).2.2]
    rfl
  | inp => exact ⟨fun h r hr => by show grE .V (kyW [105, 110] :: r) = _; rw [grE_V]; rfl, fun h => h.elim, fun h => h.elim⟩
  | neg a iha =>
    refine ⟨fun h r hr => ?_, fun h => h.elim, fun h => h.elim⟩
    show grE .V (sgW [40] :: sgW [45] :: ((shw a ++ [sgW [41]]) ++ r)) = _
    rw [app2]
    have h1 : grE .V (sgW [45] :: (shw a ++ sgW [41] :: r)) = .ok (.neg a, sgW [41] :: r, dpt a + 1) := by
      rw [grE_V, if_neg (by decide), if_neg (by decide), if_neg (by decide), if_pos (by decide), bnd_is (iha.1 h (sgW [41] :: r) rfl)]
    exact V_br _ (E_of_V h1 (behind_sg _ _ (by decide))).2.2
  | bin o a b iha ihb =>
    refine ⟨fun h r hr => ?_, fun h => h.elim, fun h => h.elim⟩
    show grE .V (sgW [40] :: ((shw a ++ sgW (opW o) :: (shw b ++ [sgW [41]])) ++ r)) = _
    rw [app2, app2, List.nil_append]
    obtain ⟨ho, ha, hb⟩ := h
    have eb := E_of_V (ihb.1 hb (sgW [41] :: r) rfl) (behind_sg _ _ (by decide))
    refine V_br _ (d := max (dpt a) (dpt b) + 1) ?_
    have ea := iha.1 ha (sgW (opW o) :: (shw b ++ sgW [41] :: r)) (by rcases ho with rfl | rfl | rfl | rfl | rfl | rfl | rfl <;> rfl)
    have PP : opP (sgW (opW o) :: (shw b ++ sgW [41] :: r)) = some o → grE .P (shw a ++ sgW (opW o) :: (shw b ++ sgW [41] :: r)) = .ok (.bin o a b, sgW [41] :: r, max (dpt a) (dpt b)) := fun e => by
      rw [grE_P, bnd_is ea, grE_Pl, e]
      show bnd (grE .V (shw b ++ sgW [41] :: r)) _ = _
      rw [bnd_is (ihb.1 hb (sgW [41] :: r) rfl), grE_Pl]
      rfl
    have PN : opP (sgW (opW o) :: (shw b ++ sgW [41] :: r)) = none → grE .P (shw a ++ sgW (opW o) :: (shw b ++ sgW [41] :: r)) = .ok (a, sgW (opW o) :: (shw b ++ sgW [41] :: r), dpt a) := fun e => by
      rw [grE_P, bnd_is ea, grE_Pl, e]
    have SP : opS (sgW (opW o) :: (shw b ++ sgW [41] :: r)) = some o → opP (sgW (opW o) :: (shw b ++ sgW [41] :: r)) = none → grE .S (shw a ++ sgW (opW o) :: (shw b ++ sgW [41] :: r)) = .ok (.bin o a b, sgW [41] :: r, max (dpt a) (dpt b)) := fun e e2 => by
      rw [grE_S, bnd_is (PN e2), grE_Sl, e]
      show bnd (grE .P (shw b ++ sgW [41] :: r)) _ = _
      rw [bnd_is eb.1, grE_Sl]
      rfl
    have SN : opS (sgW (opW o) :: (shw b ++ sgW [41] :: r)) = none → opP (sgW (opW o) :: (shw b ++ sgW [41] :: r)) = none → grE .S (shw a ++ sgW (opW o) :: (shw b ++ sgW [41] :: r)) = .ok (a, sgW (opW o) :: (shw b ++ sgW [41] :: r), dpt a) := fun e e2 => by
      rw [grE_S, bnd_is (PN e2), grE_Sl, e]
    rw [grE_E]
    rcases ho with rfl | rfl | rfl | rfl | rfl | rfl | rfl
    · rw [bnd_is (SP rfl rfl)]; rfl
    · rw [bnd_is (SP rfl rfl)]; rfl
    · rw [grE_S, bnd_is (bnd_is (PP rfl) |>.trans (by rw [grE_Sl]; rfl : grE (.Sl (.bin 5 a b) (max (dpt a) (dpt b))) (sgW [41] :: r) = .ok (.bin 5 a b, sgW [41] :: r, max (dpt a) (dpt b))))]; rfl
    · rw [grE_S, bnd_is (bnd_is (PP rfl) |>.trans (by rw [grE_Sl]; rfl : grE (.Sl (.bin 6 a b) (max (dpt a) (dpt b))) (sgW [41] :: r) = .ok (.bin 6 a b, sgW [41] :: r, max (dpt a) (dpt b))))]; rfl
    · rw [grE_S, bnd_is (bnd_is (PP rfl) |>.trans (by rw [grE_Sl]; rfl : grE (.Sl (.bin 7 a b) (max (dpt a) (dpt b))) (sgW [41] :: r) = .ok (.bin 7 a b, sgW [41] :: r, max (dpt a) (dpt b))))]; rfl
    · rw [bnd_is (SN rfl rfl)]
      show bnd (grE .S (shw b ++ sgW [41] :: r)) _ = _
      rw [bnd_is eb.2.1]
    · rw [bnd_is (SN rfl rfl)]
      show bnd (grE .S (shw b ++ sgW [41] :: r)) _ = _
      rw [bnd_is eb.2.1]
  | set t a iha =>
    refine ⟨fun h => h.elim, fun h r hr => ?_, fun h => h.elim⟩
    show grE .T (nmW t :: sgW [61] :: ((shw a ++ [sgW [59]]) ++ r)) = _
    rw [app2, grE_T, name_not h.1 (.inr (by decide)), name_not h.1 (.inr (by decide)), name_not h.1 (.inr (by decide)), name_not h.1 (.inr (by decide)), if_neg (by decide), if_neg (by decide), if_neg (by decide), if_neg (by decide), if_pos (nm110 t), if_neg (show ¬ (hdW [91] (sgW [61] :: (shw a ++ sgW [59] :: ([] ++ r))) = true) from Bool.false_ne_true), must_is (by decide), List.nil_append,
      bnd_is (E_of_V (iha.1 h.2 (sgW [59] :: r) rfl) (behind_sg _ _ (by decide))).2.2]
    rfl
  | put t a b iha ihb =>
    refine ⟨fun h => h.elim, fun h r hr => ?_, fun h => h.elim⟩
    show grE .T (nmW t :: sgW [91] :: ((shw a ++ sgW [93] :: sgW [61] :: (shw b ++ [sgW [59]])) ++ r)) = _
    rw [app2, List.cons_append, app2, grE_T, name_not h.1 (.inr (by decide)), name_not h.1 (.inr (by decide)), name_not h.1 (.inr (by decide)), name_not h.1 (.inr (by decide)), if_neg (by decide), if_neg (by decide), if_neg (by decide), if_neg (by decide), if_pos (nm110 t), if_pos (by rfl), List.nil_append]
    show bnd (grE .E (shw a ++ sgW [93] :: sgW [61] :: (shw b ++ sgW [59] :: r))) _ = _
    rw [bnd_is (E_of_V (iha.1 h.2.1 (sgW [93] :: sgW [61] :: (shw b ++ sgW [59] :: r)) rfl) (behind_sg _ _ (by decide))).2.2, must_is (by decide), must_is (by decide),
      bnd_is (E_of_V (ihb.1 h.2.2 (sgW [59] :: r) rfl) (behind_sg _ _ (by decide))).2.2]
    rfl
  | ife a b iha ihb =>
    refine ⟨fun h => h.elim, fun h r hr => ?_, fun h => h.elim⟩
    show grE .T (kyW [105, 102] :: ((shw a ++ sgW [123] :: (shw b ++ [sgW [125]])) ++ r)) = _
    rw [app2, app2, grE_T, if_pos (by decide), bnd_is (E_of_V (iha.1 h.1 _ (by rfl)) (behind_sg _ _ (by decide))).2.2, List.nil_append, bnd_is (BB (ihb.2.2 h.2) r), hr]
    rfl
  | ifel a b c iha ihb ihc =>
    refine ⟨fun h => h.elim, fun h r hr => ?_, fun h => h.elim⟩
    show grE .T (kyW [105, 102] :: ((shw a ++ sgW [123] :: (shw b ++ sgW [125] :: kyW [101, 108, 115, 101] :: sgW [123] :: (shw c ++ [sgW [125]]))) ++ r)) = _
    rw [app2, app2, List.cons_append, List.cons_append, app2, grE_T, if_pos (by decide), bnd_is (E_of_V (iha.1 h.1 _ (by rfl)) (behind_sg _ _ (by decide))).2.2, bnd_is (BB (ihb.2.2 h.2.1) _), if_pos (by rfl)]
    show bnd (grE .B (sgW [123] :: (shw c ++ sgW [125] :: ([] ++ r)))) _ = _
    rw [List.nil_append, bnd_is (BB (ihc.2.2 h.2.2) r)]
    rfl
  | whi a b iha ihb =>
    refine ⟨fun h => h.elim, fun h r hr => ?_, fun h => h.elim⟩
    show grE .T (kyW [119, 104, 105, 108, 101] :: ((shw a ++ sgW [123] :: (shw b ++ [sgW [125]])) ++ r)) = _
    rw [app2, app2, grE_T, if_neg (by decide), if_pos (by decide), bnd_is (E_of_V (iha.1 h.1 _ (by rfl)) (behind_sg _ _ (by decide))).2.2, List.nil_append, bnd_is (BB (ihb.2.2 h.2) r)]
    rfl
  | out a iha =>
    refine ⟨fun h => h.elim, fun h r hr => ?_, fun h => h.elim⟩
    show grE .T (kyW [111, 117, 116] :: ((shw a ++ [sgW [59]]) ++ r)) = _
    rw [app2, grE_T, if_neg (by decide), if_neg (by decide), if_pos (by decide), bnd_is (E_of_V (iha.1 h _ (by rfl)) (behind_sg _ _ (by decide))).2.2]
    rfl
  | exi a iha =>
    refine ⟨fun h => h.elim, fun h r hr => ?_, fun h => h.elim⟩
    show grE .T (kyW [101, 120, 105, 116] :: ((shw a ++ [sgW [59]]) ++ r)) = _
    rw [app2, grE_T, if_neg (by decide), if_neg (by decide), if_neg (by decide), if_pos (by decide), bnd_is (E_of_V (iha.1 h _ (by rfl)) (behind_sg _ _ (by decide))).2.2]
    rfl
  | nil => exact ⟨fun h => h.elim, fun h => h.elim, fun h stop r hr => rfl⟩
  | snoc b s ihb ihs =>
    refine ⟨fun h => h.elim, fun h => h.elim, fun h stop r hr => ?_⟩
    obtain ⟨p, t, e, h1, h2⟩ := stm_head h.2
    show grE (.L .nil 0 stop) ((shw b ++ shw s) ++ r) = _
    rw [List.append_assoc, ihb.2.2 h.1 stop _ (by rw [e]; exact h2), grE_L, if_neg (by rw [e]; simp), if_neg (by rw [e]; show ¬ ((stop && isW [125] p) = true); rw [h1]; simp), bnd_is (ihs.2.1 h.2 r hr)]
    rfl
end Go.Proofs.YtkacplcilkogpaaGreatDoor.Mm
