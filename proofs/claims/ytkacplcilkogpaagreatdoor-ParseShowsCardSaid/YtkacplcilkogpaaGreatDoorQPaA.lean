/- The grammar without fuel; the words of what is shown, and that they are read as it was. No program in it. -/
import Derived.Test.YtkacplcilkogpaaGreatDoorQLxA
namespace Go.Proofs.YtkacplcilkogpaaGreatDoor.Mm
set_option linter.unusedVariables false

/-- what a program is made of: values, statements, and rows of statements -/
inductive Nd where
  | num (v : Int) | var (t : Bs) | get (t : Bs) (a : Nd) | inp | neg (a : Nd) | bin (o : Int) (a b : Nd)
  | set (t : Bs) (a : Nd) | put (t : Bs) (a b : Nd) | ife (a b : Nd) | ifel (a b c : Nd) | whi (a b : Nd) | out (a : Nd) | exi (a : Nd)
  | nil | snoc (b s : Nd)
deriving DecidableEq
/-- the parts of the grammar: a value, a product, more of it, a sum, more of it, an expression, a block, statements up to its end or the text's, a statement -/
inductive Gr where
  | V | P | Pl (a : Nd) (d : Nat) | S | Sl (a : Nd) (d : Nat) | E | B | L (b : Nd) (d : Nat) (stop : Bool) | T
/-- what is read: with the words left, and how deep it is; or how many words are left where one can't stand -/
abbrev Rr := Except Nat (Nd × List Pc × Nat)
/-- a word is this sign, or key -/
def isW (t : Bs) (p : Pc) : Bool := decide (p.1 ≠ 48) && decide (p.2.1 = t)
def hdW (t : Bs) (ws : List Pc) : Bool := match ws with | [] => false | p :: _ => isW t p
def bnd (r : Rr) (k : Nd → List Pc → Nat → Rr) : Rr := match r with | .ok (a, s, d) => k a s d | .error e => .error e
def must {α : Type} (t : Bs) (ws : List Pc) (k : List Pc → Except Nat α) : Except Nat α := match ws with | [] => .error 0 | p :: r => if isW t p then k r else .error (r.length + 1)
def opP (ws : List Pc) : Option Int := if hdW [42] ws then some 5 else if hdW [47] ws then some 6 else if hdW [37] ws then some 7 else none
def opS (ws : List Pc) : Option Int := if hdW [43] ws then some 3 else if hdW [45] ws then some 4 else none
def opE (ws : List Pc) : Option Int := if hdW [60] ws then some 13 else if hdW [61, 61] ws then some 14 else none
def gr : Nat → Gr → List Pc → Rr
  | 0, _, ws => .error ws.length
  | f + 1, .V, ws => match ws with
    | [] => .error 0
    | p :: r =>
      if p.1 = 48 then .ok (.num p.2.2, r, 1)
      else if p.1 = 110 then
        if hdW [91] r then bnd (gr f .E r.tail) fun a s d => must [93] s fun s => .ok (.get p.2.1 a, s, d + 1)
        else .ok (.var p.2.1, r, 1)
      else if isW [105, 110] p then .ok (.inp, r, 1)
      else if isW [45] p then bnd (gr f .V r) fun a s d => .ok (.neg a, s, d + 1)
      else if isW [40] p then bnd (gr f .E r) fun a s d => must [41] s fun s => .ok (a, s, d + 1)
      else .error (r.length + 1)
  | f + 1, .P, ws => bnd (gr f .V ws) fun a s d => gr f (.Pl a d) s
  | f + 1, .Pl a d, ws => match opP ws with
    | none => .ok (a, ws, d)
    | some o => bnd (gr f .V ws.tail) fun b s d2 => gr f (.Pl (.bin o a b) (max d d2)) s
  | f + 1, .S, ws => bnd (gr f .P ws) fun a s d => gr f (.Sl a d) s
  | f + 1, .Sl a d, ws => match opS ws with
    | none => .ok (a, ws, d)
    | some o => bnd (gr f .P ws.tail) fun b s d2 => gr f (.Sl (.bin o a b) (max d d2)) s
  | f + 1, .E, ws => bnd (gr f .S ws) fun a s d => match opE s with
    | none => .ok (a, s, d + 1)
    | some o => bnd (gr f .S s.tail) fun b s2 d2 => .ok (.bin o a b, s2, max d d2 + 1)
  | f + 1, .B, ws => must [123] ws fun s => bnd (gr f (.L .nil 0 true) s) fun b s2 d => must [125] s2 fun s3 => .ok (b, s3, d)
  | f + 1, .L b d stop, ws =>
    if ws = [] then .ok (b, ws, d)
    else if stop && hdW [125] ws then .ok (b, ws, d)
    else bnd (gr f .T ws) fun a s d2 => gr f (.L (.snoc b a) (max d d2) stop) s
  | f + 1, .T, ws => match ws with
    | [] => .error 0
    | p :: r =>
      if isW [105, 102] p then bnd (gr f .E r) fun a s d => bnd (gr f .B s) fun b s2 d2 =>
        if hdW [101, 108, 115, 101] s2 then bnd (gr f .B s2.tail) fun c s3 d3 => .ok (.ifel a b c, s3, max (max d d2) d3 + 1)
        else .ok (.ife a b, s2, max d d2 + 1)
      else if isW [119, 104, 105, 108, 101] p then bnd (gr f .E r) fun a s d => bnd (gr f .B s) fun b s2 d2 => .ok (.whi a b, s2, max d d2 + 1)
      else if isW [111, 117, 116] p then bnd (gr f .E r) fun a s d => must [59] s fun s => .ok (.out a, s, d + 1)
      else if isW [101, 120, 105, 116] p then bnd (gr f .E r) fun a s d => must [59] s fun s => .ok (.exi a, s, d + 1)
      else if p.1 = 110 then
        if hdW [91] r then bnd (gr f .E r.tail) fun a s d => must [93] s fun s => must [61] s fun s => bnd (gr f .E s) fun b s2 d2 => must [59] s2 fun s3 => .ok (.put p.2.1 a b, s3, max d d2 + 1)
        else must [61] r fun s => bnd (gr f .E s) fun b s2 d2 => must [59] s2 fun s3 => .ok (.set p.2.1 b, s3, d2 + 1)
      else .error (r.length + 1)

theorem bnd_ok {r : Rr} {k : Nd → List Pc → Nat → Rr} {y : Nd × List Pc × Nat} (h : bnd r k = .ok y) : ∃ a s d, r = .ok (a, s, d) ∧ k a s d = .ok y := by
  unfold bnd at h
  split at h
  · rename_i a s d
    exact ⟨a, s, d, rfl, h⟩
  · cases h
theorem must_ok {α : Type} {t : Bs} {ws : List Pc} {k : List Pc → Except Nat α} {y : α} (h : must t ws k = .ok y) : ∃ p r, ws = p :: r ∧ isW t p = true ∧ k r = .ok y := by
  unfold must at h
  split at h
  · cases h
  · rename_i p r
    split at h
    · exact ⟨p, r, rfl, ‹_›, h⟩
    · cases h
theorem bnd_is {r : Rr} {k : Nd → List Pc → Nat → Rr} {a : Nd} {s : List Pc} {d : Nat} (h : r = .ok (a, s, d)) : bnd r k = k a s d := by rw [h]; rfl
theorem bnd_er {r : Rr} {k : Nd → List Pc → Nat → Rr} {e : Nat} (h : r = .error e) : bnd r k = .error e := by rw [h]; rfl

theorem hdW_app {t : Bs} {ws : List Pc} (m : List Pc) (h : ws ≠ []) : hdW t (ws ++ m) = hdW t ws := by
  cases ws with
  | nil => exact absurd rfl h
  | cons p r => rfl
/-- these take a word at least -/
def tkW : Gr → Bool | .Pl _ _ => false | .Sl _ _ => false | .L _ _ _ => false | _ => true
/-- what is left is an end of the words; an error's place is one of them, or behind them -/
structure Suf (b : Bool) (ws : List Pc) (r : Rr) : Prop where
  ok : ∀ x s d, r = .ok (x, s, d) → s <:+ ws ∧ (b = true → s.length < ws.length)
  er : ∀ k, r = .error k → k ≤ ws.length
theorem Suf.ofOk {b : Bool} {ws s : List Pc} {x : Nd} {d : Nat} (h : s <:+ ws) (hl : b = true → s.length < ws.length) : Suf b ws (.ok (x, s, d)) := ⟨fun x' s' d' e => (by injection e with e; injection e with e1 e; injection e with e2 e3; subst e1 e2 e3; exact ⟨h, hl⟩), fun k e => by cases e⟩
theorem Suf.ofEr {b : Bool} {ws : List Pc} {k : Nat} (h : k ≤ ws.length) : Suf b ws (.error k) := ⟨fun x s d e => (by cases e), fun k' e => by injection e with e; omega⟩
theorem Suf.lt {b : Bool} {ws s : List Pc} {r : Rr} (h : Suf b s r) (hs : s <:+ ws) (hl : b = true ∨ s.length < ws.length) {c : Bool} : Suf c ws r :=
  ⟨fun x t d e => ⟨(h.ok x t d e).1.trans hs, fun _ => by
    have := hs.length_le
    have h2 := (h.ok x t d e).1.length_le
    rcases hl with hl | hl
    · have := (h.ok x t d e).2 hl; omega
    · omega⟩, fun k e => Nat.le_trans (h.er k e) hs.length_le⟩
theorem Suf.bnd {b c : Bool} {ws : List Pc} {r : Rr} {k : Nd → List Pc → Nat → Rr} (h : Suf b ws r) (hk : ∀ x s d, s <:+ ws → (b = true → s.length < ws.length) → Suf c ws (k x s d)) : Suf c ws (bnd r k) := by
  match r, h with
  | .error e, h => exact .ofEr (h.er e rfl)
  | .ok (x, s, d), h => exact hk x s d (h.ok x s d rfl).1 (h.ok x s d rfl).2
theorem Suf.must {c : Bool} {t : Bs} {ws s : List Pc} {k : List Pc → Rr} (hs : s <:+ ws) (hk : ∀ r, r <:+ ws → r.length < ws.length → Suf c ws (k r)) : Suf c ws (must t s k) := by
  match s, hs with
  | [], _ => exact .ofEr (Nat.zero_le _)
  | p :: r, hs =>
    show Suf c ws (if isW t p then k r else .error (r.length + 1))
    have hl := hs.length_le
    have hr : r <:+ ws := (List.suffix_cons p r).trans hs
    simp only [List.length_cons] at hl
    split
    · exact hk r hr (by omega)
    · exact .ofEr hl
theorem suf_tail {ws s : List Pc} (h : s <:+ ws) : s.tail <:+ ws := (List.tail_suffix s).trans h
theorem gr_suf : ∀ (f : Nat) (q : Gr) (ws : List Pc), Suf (tkW q) ws (gr f q ws) := by
  intro f
  induction f with
  | zero => intro q ws; exact .ofEr (Nat.le_refl _)
  | succ f ih =>
    intro q ws
    cases q with
    | V =>
      cases ws with
      | nil => exact .ofEr (Nat.le_refl _)
      | cons p r =>
        have hr : r <:+ p :: r := List.suffix_cons p r
        have hl : r.length < (p :: r).length := by simp
        simp only [gr]
        split
        · exact .ofOk hr fun _ => hl
        split
        · split
          · have ht := suf_tail hr
            refine ((ih .E r.tail).lt ht (.inl rfl) (c := true)).bnd fun x s d h1 h2 => Suf.must h1 fun t h3 h4 => .ofOk h3 fun _ => h4
          · exact .ofOk hr fun _ => hl
        split
        · exact .ofOk hr fun _ => hl
        split
        · exact ((ih .V r).lt hr (.inl rfl) (c := true)).bnd fun x s d h1 h2 => .ofOk h1 h2
        split
        · exact ((ih .E r).lt hr (.inl rfl) (c := true)).bnd fun x s d h1 h2 => Suf.must h1 fun t h3 h4 => .ofOk h3 fun _ => h4
        · exact .ofEr (Nat.le_refl _)
    | P => exact (ih .V ws).bnd fun x s d h1 h2 => (ih _ s).lt h1 (.inr (h2 rfl))
    | Pl a d =>
      simp only [gr]
      split
      · exact .ofOk (List.suffix_refl _) fun e => by cases e
      · exact ((ih .V ws.tail).lt (List.tail_suffix ws) (.inl rfl) (c := true)).bnd fun x s d h1 h2 => (ih _ s).lt h1 (.inr (h2 rfl))
    | S => exact (ih .P ws).bnd fun x s d h1 h2 => (ih _ s).lt h1 (.inr (h2 rfl))
    | Sl a d =>
      simp only [gr]
      split
      · exact .ofOk (List.suffix_refl _) fun e => by cases e
      · exact ((ih .P ws.tail).lt (List.tail_suffix ws) (.inl rfl) (c := true)).bnd fun x s d h1 h2 => (ih _ s).lt h1 (.inr (h2 rfl))
    | E =>
      refine (ih .S ws).bnd fun x s d h1 h2 => ?_
      split
      · exact .ofOk h1 h2
      · exact ((ih .S s.tail).lt (suf_tail h1) (.inl rfl) (c := true)).bnd fun x s d h1 h2 => .ofOk h1 h2
    | B => exact Suf.must (List.suffix_refl _) fun r h1 h2 => ((ih _ r).lt h1 (.inr h2) (c := true)).bnd fun x s d h3 h4 => Suf.must h3 fun t h5 h6 => .ofOk h5 fun _ => h6
    | L b d stop =>
      simp only [gr]
      split
      · exact .ofOk (List.suffix_refl _) fun e => by cases e
      split
      · exact .ofOk (List.suffix_refl _) fun e => by cases e
      · exact (ih .T ws).bnd fun x s d h1 h2 => (ih _ s).lt h1 (.inr (h2 rfl))
    | T =>
      cases ws with
      | nil => exact .ofEr (Nat.le_refl _)
      | cons p r =>
        have hr : r <:+ p :: r := List.suffix_cons p r
        have hl : r.length < (p :: r).length := by simp
        simp only [gr]
        split
        · refine ((ih .E r).lt hr (.inl rfl) (c := true)).bnd fun x s d h1 h2 => ((ih .B s).lt h1 (.inl rfl) (c := true)).bnd fun b s2 d2 h3 h4 => ?_
          split
          · exact ((ih .B s2.tail).lt (suf_tail h3) (.inl rfl) (c := true)).bnd fun x s d h1 h2 => .ofOk h1 h2
          · exact .ofOk h3 h4
        split
        · exact ((ih .E r).lt hr (.inl rfl) (c := true)).bnd fun x s d h1 h2 => ((ih .B s).lt h1 (.inl rfl) (c := true)).bnd fun b s2 d2 h3 h4 => .ofOk h3 h4
        split
        · exact ((ih .E r).lt hr (.inl rfl) (c := true)).bnd fun x s d h1 h2 => Suf.must h1 fun t h3 h4 => .ofOk h3 fun _ => h4
        split
        · exact ((ih .E r).lt hr (.inl rfl) (c := true)).bnd fun x s d h1 h2 => Suf.must h1 fun t h3 h4 => .ofOk h3 fun _ => h4
        split
        · split
          · exact ((ih .E r.tail).lt (suf_tail hr) (.inl rfl) (c := true)).bnd fun x s d h1 h2 => Suf.must h1 fun t h3 h4 => Suf.must h3 fun t h5 h6 => ((ih .E t).lt h5 (.inl rfl) (c := true)).bnd fun x s d h1 h2 => Suf.must h1 fun t h3 h4 => .ofOk h3 fun _ => h4
          · exact Suf.must hr fun t h5 h6 => ((ih .E t).lt h5 (.inl rfl) (c := true)).bnd fun x s d h1 h2 => Suf.must h1 fun t h3 h4 => .ofOk h3 fun _ => h4
        · exact .ofEr (Nat.le_refl _)

/-- so much fuel is enough -/
def fuelQ : Gr → Nat | .V => 1 | .P => 2 | .S => 3 | .E => 4 | .Pl _ _ => 5 | .Sl _ _ => 5 | .T => 6 | .L _ _ _ => 7 | .B => 1
theorem bnd_congr {r : Rr} {k k' : Nd → List Pc → Nat → Rr} (h : ∀ a s d, r = .ok (a, s, d) → k a s d = k' a s d) : bnd r k = bnd r k' := by
  match r, h with
  | .error _, _ => rfl
  | .ok (a, s, d), h => exact h a s d rfl
theorem must_congr {t : Bs} {ws : List Pc} {k k' : List Pc → Rr} (h : ∀ p r, ws = p :: r → k r = k' r) : must t ws k = must t ws k' := by
  cases ws with
  | nil => rfl
  | cons p r => show (if _ then _ else _) = (if _ then _ else _); rw [h p r rfl]
theorem gr_V (f : Nat) (p : Pc) (r : List Pc) : gr (f + 1) .V (p :: r) = if p.1 = 48 then .ok (.num p.2.2, r, 1)
      else if p.1 = 110 then
        if hdW [91] r then bnd (gr f .E r.tail) fun a s d => must [93] s fun s => .ok (.get p.2.1 a, s, d + 1)
        else .ok (.var p.2.1, r, 1)
      else if isW [105, 110] p then .ok (.inp, r, 1)
      else if isW [45] p then bnd (gr f .V r) fun a s d => .ok (.neg a, s, d + 1)
      else if isW [40] p then bnd (gr f .E r) fun a s d => must [41] s fun s => .ok (a, s, d + 1)
      else .error (r.length + 1) := rfl
theorem gr_T (f : Nat) (p : Pc) (r : List Pc) : gr (f + 1) .T (p :: r) = if isW [105, 102] p then bnd (gr f .E r) fun a s d => bnd (gr f .B s) fun b s2 d2 =>
        if hdW [101, 108, 115, 101] s2 then bnd (gr f .B s2.tail) fun c s3 d3 => .ok (.ifel a b c, s3, max (max d d2) d3 + 1)
        else .ok (.ife a b, s2, max d d2 + 1)
      else if isW [119, 104, 105, 108, 101] p then bnd (gr f .E r) fun a s d => bnd (gr f .B s) fun b s2 d2 => .ok (.whi a b, s2, max d d2 + 1)
      else if isW [111, 117, 116] p then bnd (gr f .E r) fun a s d => must [59] s fun s => .ok (.out a, s, d + 1)
      else if isW [101, 120, 105, 116] p then bnd (gr f .E r) fun a s d => must [59] s fun s => .ok (.exi a, s, d + 1)
      else if p.1 = 110 then
        if hdW [91] r then bnd (gr f .E r.tail) fun a s d => must [93] s fun s => must [61] s fun s => bnd (gr f .E s) fun b s2 d2 => must [59] s2 fun s3 => .ok (.put p.2.1 a b, s3, max d d2 + 1)
        else must [61] r fun s => bnd (gr f .E s) fun b s2 d2 => must [59] s2 fun s3 => .ok (.set p.2.1 b, s3, d2 + 1)
      else .error (r.length + 1) := rfl
theorem gr_L (f : Nat) (b : Nd) (d : Nat) (stop : Bool) (ws : List Pc) : gr (f + 1) (.L b d stop) ws = if ws = [] then .ok (b, ws, d)
    else if stop && hdW [125] ws then .ok (b, ws, d)
    else bnd (gr f .T ws) fun a s d2 => gr f (.L (.snoc b a) (max d d2) stop) s := rfl
theorem gr_Pl (f : Nat) (a : Nd) (d : Nat) (ws : List Pc) : gr (f + 1) (.Pl a d) ws = match opP ws with
    | none => .ok (a, ws, d)
    | some o => bnd (gr f .V ws.tail) fun b s d2 => gr f (.Pl (.bin o a b) (max d d2)) s := rfl
theorem gr_Sl (f : Nat) (a : Nd) (d : Nat) (ws : List Pc) : gr (f + 1) (.Sl a d) ws = match opS ws with
    | none => .ok (a, ws, d)
    | some o => bnd (gr f .P ws.tail) fun b s d2 => gr f (.Sl (.bin o a b) (max d d2)) s := rfl
theorem gr_step : ∀ (f : Nat) (q : Gr) (ws : List Pc), 8 * ws.length + fuelQ q ≤ f → gr (f + 1) q ws = gr f q ws := by
  intro f
  induction f with
  | zero => intro q ws h; cases q <;> (simp only [fuelQ] at h; omega)
  | succ f ih =>
    intro q ws h
    have sh := fun (q' : Gr) (s : List Pc) (hs : s.length < ws.length) => ih q' s (by
      have : fuelQ q' ≤ 7 := by cases q' <;> simp [fuelQ]
      have : 1 ≤ fuelQ q := by cases q <;> simp [fuelQ]
      omega)
    have lo := fun (q' : Gr) (x : Nd) (s : List Pc) (d : Nat) (hq : tkW q' = true) (e : gr f q' ws = .ok (x, s, d)) => ((gr_suf f q' ws).ok x s d e).2 hq
    cases q with
    | V =>
      cases ws with
      | nil => rfl
      | cons p r =>
        have h1 := fun q' => sh q' r (by simp)
        have h2 := fun q' => sh q' r.tail (by have := (List.tail_suffix r).length_le; simp; omega)
        rw [gr_V, gr_V, h1, h2, h1]
    | P =>
      show bnd (gr (f + 1) .V ws) _ = bnd (gr f .V ws) _
      rw [ih .V ws (by simp only [fuelQ] at h ⊢; omega)]
      exact bnd_congr fun a s d e => sh _ _ (lo .V a s d rfl e)
    | Pl a d =>
      rw [gr_Pl, gr_Pl]
      split
      · rfl
      · rename_i o ho
        cases ws with
        | nil => cases ho
        | cons p r =>
          show bnd (gr (f + 1) .V r) _ = bnd (gr f .V r) _
          rw [sh .V r (by simp)]
          exact bnd_congr fun a s d e => sh _ _ (by have := ((gr_suf f .V r).ok a s d e).1.length_le; simp; omega)
    | S =>
      show bnd (gr (f + 1) .P ws) _ = bnd (gr f .P ws) _
      rw [ih .P ws (by simp only [fuelQ] at h ⊢; omega)]
      exact bnd_congr fun a s d e => sh _ _ (lo .P a s d rfl e)
    | Sl a d =>
      rw [gr_Sl, gr_Sl]
      split
      · rfl
      · rename_i o ho
        cases ws with
        | nil => cases ho
        | cons p r =>
          show bnd (gr (f + 1) .P r) _ = bnd (gr f .P r) _
          rw [sh .P r (by simp)]
          exact bnd_congr fun a s d e => sh _ _ (by have := ((gr_suf f .P r).ok a s d e).1.length_le; simp; omega)
    | E =>
      show bnd (gr (f + 1) .S ws) _ = bnd (gr f .S ws) _
      rw [ih .S ws (by simp only [fuelQ] at h ⊢; omega)]
      refine bnd_congr fun a s d e => ?_
      have := lo .S a s d rfl e
      have ht := (List.tail_suffix s).length_le
      rw [sh .S s.tail (by omega)]
    | B =>
      refine must_congr fun p r e => ?_
      subst e
      rw [sh _ r (by simp)]
    | L b d stop =>
      rw [gr_L, gr_L]
      split
      · rfl
      split
      · rfl
      show bnd (gr (f + 1) .T ws) _ = bnd (gr f .T ws) _
      rw [ih .T ws (by simp only [fuelQ] at h ⊢; omega)]
      exact bnd_congr fun a s d e => sh _ _ (lo .T a s d rfl e)
    | T =>
      cases ws with
      | nil => rfl
      | cons p r =>
        have h1 := fun q' => sh q' r (by simp)
        have h2 := fun q' => sh q' r.tail (by have := (List.tail_suffix r).length_le; simp; omega)
        rw [gr_T, gr_T, h1, h2]
        have EB : ∀ (k k' : Nd → List Pc → Nat → Rr), (∀ a s d, s.length < r.length → k a s d = k' a s d) → bnd (gr f .E r) k = bnd (gr f .E r) k' := fun k k' hk => bnd_congr fun a s d e => hk a s d (((gr_suf f .E r).ok a s d e).2 rfl)
        have BB : ∀ (s : List Pc) (k k' : Nd → List Pc → Nat → Rr), s.length < r.length → (∀ a s2 d, s2.length < s.length → k a s2 d = k' a s2 d) → bnd (gr (f + 1) .B s) k = bnd (gr f .B s) k' := fun s k k' hs hk => by
          rw [sh .B s (by simp; omega)]
          exact bnd_congr fun a s2 d e => hk a s2 d (((gr_suf f .B s).ok a s2 d e).2 rfl)
        congr 1
        · refine EB _ _ fun a s d hs => BB s _ _ hs fun b s2 d2 hs2 => ?_
          have := (List.tail_suffix s2).length_le
          rw [sh .B s2.tail (by simp; omega)]
        congr 1
        · exact EB _ _ fun a s d hs => BB s _ _ hs fun b s2 d2 hs2 => rfl
        congr 1
        congr 1
        congr 1
        congr 1
        · refine bnd_congr fun a s d e => must_congr fun p2 r2 e2 => must_congr fun p3 r3 e3 => ?_
          subst e2
          subst e3
          have hs := ((gr_suf f .E r.tail).ok a _ d e).1.length_le
          have ht := (List.tail_suffix r).length_le
          simp only [List.length_cons] at hs
          rw [sh .E r3 (by simp; omega)]
        · refine must_congr fun p3 r3 e3 => ?_
          subst e3
          rw [sh .E r3 (by simp; omega)]
theorem gr_enough {f : Nat} {q : Gr} {ws : List Pc} (h : 8 * ws.length + fuelQ q ≤ f) : ∀ g, f ≤ g → gr g q ws = gr f q ws := by
  intro g hg
  induction hg with
  | refl => rfl
  | step hg ih => rw [gr_step _ _ _ (Nat.le_trans h hg), ih]
/-- the words read -/
def grE (q : Gr) (ws : List Pc) : Rr := gr (8 * ws.length + 7) q ws
theorem fuelQ_le (q : Gr) : fuelQ q ≤ 7 := by cases q <;> simp [fuelQ]
theorem grE_eq {f : Nat} {q : Gr} {ws : List Pc} (h : 8 * ws.length + fuelQ q ≤ f) : gr f q ws = grE q ws := by
  rcases Nat.le_total f (8 * ws.length + 7) with h1 | h1
  · exact (gr_enough h _ h1).symm
  · exact gr_enough (by have := fuelQ_le q; omega) _ h1
theorem must_is {α : Type} {t : Bs} {p : Pc} {r : List Pc} {k : List Pc → Except Nat α} (h : isW t p = true) : must t (p :: r) k = k r := by
  show (if isW t p then k r else _) = _
  rw [if_pos h]
theorem L_false_nil : ∀ (f : Nat) (b : Nd) (d : Nat) (ws : List Pc) (x : Nd) (s : List Pc) (e : Nat), gr f (.L b d false) ws = .ok (x, s, e) → s = [] := by
  intro f
  induction f with
  | zero => intro b d ws x s e h; cases h
  | succ f ih =>
    intro b d ws x s e h
    rw [gr_L] at h
    split at h
    · rename_i hw
      injection h with h; injection h with e1 h; injection h with e2 e3
      rw [← e2]; exact hw
    · rw [Bool.false_and, if_neg (by decide)] at h
      obtain ⟨a, s2, d2, h3, h4⟩ := bnd_ok h
      exact ih _ _ _ _ _ _ h4
/-- how many nodes: a block is one -/
def cnt : Nd → Nat
  | .num _ => 1 | .var _ => 1 | .get _ a => cnt a + 1 | .inp => 1 | .neg a => cnt a + 1 | .bin _ a b => cnt a + cnt b + 1
  | .set _ a => cnt a + 1 | .put _ a b => cnt a + cnt b + 1 | .ife a b => cnt a + cnt b + 1 | .ifel a b c => cnt a + cnt b + cnt c + 1
  | .whi a b => cnt a + cnt b + 1 | .out a => cnt a + 1 | .exi a => cnt a + 1 | .nil => 1 | .snoc b s => cnt b + cnt s
/-- of which kind: 1 a value, 2 a statement, 3 a block -/
def okN : Nat → Nd → Prop
  | 1, .num v => 0 ≤ v ∧ v ≤ 4294967295 | 1, .var t => WordOk (110, t, 0) | 1, .get t a => WordOk (110, t, 0) ∧ okN 1 a | 1, .inp => True | 1, .neg a => okN 1 a
  | 1, .bin o a b => (o = 3 ∨ o = 4 ∨ o = 5 ∨ o = 6 ∨ o = 7 ∨ o = 13 ∨ o = 14) ∧ okN 1 a ∧ okN 1 b
  | 2, .set t a => WordOk (110, t, 0) ∧ okN 1 a | 2, .put t a b => WordOk (110, t, 0) ∧ okN 1 a ∧ okN 1 b
  | 2, .ife a b => okN 1 a ∧ okN 3 b | 2, .ifel a b c => okN 1 a ∧ okN 3 b ∧ okN 3 c | 2, .whi a b => okN 1 a ∧ okN 3 b | 2, .out a => okN 1 a | 2, .exi a => okN 1 a
  | 3, .nil => True | 3, .snoc b s => okN 3 b ∧ okN 2 s
  | _, _ => False
theorem cnt_pos : ∀ x : Nd, 1 ≤ cnt x := by
  intro x
  induction x <;> simp only [cnt] <;> omega
theorem grE_suf (q : Gr) (ws : List Pc) : Suf (tkW q) ws (grE q ws) := gr_suf _ q ws
theorem grE_sh {q : Gr} {s ws : List Pc} (h : s.length < ws.length) : gr (8 * ws.length + 6) q s = grE q s := grE_eq (by have := fuelQ_le q; omega)
theorem grE_nil_V : grE .V [] = .error 0 := rfl
theorem grE_nil_T : grE .T [] = .error 0 := rfl
theorem grE_V (p : Pc) (r : List Pc) : grE .V (p :: r) = if p.1 = 48 then .ok (.num p.2.2, r, 1)
      else if p.1 = 110 then
        if hdW [91] r then bnd (grE .E r.tail) fun a s d => must [93] s fun s => .ok (.get p.2.1 a, s, d + 1)
        else .ok (.var p.2.1, r, 1)
      else if isW [105, 110] p then .ok (.inp, r, 1)
      else if isW [45] p then bnd (grE .V r) fun a s d => .ok (.neg a, s, d + 1)
      else if isW [40] p then bnd (grE .E r) fun a s d => must [41] s fun s => .ok (a, s, d + 1)
      else .error (r.length + 1) := by
  show gr (8 * (p :: r).length + 6 + 1) .V (p :: r) = _
  have ht := (List.tail_suffix r).length_le
  rw [gr_V, grE_sh (by simp; omega), grE_sh (by simp), grE_sh (by simp)]
theorem grE_P (ws : List Pc) : grE .P ws = bnd (grE .V ws) fun a s d => grE (.Pl a d) s := by
  show bnd (gr (8 * ws.length + 6) .V ws) _ = _
  rw [grE_eq (q := .V) (by simp only [fuelQ]; omega)]
  exact bnd_congr fun a s d e => grE_sh (((grE_suf .V ws).ok a s d e).2 rfl)
theorem grE_S (ws : List Pc) : grE .S ws = bnd (grE .P ws) fun a s d => grE (.Sl a d) s := by
  show bnd (gr (8 * ws.length + 6) .P ws) _ = _
  rw [grE_eq (q := .P) (by simp only [fuelQ]; omega)]
  exact bnd_congr fun a s d e => grE_sh (((grE_suf .P ws).ok a s d e).2 rfl)
theorem grE_Pl (a : Nd) (d : Nat) (ws : List Pc) : grE (.Pl a d) ws = match opP ws with
    | none => .ok (a, ws, d)
    | some o => bnd (grE .V ws.tail) fun b s d2 => grE (.Pl (.bin o a b) (max d d2)) s := by
  show gr (8 * ws.length + 6 + 1) (.Pl a d) ws = _
  rw [gr_Pl]
  cases ws with
  | nil => rfl
  | cons p r =>
    rw [grE_sh (by simp)]
    cases opP (p :: r) with
    | none => rfl
    | some o => exact bnd_congr fun b s d2 e => grE_sh (by have := ((grE_suf .V r).ok b s d2 e).1.length_le; simp; omega)
theorem grE_Sl (a : Nd) (d : Nat) (ws : List Pc) : grE (.Sl a d) ws = match opS ws with
    | none => .ok (a, ws, d)
    | some o => bnd (grE .P ws.tail) fun b s d2 => grE (.Sl (.bin o a b) (max d d2)) s := by
  show gr (8 * ws.length + 6 + 1) (.Sl a d) ws = _
  rw [gr_Sl]
  cases ws with
  | nil => rfl
  | cons p r =>
    rw [grE_sh (by simp)]
    cases opS (p :: r) with
    | none => rfl
    | some o => exact bnd_congr fun b s d2 e => grE_sh (by have := ((grE_suf .P r).ok b s d2 e).1.length_le; simp; omega)
theorem grE_E (ws : List Pc) : grE .E ws = bnd (grE .S ws) fun a s d => match opE s with
    | none => .ok (a, s, d + 1)
    | some o => bnd (grE .S s.tail) fun b s2 d2 => .ok (.bin o a b, s2, max d d2 + 1) := by
  show bnd (gr (8 * ws.length + 6) .S ws) _ = _
  rw [grE_eq (q := .S) (by simp only [fuelQ]; omega)]
  refine bnd_congr fun a s d e => ?_
  have := ((grE_suf .S ws).ok a s d e).2 rfl
  have ht := (List.tail_suffix s).length_le
  rw [grE_sh (by omega)]
  all_goals (cases opE s <;> rfl)
theorem grE_B (ws : List Pc) : grE .B ws = must [123] ws fun s => bnd (grE (.L .nil 0 true) s) fun b s2 d => must [125] s2 fun s3 => .ok (b, s3, d) := by
  refine must_congr fun p r e => ?_
  subst e
  rw [grE_sh (by simp)]
theorem grE_L (b : Nd) (d : Nat) (stop : Bool) (ws : List Pc) : grE (.L b d stop) ws = if ws = [] then .ok (b, ws, d)
    else if stop && hdW [125] ws then .ok (b, ws, d)
    else bnd (grE .T ws) fun a s d2 => grE (.L (.snoc b a) (max d d2) stop) s := by
  show gr (8 * ws.length + 6 + 1) (.L b d stop) ws = _
  rw [gr_L, grE_eq (q := .T) (by simp only [fuelQ]; omega), bnd_congr fun a s d2 e => grE_sh (((grE_suf .T ws).ok a s d2 e).2 rfl)]
theorem ite_c {c : Prop} [Decidable c] {a a' b b' : Rr} (h : a = a') (h' : b = b') : (if c then a else b) = (if c then a' else b') := by rw [h, h']
set_option maxHeartbeats 2000000 in
theorem grE_T (p : Pc) (r : List Pc) : grE .T (p :: r) = if isW [105, 102] p then bnd (grE .E r) fun a s d => bnd (grE .B s) fun b s2 d2 =>
        if hdW [101, 108, 115, 101] s2 then bnd (grE .B s2.tail) fun c s3 d3 => .ok (.ifel a b c, s3, max (max d d2) d3 + 1)
        else .ok (.ife a b, s2, max d d2 + 1)
      else if isW [119, 104, 105, 108, 101] p then bnd (grE .E r) fun a s d => bnd (grE .B s) fun b s2 d2 => .ok (.whi a b, s2, max d d2 + 1)
      else if isW [111, 117, 116] p then bnd (grE .E r) fun a s d => must [59] s fun s => .ok (.out a, s, d + 1)
      else if isW [101, 120, 105, 116] p then bnd (grE .E r) fun a s d => must [59] s fun s => .ok (.exi a, s, d + 1)
      else if p.1 = 110 then
        if hdW [91] r then bnd (grE .E r.tail) fun a s d => must [93] s fun s => must [61] s fun s => bnd (grE .E s) fun b s2 d2 => must [59] s2 fun s3 => .ok (.put p.2.1 a b, s3, max d d2 + 1)
        else must [61] r fun s => bnd (grE .E s) fun b s2 d2 => must [59] s2 fun s3 => .ok (.set p.2.1 b, s3, d2 + 1)
      else .error (r.length + 1) := by
  show gr (8 * (p :: r).length + 6 + 1) .T (p :: r) = _
  have ht := (List.tail_suffix r).length_le
  have lE : ∀ (w : List Pc) (a : Nd) (s : List Pc) (d : Nat), w.length ≤ r.length → grE .E w = .ok (a, s, d) → s.length < (p :: r).length := fun w a s d hw e => by
    have := ((grE_suf .E w).ok a s d e).1.length_le
    simp; omega
  have lB : ∀ (w : List Pc) (a : Nd) (s : List Pc) (d : Nat), w.length < (p :: r).length → grE .B w = .ok (a, s, d) → s.tail.length < (p :: r).length := fun w a s d hw e => by
    have := ((grE_suf .B w).ok a s d e).1.length_le
    have := (List.tail_suffix s).length_le
    omega
  rw [gr_T, grE_sh (by simp), grE_sh (by simp; omega)]
  refine ite_c ?_ (ite_c ?_ (ite_c rfl (ite_c rfl (ite_c (ite_c ?_ ?_) rfl))))
  · refine bnd_congr fun a s d e => ?_
    have hs := lE r a s d (Nat.le_refl _) e
    rw [grE_sh hs]
    refine bnd_congr fun b s2 d2 e2 => ?_
    rw [grE_sh (lB s b s2 d2 hs e2)]
  · exact bnd_congr fun a s d e => by rw [grE_sh (lE r a s d (Nat.le_refl _) e)]
  · refine bnd_congr fun a s d e => must_congr fun p2 r2 e2 => must_congr fun p3 r3 e3 => ?_
    subst e2
    subst e3
    have := lE _ a _ d ht e
    simp only [List.length_cons] at this
    rw [grE_sh (by simp; omega)]
  · refine must_congr fun p3 r3 e3 => ?_
    subst e3
    rw [grE_sh (by simp; omega)]

/-- the words of what is shown -/
def sgW (t : Bs) : Pc := (115, t, 0)
def kyW (t : Bs) : Pc := (107, t, 0)
def nmW (t : Bs) : Pc := (110, t, 0)
/-- a number's digits -/
def digB (n : Nat) : Bs := if n < 10 then [UInt8.ofNat (48 + n)] else digB (n / 10) ++ [UInt8.ofNat (48 + n % 10)]
def nbW (v : Int) : Pc := (48, digB v.toNat, v)
def opW (o : Int) : Bs := if o = 3 then [43] else if o = 4 then [45] else if o = 5 then [42] else if o = 6 then [47] else if o = 7 then [37] else if o = 13 then [60] else [61, 61]
def shw : Nd → List Pc
  | .num v => [nbW v] | .var t => [nmW t] | .get t a => nmW t :: sgW [91] :: (shw a ++ [sgW [93]]) | .inp => [kyW [105, 110]]
  | .neg a => sgW [40] :: sgW [45] :: (shw a ++ [sgW [41]]) | .bin o a b => sgW [40] :: (shw a ++ sgW (opW o) :: (shw b ++ [sgW [41]]))
  | .set t a => nmW t :: sgW [61] :: (shw a ++ [sgW [59]]) | .put t a b => nmW t :: sgW [91] :: (shw a ++ sgW [93] :: sgW [61] :: (shw b ++ [sgW [59]]))
  | .ife a b => kyW [105, 102] :: (shw a ++ sgW [123] :: (shw b ++ [sgW [125]]))
  | .ifel a b c => kyW [105, 102] :: (shw a ++ sgW [123] :: (shw b ++ sgW [125] :: kyW [101, 108, 115, 101] :: sgW [123] :: (shw c ++ [sgW [125]])))
  | .whi a b => kyW [119, 104, 105, 108, 101] :: (shw a ++ sgW [123] :: (shw b ++ [sgW [125]]))
  | .out a => kyW [111, 117, 116] :: (shw a ++ [sgW [59]]) | .exi a => kyW [101, 120, 105, 116] :: (shw a ++ [sgW [59]])
  | .nil => [] | .snoc b s => shw b ++ shw s
end Go.Proofs.YtkacplcilkogpaaGreatDoor.Mm
