/- What the shower shows of a program's row of nodes is the program's words. No program in it. -/
import Derived.Test.YtkacplcilkogpaaGreatDoorQPaB
import Derived.Lib.Fields
namespace Go.Proofs.YtkacplcilkogpaaGreatDoor.Mm
set_option linter.unusedVariables false
set_option linter.unusedSimpArgs false

def sayB (l : Bs) (ws : List Bs) : Bs := l ++ ws.flatMap fun t => 32 :: t
/-- how a node is shown -/
def formB (k c : Int) : Bs :=
  if k = 1 then [86] else if k = 2 then [78] else if k = 3 then [78, 32, 91, 32, 65, 32, 93] else if k = 4 then [105, 110] else if k = 5 then [40, 32, 45, 32, 65, 32, 41]
  else if k = 6 then [40, 32, 65, 32, 79, 32, 66, 32, 41] else if k = 7 then [78, 32, 61, 32, 65, 32, 59] else if k = 8 then [78, 32, 91, 32, 65, 32, 93, 32, 61, 32, 66, 32, 59]
  else if k = 9 then (if c = -1 then [105, 102, 32, 65, 32, 66] else [105, 102, 32, 65, 32, 66, 32, 101, 108, 115, 101, 32, 67]) else if k = 10 then [119, 104, 105, 108, 101, 32, 65, 32, 66]
  else if k = 11 then [111, 117, 116, 32, 65, 32, 59] else if k = 12 then [101, 120, 105, 116, 32, 65, 32, 59] else if k = 13 then [123, 32, 76, 32, 125] else [63]
def formS (whole : Bool) (n : NdR) : Bs := if whole && decide (n.k = 13) then [76] else formB n.k n.c
/-- an operation's sign -/
def sgnB (v : Int) : Bs := if v = 13 then [60] else if v = 14 then [61, 61] else if v = 3 then [43] else if v = 4 then [45] else if v = 5 then [42] else if v = 6 then [47] else if v = 7 then [37] else [63]
abbrev St2 := Nat × Bs
def partS (rec : Int → St2 → St2) (n : NdR) (st : St2) (p : Bs) : St2 :=
  if p = [65] then rec n.a st else if p = [66] then rec n.b st else if p = [67] then rec n.c st
  else if p = [78] then (st.1, sayB st.2 [n.t]) else if p = [86] then (st.1, sayB st.2 [digB n.v.toNat]) else if p = [79] then (st.1, sayB st.2 [sgnB n.v])
  else if p = [76] then n.l.foldl (fun st x => rec x st) st else (st.1, sayB st.2 [p])
def nodeS (G : List NdR) : Nat → Int → Nat → Bool → St2 → St2
  | 0, _, _, _, st => (st.1, sayB st.2 [[63]])
  | f + 1, at_, behind, whole, st =>
    if at_ < 0 ∨ (behind : Int) ≤ at_ ∨ st.1 = 0 then (st.1, sayB st.2 [[63]])
    else (Lib.fields (formS whole (G.getD at_.toNat nd0))).foldl (partS (fun x st => nodeS G f x at_.toNat false st) (G.getD at_.toNat nd0)) (st.1 - 1, st.2)
def declS (l : Bs) (D : List Dc) : Bs := D.foldl (fun l x => sayB l (if x.2 = -1 then [[118, 97, 114], x.1, [59]] else [[97, 114, 114], x.1, [91], digB x.2.toNat, [93], [59]])) l
theorem say_len (l : Bs) (ws : List Bs) : (sayB l ws).length = l.length + (ws.map fun t => t.length + 1).sum := by
  unfold sayB
  rw [List.length_append]
  congr 1
  induction ws with
  | nil => rfl
  | cons t r ih => simp [ih]; omega
theorem form_cases (whole : Bool) (n : NdR) : formS whole n ∈ [[86], [78], [78, 32, 91, 32, 65, 32, 93], [105, 110], [40, 32, 45, 32, 65, 32, 41], [40, 32, 65, 32, 79, 32, 66, 32, 41], [78, 32, 61, 32, 65, 32, 59], [78, 32, 91, 32, 65, 32, 93, 32, 61, 32, 66, 32, 59], [105, 102, 32, 65, 32, 66], [105, 102, 32, 65, 32, 66, 32, 101, 108, 115, 101, 32, 67], [119, 104, 105, 108, 101, 32, 65, 32, 66], [111, 117, 116, 32, 65, 32, 59], [101, 120, 105, 116, 32, 65, 32, 59], [123, 32, 76, 32, 125], [63], [76]] := by
  unfold formS
  split
  · simp
  · unfold formB
    by_cases h1 : n.k = 1
    · rw [if_pos h1]; simp
    rw [if_neg h1]
    by_cases h2 : n.k = 2
    · rw [if_pos h2]; simp
    rw [if_neg h2]
    by_cases h3 : n.k = 3
    · rw [if_pos h3]; simp
    rw [if_neg h3]
    by_cases h4 : n.k = 4
    · rw [if_pos h4]; simp
    rw [if_neg h4]
    by_cases h5 : n.k = 5
    · rw [if_pos h5]; simp
    rw [if_neg h5]
    by_cases h6 : n.k = 6
    · rw [if_pos h6]; simp
    rw [if_neg h6]
    by_cases h7 : n.k = 7
    · rw [if_pos h7]; simp
    rw [if_neg h7]
    by_cases h8 : n.k = 8
    · rw [if_pos h8]; simp
    rw [if_neg h8]
    by_cases h9 : n.k = 9
    · rw [if_pos h9]
      by_cases hc : n.c = -1
      · rw [if_pos hc]; simp
      · rw [if_neg hc]; simp
    rw [if_neg h9]
    by_cases h10 : n.k = 10
    · rw [if_pos h10]; simp
    rw [if_neg h10]
    by_cases h11 : n.k = 11
    · rw [if_pos h11]; simp
    rw [if_neg h11]
    by_cases h12 : n.k = 12
    · rw [if_pos h12]; simp
    rw [if_neg h12]
    by_cases h13 : n.k = 13
    · rw [if_pos h13]; simp
    rw [if_neg h13]
    simp
theorem form_ok (whole : Bool) (n : NdR) : (formS whole n).length ≤ 100 ∧ (∀ b ∈ formS whole n, b.toNat < 128) ∧ (Lib.fields (formS whole n)).length ≤ 9 ∧ ∀ p ∈ Lib.fields (formS whole n), p.length ≤ 5 := by
  have h := form_cases whole n
  generalize formS whole n = s at h
  have key : ∀ s ∈ ([[86], [78], [78, 32, 91, 32, 65, 32, 93], [105, 110], [40, 32, 45, 32, 65, 32, 41], [40, 32, 65, 32, 79, 32, 66, 32, 41], [78, 32, 61, 32, 65, 32, 59], [78, 32, 91, 32, 65, 32, 93, 32, 61, 32, 66, 32, 59], [105, 102, 32, 65, 32, 66], [105, 102, 32, 65, 32, 66, 32, 101, 108, 115, 101, 32, 67], [119, 104, 105, 108, 101, 32, 65, 32, 66], [111, 117, 116, 32, 65, 32, 59], [101, 120, 105, 116, 32, 65, 32, 59], [123, 32, 76, 32, 125], [63], [76]] : List Bs), s.length ≤ 100 ∧ (∀ b ∈ s, b.toNat < 128) ∧ (Lib.fields s).length ≤ 9 ∧ ∀ p ∈ Lib.fields s, p.length ≤ 5 := by decide
  exact key s h
theorem sgn_len (v : Int) : (sgnB v).length ≤ 2 := by unfold sgnB; repeat' split
                                                      all_goals simp
theorem dig_le (n : Nat) (h : n ≤ 4294967295) : (digB n).length ≤ 10 := by
  have := (word_dig (n : Int) (by omega) (by omega)).top
  simpa [nbW] using this
/-- nodes whose names and lists are not long -/
def FewN (M : Nat) (G : List NdR) : Prop := ∀ n ∈ G, n.t.length ≤ M ∧ n.l.length ≤ M ∧ 0 ≤ n.v ∧ n.v ≤ 4294967295
theorem few_get {M : Nat} {G : List NdR} (h : FewN M G) (i : Nat) : (G.getD i nd0).t.length ≤ M ∧ (G.getD i nd0).l.length ≤ M ∧ 0 ≤ (G.getD i nd0).v ∧ (G.getD i nd0).v ≤ 4294967295 := by
  by_cases hi : i < G.length
  · have e : G.getD i nd0 = G[i] := by simp [List.getD, hi]
    rw [e]; exact h _ (List.getElem_mem _)
  · have e : G.getD i nd0 = nd0 := by simp [List.getD, Nat.le_of_not_lt hi]
    rw [e]; simp [nd0]
/-- how long what is shown may be -/
def KM (M : Nat) : Nat := 9 * (12 + 3 * M)
theorem fold_bd {α : Type} {f : St2 → α → St2} {K c : Nat} : ∀ (l : List α) (st : St2), (∀ st a, a ∈ l → (f st a).2.length + K * (f st a).1 ≤ st.2.length + K * st.1 + c ∧ (f st a).1 ≤ st.1) → (l.foldl f st).2.length + K * (l.foldl f st).1 ≤ st.2.length + K * st.1 + c * l.length ∧ (l.foldl f st).1 ≤ st.1
  | [], st, _ => by simp
  | a :: r, st, h => by
    have h1 := h st a List.mem_cons_self
    have h2 := fold_bd (K := K) (c := c) r (f st a) (fun st a ha => h st a (List.mem_cons_of_mem _ ha))
    simp only [List.foldl_cons, List.length_cons]
    refine ⟨?_, Nat.le_trans h2.2 h1.2⟩
    have := h2.1
    have := h1.1
    rw [Nat.mul_add]
    omega
theorem part_bd {M K : Nat} {rec : Int → St2 → St2} (hr : ∀ x st, (rec x st).2.length + K * (rec x st).1 ≤ st.2.length + K * st.1 + 2 ∧ (rec x st).1 ≤ st.1) (n : NdR) (hn : n.t.length ≤ M ∧ n.l.length ≤ M ∧ 0 ≤ n.v ∧ n.v ≤ 4294967295) (st : St2) (p : Bs) (hp : p.length ≤ 5) :
    (partS rec n st p).2.length + K * (partS rec n st p).1 ≤ st.2.length + K * st.1 + (12 + 3 * M) ∧ (partS rec n st p).1 ≤ st.1 := by
  have hd := dig_le n.v.toNat (by omega)
  have hs := sgn_len n.v
  have hk := fun x => hr x st
  have hf := fold_bd (K := K) (c := 2) (f := fun st x => rec x st) n.l st (fun st a _ => hr a st)
  unfold partS
  split
  · have := hk n.a; omega
  split
  · have := hk n.b; omega
  split
  · have := hk n.c; omega
  split
  · simp only [say_len]; simp; omega
  split
  · simp only [say_len]; simp; omega
  split
  · simp only [say_len]; simp; omega
  split
  · omega
  · simp only [say_len]; simp; omega
theorem node_bd {M : Nat} {G : List NdR} (hG : FewN M G) : ∀ (f : Nat) (x : Int) (b : Nat) (wh : Bool) (st : St2), (nodeS G f x b wh st).2.length + KM M * (nodeS G f x b wh st).1 ≤ st.2.length + KM M * st.1 + 2 ∧ (nodeS G f x b wh st).1 ≤ st.1 := by
  intro f
  induction f with
  | zero => intro x b wh st; simp [nodeS, say_len]; omega
  | succ f ih =>
    intro x b wh st
    simp only [nodeS]
    split
    · simp [say_len]; omega
    · rename_i hc
      have h0 : st.1 ≠ 0 := fun e => hc (.inr (.inr e))
      have hfo := form_ok wh (G.getD x.toNat nd0)
      have h := fold_bd (K := KM M) (c := 12 + 3 * M) (f := partS (fun y st => nodeS G f y x.toNat false st) (G.getD x.toNat nd0)) (Lib.fields (formS wh (G.getD x.toNat nd0))) (st.1 - 1, st.2) (fun st p hp => part_bd (fun y st => ih y _ _ _) _ (few_get hG _) st p (hfo.2.2.2 p hp))
      refine ⟨?_, Nat.le_trans h.2 (Nat.sub_le _ _)⟩
      have h1 := h.1
      simp only at h1
      have h2 : (12 + 3 * M) * (Lib.fields (formS wh (G.getD x.toNat nd0))).length ≤ KM M := by
        unfold KM
        rw [Nat.mul_comm 9]
        exact Nat.mul_le_mul_left _ hfo.2.2.1
      have h3 : KM M * st.1 = KM M * (st.1 - 1) + KM M := by
        obtain ⟨s, hs⟩ : ∃ s, st.1 = s + 1 := ⟨st.1 - 1, by omega⟩
        rw [hs]; simp [Nat.mul_add]
      omega
theorem say_one (l t : Bs) : sayB l [t] = l ++ 32 :: t := by simp [sayB]
theorem nodeS_s {G : List NdR} {f : Nat} {x : Int} {b : Nat} {wh : Bool} {st : St2} {n : NdR} (h0 : 0 ≤ x) (hb : x < b) (hs : 1 ≤ st.1) (e : G.getD x.toNat nd0 = n) : nodeS G (f + 1) x b wh st = (Lib.fields (formS wh n)).foldl (partS (fun y st => nodeS G f y x.toNat false st) n) (st.1 - 1, st.2) := by
  simp only [nodeS]
  rw [if_neg (by omega), e]
theorem pA (rec : Int → St2 → St2) (n : NdR) (st : St2) : partS rec n st [65] = rec n.a st := by simp [partS]
theorem pB (rec : Int → St2 → St2) (n : NdR) (st : St2) : partS rec n st [66] = rec n.b st := by simp [partS]
theorem pC (rec : Int → St2 → St2) (n : NdR) (st : St2) : partS rec n st [67] = rec n.c st := by simp [partS]
theorem pN (rec : Int → St2 → St2) (n : NdR) (st : St2) : partS rec n st [78] = (st.1, st.2 ++ 32 :: n.t) := by simp [partS, say_one]
theorem pV (rec : Int → St2 → St2) (n : NdR) (st : St2) : partS rec n st [86] = (st.1, st.2 ++ 32 :: digB n.v.toNat) := by simp [partS, say_one]
theorem pO (rec : Int → St2 → St2) (n : NdR) (st : St2) : partS rec n st [79] = (st.1, st.2 ++ 32 :: sgnB n.v) := by simp [partS, say_one]
theorem pL (rec : Int → St2 → St2) (n : NdR) (st : St2) : partS rec n st [76] = n.l.foldl (fun st x => rec x st) st := by simp [partS]
theorem pX (rec : Int → St2 → St2) (n : NdR) (st : St2) (p : Bs) (h : p ∉ ([[65], [66], [67], [78], [86], [79], [76]] : List Bs)) : partS rec n st p = (st.1, st.2 ++ 32 :: p) := by
  simp only [List.mem_cons, List.not_mem_nil, or_false, not_or] at h
  obtain ⟨h1, h2, h3, h4, h5, h6, h7⟩ := h
  unfold partS
  rw [if_neg h1, if_neg h2, if_neg h3, if_neg h4, if_neg h5, if_neg h6, if_neg h7, say_one]
theorem sgn_op {o : Int} (h : o = 3 ∨ o = 4 ∨ o = 5 ∨ o = 6 ∨ o = 7 ∨ o = 13 ∨ o = 14) : sgnB o = opW o := by
  rcases h with rfl | rfl | rfl | rfl | rfl | rfl | rfl <;> rfl
def N1 (G : List NdR) (x : Nd) : Prop := ∀ n, PartN G n (fl n x) → ∀ f : Nat, rt n x < f → ∀ b : Nat, rt n x < b → ∀ st : St2, cnt x ≤ st.1 → nodeS G f (rt n x) b false st = (st.1 - cnt x, st.2 ++ gapsL [32] (shw x))
def N2 (G : List NdR) (x : Nd) : Prop := ∀ n, PartN G n (flB n x) → ∀ f : Nat, rt n x < f → ∀ b : Nat, rt n x < b → ∀ st : St2, cnt x ≤ st.1 → nodeS G f (rt n x) b false st = (st.1 - cnt x, st.2 ++ gapsL [32] (sgW [123] :: (shw x ++ [sgW [125]])))
def N3 (G : List NdR) (x : Nd) : Prop := ∀ n, PartN G n (fl n x) → ∀ f : Nat, n + cnt x ≤ f + 1 → ∀ b : Nat, n + cnt x ≤ b + 1 → ∀ st : St2, cnt x ≤ st.1 + 1 → (lst n x).foldl (fun st j => nodeS G f j b false st) st = (st.1 - (cnt x - 1), st.2 ++ gapsL [32] (shw x))
theorem last_of {G : List NdR} {n : Nat} {x : Nd} {L : List NdR} {r : NdR} (h : okN 1 x ∨ okN 2 x) (e : fl n x = L ++ [r]) (hp : PartN G n (fl n x)) : G.getD (rt n x).toNat nd0 = r := by
  have hl := fl_n1 n h
  rw [e] at hp hl
  rw [← hp.app.2.one]
  rw [List.length_append] at hl
  unfold rt
  congr 1
  simp at hl ⊢; omega
theorem last_B {G : List NdR} {n : Nat} {b : Nd} (h : okN 3 b) (p2 : PartN G n (flB n b)) : G.getD (rt n b).toNat nd0 = ⟨13, -1, -1, -1, [], 0, lst n b⟩ := by
  obtain ⟨p1, p2⟩ := PartN.app (G := G) (n := n) (L := fl n b) (M := [⟨13, -1, -1, -1, [], 0, lst n b⟩]) p2
  have hl := fl_n3 n h
  have hr := rt_app n b
  rw [← p2.one, hr.2]
  congr 1; omega
theorem blk_s {G : List NdR} {b : Nd} (h : okN 3 b) (ih : N3 G b) : N2 G b := by
  intro n hp f hf bb hbb st hst
  obtain ⟨p1, p2⟩ := PartN.app (G := G) (n := n) (L := fl n b) (M := [⟨13, -1, -1, -1, [], 0, lst n b⟩]) hp
  have hc := cnt_pos b
  have hr := rt_app n b
  obtain ⟨f, rfl⟩ : ∃ f', f = f' + 1 := ⟨f - 1, by omega⟩
  rw [nodeS_s hr.1 hbb (by omega) (last_B h hp)]
  rw [show formS false ⟨13, -1, -1, -1, [], 0, lst n b⟩ = [123, 32, 76, 32, 125] from rfl, show Lib.fields [123, 32, 76, 32, 125] = [[123], [76], [125]] from by decide]
  simp only [List.foldl_cons, List.foldl_nil, pX _ _ _ [123] (by decide), pX _ _ _ [125] (by decide), pL]
  rw [ih n p1 f (by omega) _ (by omega) _ (by simp only; omega)]
  exact Prod.ext (by simp only; omega) (by simp [gapsL, sgW])
/-- a program's row -/
theorem whole_s {G : List NdR} {b : Nd} (h : okN 3 b) (ih : N3 G b) (hp : PartN G 0 (flB 0 b)) (f : Nat) (hf : cnt b ≤ f) (bb : Nat) (hbb : cnt b ≤ bb) (st : St2) (hst : cnt b ≤ st.1) : nodeS G f (rt 0 b) bb true st = (st.1 - cnt b, st.2 ++ gapsL [32] (shw b)) := by
  obtain ⟨p1, p2⟩ := PartN.app (G := G) (n := 0) (L := fl 0 b) (M := [⟨13, -1, -1, -1, [], 0, lst 0 b⟩]) hp
  have hc := cnt_pos b
  have hr := rt_app 0 b
  obtain ⟨f, rfl⟩ : ∃ f', f = f' + 1 := ⟨f - 1, by omega⟩
  rw [nodeS_s hr.1 (by omega) (by omega) (last_B h hp)]
  rw [show formS true ⟨13, -1, -1, -1, [], 0, lst 0 b⟩ = [76] from rfl, show Lib.fields [76] = [[76]] from by decide]
  simp only [List.foldl_cons, List.foldl_nil, pL]
  rw [ih 0 p1 f (by omega) _ (by omega) _ (by simp only; omega)]
  exact Prod.ext (by simp only; omega) rfl
theorem shN {G : List NdR} : ∀ (x : Nd), ((okN 1 x ∨ okN 2 x) → N1 G x) ∧ (okN 3 x → N3 G x) := by
  intro x
  induction x with
  | num v =>
    refine ⟨fun h n hp f hf b hb st hst => ?_, fun h => h.elim⟩
    obtain ⟨f, rfl⟩ : ∃ f', f = f' + 1 := ⟨f - 1, by have := (rt_app n (.num v)).1; omega⟩
    have hc : cnt (.num v) = 1 := rfl
    rw [nodeS_s (rt_app n (.num v)).1 hb (by omega) (last_of h (L := []) rfl hp)]
    rw [show Lib.fields (formS false ⟨1, -1, -1, -1, [], v, []⟩) = [[86]] from by first | rfl | decide +revert]
    simp only [List.foldl_cons, List.foldl_nil, pV]
    exact Prod.ext (by simp only; omega) (by simp [gapsL, shw, nmW, nbW, kyW])
  | var t =>
    refine ⟨fun h n hp f hf b hb st hst => ?_, fun h => h.elim⟩
    obtain ⟨f, rfl⟩ : ∃ f', f = f' + 1 := ⟨f - 1, by have := (rt_app n (.var t)).1; omega⟩
    have hc : cnt (.var t) = 1 := rfl
    rw [nodeS_s (rt_app n (.var t)).1 hb (by omega) (last_of h (L := []) rfl hp)]
    rw [show Lib.fields (formS false ⟨2, -1, -1, -1, t, 0, []⟩) = [[78]] from by first | rfl | decide +revert]
    simp only [List.foldl_cons, List.foldl_nil, pN]
    exact Prod.ext (by simp only; omega) (by simp [gapsL, shw, nmW, nbW, kyW])
  | inp =>
    refine ⟨fun h n hp f hf b hb st hst => ?_, fun h => h.elim⟩
    obtain ⟨f, rfl⟩ : ∃ f', f = f' + 1 := ⟨f - 1, by have := (rt_app n (.inp)).1; omega⟩
    have hc : cnt (.inp) = 1 := rfl
    rw [nodeS_s (rt_app n (.inp)).1 hb (by omega) (last_of h (L := []) rfl hp)]
    rw [show Lib.fields (formS false ⟨4, -1, -1, -1, [], 0, []⟩) = [[105, 110]] from by first | rfl | decide +revert]
    simp only [List.foldl_cons, List.foldl_nil, pX _ _ _ [105, 110] (by decide)]
    exact Prod.ext (by simp only; omega) (by simp [gapsL, shw, nmW, nbW, kyW])
  | nil => exact ⟨fun h => by rcases h with h | h <;> exact h.elim, fun _ n hp f hf b hb st hst => by simp [lst, shw, gapsL, cnt]⟩
  | get t a iha =>
    refine ⟨fun h n hp f hf bb hb st hst => ?_, fun h => h.elim⟩
    have ha : okN 1 a := by rcases h with h | h <;> first | exact h.2 | exact h.elim
    obtain ⟨f, rfl⟩ : ∃ f', f = f' + 1 := ⟨f - 1, by have := (rt_app n (.get t a)).1; omega⟩
    have e1 : rt n (.get t a) = (n + cnt a : Nat) := by unfold rt; simp only [cnt] <;> omega
    have hc : cnt (.get t a) = cnt a + 1 := by simp only [cnt] <;> omega
    have la := (rt_lt (x := a) n (n + cnt a) (by omega)).2
    have i1 := iha.1 (.inl ha) n hp.app.1 f (by omega)
    rw [nodeS_s (rt_app n (.get t a)).1 hb (by omega) (last_of h (L := fl n a) rfl hp)]
    rw [show Lib.fields (formS false ⟨3, rt n a, -1, -1, t, 0, []⟩) = [[78], [91], [65], [93]] from by generalize rt n a = y; first | rfl | decide +revert]
    simp only [List.foldl_cons, List.foldl_nil, pA, pN, pX _ _ _ [91] (by decide), pX _ _ _ [93] (by decide)]
    rw [i1 _ (by omega) _ (by simp only; omega)]
    exact Prod.ext (by simp only; omega) (by simp [gapsL, shw, nmW, sgW, kyW])
  | neg a iha =>
    refine ⟨fun h n hp f hf bb hb st hst => ?_, fun h => h.elim⟩
    have ha : okN 1 a := by rcases h with h | h <;> first | exact h | exact h.elim
    obtain ⟨f, rfl⟩ : ∃ f', f = f' + 1 := ⟨f - 1, by have := (rt_app n (.neg a)).1; omega⟩
    have e1 : rt n (.neg a) = (n + cnt a : Nat) := by unfold rt; simp only [cnt] <;> omega
    have hc : cnt (.neg a) = cnt a + 1 := by simp only [cnt] <;> omega
    have la := (rt_lt (x := a) n (n + cnt a) (by omega)).2
    have i1 := iha.1 (.inl ha) n hp.app.1 f (by omega)
    rw [nodeS_s (rt_app n (.neg a)).1 hb (by omega) (last_of h (L := fl n a) rfl hp)]
    rw [show Lib.fields (formS false ⟨5, rt n a, -1, -1, [], 0, []⟩) = [[40], [45], [65], [41]] from by generalize rt n a = y; first | rfl | decide +revert]
    simp only [List.foldl_cons, List.foldl_nil, pA, pX _ _ _ [40] (by decide), pX _ _ _ [45] (by decide), pX _ _ _ [41] (by decide)]
    rw [i1 _ (by omega) _ (by simp only; omega)]
    exact Prod.ext (by simp only; omega) (by simp [gapsL, shw, nmW, sgW, kyW])
  | set t a iha =>
    refine ⟨fun h n hp f hf bb hb st hst => ?_, fun h => h.elim⟩
    have ha : okN 1 a := by rcases h with h | h <;> first | exact h.2 | exact h.elim
    obtain ⟨f, rfl⟩ : ∃ f', f = f' + 1 := ⟨f - 1, by have := (rt_app n (.set t a)).1; omega⟩
    have e1 : rt n (.set t a) = (n + cnt a : Nat) := by unfold rt; simp only [cnt] <;> omega
    have hc : cnt (.set t a) = cnt a + 1 := by simp only [cnt] <;> omega
    have la := (rt_lt (x := a) n (n + cnt a) (by omega)).2
    have i1 := iha.1 (.inl ha) n hp.app.1 f (by omega)
    rw [nodeS_s (rt_app n (.set t a)).1 hb (by omega) (last_of h (L := fl n a) rfl hp)]
    rw [show Lib.fields (formS false ⟨7, rt n a, -1, -1, t, 0, []⟩) = [[78], [61], [65], [59]] from by generalize rt n a = y; first | rfl | decide +revert]
    simp only [List.foldl_cons, List.foldl_nil, pA, pN, pX _ _ _ [61] (by decide), pX _ _ _ [59] (by decide)]
    rw [i1 _ (by omega) _ (by simp only; omega)]
    exact Prod.ext (by simp only; omega) (by simp [gapsL, shw, nmW, sgW, kyW])
  | out a iha =>
    refine ⟨fun h n hp f hf bb hb st hst => ?_, fun h => h.elim⟩
    have ha : okN 1 a := by rcases h with h | h <;> first | exact h | exact h.elim
    obtain ⟨f, rfl⟩ : ∃ f', f = f' + 1 := ⟨f - 1, by have := (rt_app n (.out a)).1; omega⟩
    have e1 : rt n (.out a) = (n + cnt a : Nat) := by unfold rt; simp only [cnt] <;> omega
    have hc : cnt (.out a) = cnt a + 1 := by simp only [cnt] <;> omega
    have la := (rt_lt (x := a) n (n + cnt a) (by omega)).2
    have i1 := iha.1 (.inl ha) n hp.app.1 f (by omega)
    rw [nodeS_s (rt_app n (.out a)).1 hb (by omega) (last_of h (L := fl n a) rfl hp)]
    rw [show Lib.fields (formS false ⟨11, rt n a, -1, -1, [], 0, []⟩) = [[111, 117, 116], [65], [59]] from by generalize rt n a = y; first | rfl | decide +revert]
    simp only [List.foldl_cons, List.foldl_nil, pA, pX _ _ _ [111, 117, 116] (by decide), pX _ _ _ [59] (by decide)]
    rw [i1 _ (by omega) _ (by simp only; omega)]
    exact Prod.ext (by simp only; omega) (by simp [gapsL, shw, nmW, sgW, kyW])
  | exi a iha =>
    refine ⟨fun h n hp f hf bb hb st hst => ?_, fun h => h.elim⟩
    have ha : okN 1 a := by rcases h with h | h <;> first | exact h | exact h.elim
    obtain ⟨f, rfl⟩ : ∃ f', f = f' + 1 := ⟨f - 1, by have := (rt_app n (.exi a)).1; omega⟩
    have e1 : rt n (.exi a) = (n + cnt a : Nat) := by unfold rt; simp only [cnt] <;> omega
    have hc : cnt (.exi a) = cnt a + 1 := by simp only [cnt] <;> omega
    have la := (rt_lt (x := a) n (n + cnt a) (by omega)).2
    have i1 := iha.1 (.inl ha) n hp.app.1 f (by omega)
    rw [nodeS_s (rt_app n (.exi a)).1 hb (by omega) (last_of h (L := fl n a) rfl hp)]
    rw [show Lib.fields (formS false ⟨12, rt n a, -1, -1, [], 0, []⟩) = [[101, 120, 105, 116], [65], [59]] from by generalize rt n a = y; first | rfl | decide +revert]
    simp only [List.foldl_cons, List.foldl_nil, pA, pX _ _ _ [101, 120, 105, 116] (by decide), pX _ _ _ [59] (by decide)]
    rw [i1 _ (by omega) _ (by simp only; omega)]
    exact Prod.ext (by simp only; omega) (by simp [gapsL, shw, nmW, sgW, kyW])
  | bin o a b iha ihb =>
    refine ⟨fun h n hp f hf bb hb st hst => ?_, fun h => h.elim⟩
    have ha : okN 1 a ∧ okN 1 b := by rcases h with h | h <;> first | exact h.2 | exact h.elim
    have so : sgnB o = opW o := sgn_op (by rcases h with h | h <;> first | exact h.1 | exact h.elim)
    have hp0 := hp
    have hp : PartN G n (fl n a ++ fl (n + cnt a) b ++ [⟨6, rt n a, rt (n + cnt a) b, -1, [], o, []⟩]) := hp
    obtain ⟨f, rfl⟩ : ∃ f', f = f' + 1 := ⟨f - 1, by have := (rt_app n (.bin o a b)).1; omega⟩
    have e1 : rt n (.bin o a b) = (n + (cnt a + cnt b) : Nat) := by unfold rt; simp only [cnt] <;> omega
    have hc : cnt (.bin o a b) = cnt a + cnt b + 1 := by simp only [cnt] <;> omega
    obtain ⟨p1, p2⟩ := hp.app.1.app
    rw [fl_n1 n (.inl ha.1)] at p2
    have la := (rt_lt (x := a) n (n + cnt a) (by omega)).2
    have lb := (rt_lt (x := b) (n + cnt a) (n + cnt a + cnt b) (by omega)).2
    have i1 := iha.1 (.inl ha.1) n p1 f (by omega)
    have i2 := ihb.1 (.inl ha.2) (n + cnt a) p2 f (by omega)
    rw [nodeS_s (rt_app n (.bin o a b)).1 hb (by omega) (last_of h (L := fl n a ++ fl (n + cnt a) b) rfl hp0)]
    rw [show Lib.fields (formS false ⟨6, rt n a, rt (n + cnt a) b, -1, [], o, []⟩) = [[40], [65], [79], [66], [41]] from by generalize rt n a = y; generalize rt (n + cnt a) b = z; first | rfl | decide +revert]
    simp only [List.foldl_cons, List.foldl_nil, pA, pO, pX _ _ _ [40] (by decide), pX _ _ _ [41] (by decide)]
    rw [i1 _ (by omega) _ (by simp only; omega)]
    simp only [pB, pO, pX _ _ _ [40] (by decide), pX _ _ _ [41] (by decide)]
    rw [i2 _ (by omega) _ (by simp only; omega)]
    exact Prod.ext (by simp only; omega) (by simp [gapsL, shw, nmW, sgW, kyW, so])
  | put t a b iha ihb =>
    refine ⟨fun h n hp f hf bb hb st hst => ?_, fun h => h.elim⟩
    have ha : okN 1 a ∧ okN 1 b := by rcases h with h | h <;> first | exact h.2 | exact h.elim
    have hp0 := hp
    have hp : PartN G n (fl n a ++ fl (n + cnt a) b ++ [⟨8, rt n a, rt (n + cnt a) b, -1, t, 0, []⟩]) := hp
    obtain ⟨f, rfl⟩ : ∃ f', f = f' + 1 := ⟨f - 1, by have := (rt_app n (.put t a b)).1; omega⟩
    have e1 : rt n (.put t a b) = (n + (cnt a + cnt b) : Nat) := by unfold rt; simp only [cnt] <;> omega
    have hc : cnt (.put t a b) = cnt a + cnt b + 1 := by simp only [cnt] <;> omega
    obtain ⟨p1, p2⟩ := hp.app.1.app
    rw [fl_n1 n (.inl ha.1)] at p2
    have la := (rt_lt (x := a) n (n + cnt a) (by omega)).2
    have lb := (rt_lt (x := b) (n + cnt a) (n + cnt a + cnt b) (by omega)).2
    have i1 := iha.1 (.inl ha.1) n p1 f (by omega)
    have i2 := ihb.1 (.inl ha.2) (n + cnt a) p2 f (by omega)
    rw [nodeS_s (rt_app n (.put t a b)).1 hb (by omega) (last_of h (L := fl n a ++ fl (n + cnt a) b) rfl hp0)]
    rw [show Lib.fields (formS false ⟨8, rt n a, rt (n + cnt a) b, -1, t, 0, []⟩) = [[78], [91], [65], [93], [61], [66], [59]] from by generalize rt n a = y; generalize rt (n + cnt a) b = z; first | rfl | decide +revert]
    simp only [List.foldl_cons, List.foldl_nil, pA, pN, pX _ _ _ [91] (by decide), pX _ _ _ [93] (by decide), pX _ _ _ [61] (by decide), pX _ _ _ [59] (by decide)]
    rw [i1 _ (by omega) _ (by simp only; omega)]
    simp only [pB, pN, pX _ _ _ [91] (by decide), pX _ _ _ [93] (by decide), pX _ _ _ [61] (by decide), pX _ _ _ [59] (by decide)]
    rw [i2 _ (by omega) _ (by simp only; omega)]
    exact Prod.ext (by simp only; omega) (by simp [gapsL, shw, nmW, sgW, kyW])
  | ife a b iha ihb =>
    refine ⟨fun h n hp f hf bb hb st hst => ?_, fun h => h.elim⟩
    have ha : okN 1 a ∧ okN 3 b := by rcases h with h | h <;> first | exact h | exact h.elim
    have hp0 := hp
    have hp : PartN G n (fl n a ++ flB (n + cnt a) b ++ [⟨9, rt n a, rt (n + cnt a) b, -1, [], 0, []⟩]) := hp
    obtain ⟨f, rfl⟩ : ∃ f', f = f' + 1 := ⟨f - 1, by have := (rt_app n (.ife a b)).1; omega⟩
    have e1 : rt n (.ife a b) = (n + (cnt a + cnt b) : Nat) := by unfold rt; simp only [cnt] <;> omega
    have hc : cnt (.ife a b) = cnt a + cnt b + 1 := by simp only [cnt] <;> omega
    obtain ⟨p1, p2⟩ := hp.app.1.app
    rw [fl_n1 n (.inl ha.1)] at p2
    have la := (rt_lt (x := a) n (n + cnt a) (by omega)).2
    have lb := (rt_lt (x := b) (n + cnt a) (n + cnt a + cnt b) (by omega)).2
    have i1 := iha.1 (.inl ha.1) n p1 f (by omega)
    have i2 := blk_s ha.2 (ihb.2 ha.2) (n + cnt a) p2 f (by omega)
    rw [nodeS_s (rt_app n (.ife a b)).1 hb (by omega) (last_of h (L := fl n a ++ flB (n + cnt a) b) rfl hp0)]
    rw [show Lib.fields (formS false ⟨9, rt n a, rt (n + cnt a) b, -1, [], 0, []⟩) = [[105, 102], [65], [66]] from by generalize rt n a = y; generalize rt (n + cnt a) b = z; first | rfl | decide +revert]
    simp only [List.foldl_cons, List.foldl_nil, pA, pX _ _ _ [105, 102] (by decide)]
    rw [i1 _ (by omega) _ (by simp only; omega)]
    simp only [pB, pX _ _ _ [105, 102] (by decide)]
    rw [i2 _ (by omega) _ (by simp only; omega)]
    exact Prod.ext (by simp only; omega) (by simp [gapsL, shw, nmW, sgW, kyW])
  | whi a b iha ihb =>
    refine ⟨fun h n hp f hf bb hb st hst => ?_, fun h => h.elim⟩
    have ha : okN 1 a ∧ okN 3 b := by rcases h with h | h <;> first | exact h | exact h.elim
    have hp0 := hp
    have hp : PartN G n (fl n a ++ flB (n + cnt a) b ++ [⟨10, rt n a, rt (n + cnt a) b, -1, [], 0, []⟩]) := hp
    obtain ⟨f, rfl⟩ : ∃ f', f = f' + 1 := ⟨f - 1, by have := (rt_app n (.whi a b)).1; omega⟩
    have e1 : rt n (.whi a b) = (n + (cnt a + cnt b) : Nat) := by unfold rt; simp only [cnt] <;> omega
    have hc : cnt (.whi a b) = cnt a + cnt b + 1 := by simp only [cnt] <;> omega
    obtain ⟨p1, p2⟩ := hp.app.1.app
    rw [fl_n1 n (.inl ha.1)] at p2
    have la := (rt_lt (x := a) n (n + cnt a) (by omega)).2
    have lb := (rt_lt (x := b) (n + cnt a) (n + cnt a + cnt b) (by omega)).2
    have i1 := iha.1 (.inl ha.1) n p1 f (by omega)
    have i2 := blk_s ha.2 (ihb.2 ha.2) (n + cnt a) p2 f (by omega)
    rw [nodeS_s (rt_app n (.whi a b)).1 hb (by omega) (last_of h (L := fl n a ++ flB (n + cnt a) b) rfl hp0)]
    rw [show Lib.fields (formS false ⟨10, rt n a, rt (n + cnt a) b, -1, [], 0, []⟩) = [[119, 104, 105, 108, 101], [65], [66]] from by generalize rt n a = y; generalize rt (n + cnt a) b = z; first | rfl | decide +revert]
    simp only [List.foldl_cons, List.foldl_nil, pA, pX _ _ _ [119, 104, 105, 108, 101] (by decide)]
    rw [i1 _ (by omega) _ (by simp only; omega)]
    simp only [pB, pX _ _ _ [119, 104, 105, 108, 101] (by decide)]
    rw [i2 _ (by omega) _ (by simp only; omega)]
    exact Prod.ext (by simp only; omega) (by simp [gapsL, shw, nmW, sgW, kyW])
  | ifel a b c iha ihb ihc =>
    refine ⟨fun h n hp f hf bb hb st hst => ?_, fun h => h.elim⟩
    have ha : okN 1 a ∧ okN 3 b ∧ okN 3 c := by rcases h with h | h <;> first | exact h | exact h.elim
    have hp0 := hp
    have hp : PartN G n (fl n a ++ flB (n + cnt a) b ++ flB (n + cnt a + cnt b) c ++ [⟨9, rt n a, rt (n + cnt a) b, rt (n + cnt a + cnt b) c, [], 0, []⟩]) := hp
    obtain ⟨f, rfl⟩ : ∃ f', f = f' + 1 := ⟨f - 1, by have := (rt_app n (.ifel a b c)).1; omega⟩
    have e1 : rt n (.ifel a b c) = (n + (cnt a + cnt b + cnt c) : Nat) := by unfold rt; simp only [cnt] <;> omega
    have hc : cnt (.ifel a b c) = cnt a + cnt b + cnt c + 1 := by simp only [cnt] <;> omega
    obtain ⟨p0, p3⟩ := hp.app.1.app
    obtain ⟨p1, p2⟩ := p0.app
    rw [fl_n1 n (.inl ha.1)] at p2
    rw [List.length_append, fl_n1 n (.inl ha.1), flB_len _ ha.2.1, ← Nat.add_assoc] at p3
    have la := (rt_lt (x := a) n (n + cnt a) (by omega)).2
    have lb := (rt_lt (x := b) (n + cnt a) (n + cnt a + cnt b) (by omega)).2
    have lc := (rt_lt (x := c) (n + cnt a + cnt b) (n + cnt a + cnt b + cnt c) (by omega)).2
    have c0 := (rt_lt (x := c) (n + cnt a + cnt b) (n + cnt a + cnt b + cnt c) (by omega)).1
    have i1 := iha.1 (.inl ha.1) n p1 f (by omega)
    have i2 := blk_s ha.2.1 (ihb.2 ha.2.1) (n + cnt a) p2 f (by omega)
    have i3 := blk_s ha.2.2 (ihc.2 ha.2.2) (n + cnt a + cnt b) p3 f (by omega)
    rw [nodeS_s (rt_app n (.ifel a b c)).1 hb (by omega) (last_of h (L := fl n a ++ flB (n + cnt a) b ++ flB (n + cnt a + cnt b) c) rfl hp0)]
    rw [show formS false ⟨9, rt n a, rt (n + cnt a) b, rt (n + cnt a + cnt b) c, [], 0, []⟩ = [105, 102, 32, 65, 32, 66, 32, 101, 108, 115, 101, 32, 67] from by (have hcn : rt (n + cnt a + cnt b) c ≠ -1 := by omega); simp [formS, formB, hcn], show Lib.fields [105, 102, 32, 65, 32, 66, 32, 101, 108, 115, 101, 32, 67] = [[105, 102], [65], [66], [101, 108, 115, 101], [67]] from by decide]
    simp only [List.foldl_cons, List.foldl_nil, pA, pX _ _ _ [105, 102] (by decide), pX _ _ _ [101, 108, 115, 101] (by decide)]
    rw [i1 _ (by omega) _ (by simp only; omega)]
    simp only [pB, pC, pX _ _ _ [101, 108, 115, 101] (by decide)]
    rw [i2 _ (by omega) _ (by simp only; omega)]
    simp only [pC]
    rw [i3 _ (by omega) _ (by simp only; omega)]
    exact Prod.ext (by simp only; omega) (by simp [gapsL, shw, nmW, sgW, kyW])
  | snoc b s ihb ihs =>
    refine ⟨fun h => by rcases h with h | h <;> exact h.elim, fun h n hp f hf bb hb st hst => ?_⟩
    obtain ⟨p1, p2⟩ := PartN.app (G := G) (n := n) (L := fl n b) (M := fl (n + (cnt b - 1)) s) hp
    have hl := fl_n3 n h.1
    have hc : cnt (b.snoc s) = cnt b + cnt s := rfl
    have hs := cnt_pos s
    rw [show (fl n b).length = cnt b - 1 by omega] at p2
    have ls := (rt_lt (x := s) (n + (cnt b - 1)) (n + (cnt b - 1) + cnt s) (by omega)).2
    show (lst n b ++ [rt (n + (cnt b - 1)) s]).foldl _ _ = _
    rw [List.foldl_append, ihb.2 h.1 n p1 f (by omega) bb (by omega) st (by omega)]
    simp only [List.foldl_cons, List.foldl_nil]
    rw [ihs.1 (.inr h.2) (n + (cnt b - 1)) p2 f (by omega) bb (by omega) _ (by simp only; omega)]
    exact Prod.ext (by simp only; omega) (by simp [gapsL, shw])
/-- a program's nodes, shown -/
theorem show_flB {b : Nd} (h : okN 3 b) (st : St2) (hst : cnt b ≤ st.1) : nodeS (flB 0 b) (cnt b) (rt 0 b) (flB 0 b).length true st = (st.1 - cnt b, st.2 ++ gapsL [32] (shw b)) :=
  whole_s h ((shN b).2 h) (fun k hk => by rw [Nat.zero_add]) _ (Nat.le_refl _) _ (Nat.le_of_eq (flB_len 0 h).symm) st hst
end Go.Proofs.YtkacplcilkogpaaGreatDoor.Mm
