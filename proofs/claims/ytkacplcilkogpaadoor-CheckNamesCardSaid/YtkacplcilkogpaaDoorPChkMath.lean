/- Whether a program is right, as a function of its declarations and of the names that its nodes use. No program in it. -/
import Derived.Test.YtkacplcilkogpaaDoorPChkMap
namespace Go.Proofs.YtkacplcilkogpaaDoor.Mm
set_option linter.unusedVariables false
set_option linter.unusedSimpArgs false

def kindD (s : Int) : Int := if s = -1 then 1 else 2
def kindF (k : Int) : Int := if k = 2 ∨ k = 7 then 1 else if k = 3 ∨ k = 8 then 2 else 0
def kmap (D : List Dc) : List (Bs × Int) := D.foldl (fun L p => putA L p.1 (kindD p.2)) []
theorem kmap_snoc (D : List Dc) (x : Dc) : kmap (D ++ [x]) = putA (kmap D) x.1 (kindD x.2) := by simp [kmap, List.foldl_append]
theorem take_snocD {α : Type} (L : List α) (k : Nat) (d : α) (h : k < L.length) : L.take (k + 1) = L.take k ++ [L.getD k d] := by
  rw [List.take_succ_eq_append_getElem h]
  simp [List.getD, h]
theorem putA_keys (L : List (Bs × Int)) (n : Bs) (v : Int) (x : Bs) : x ∈ (putA L n v).map Prod.fst ↔ x ∈ L.map Prod.fst ∨ x = n := by
  induction L with
  | nil => simp [putA]
  | cons p r ih =>
    unfold putA
    split
    · rename_i h
      simp only [List.map_cons, List.mem_cons, h]
      constructor
      · rintro (h | h); exact .inr h; exact .inl (.inr h)
      · rintro ((h | h) | h); exact .inl h; exact .inr h; exact .inl h
    · simp only [List.map_cons, List.mem_cons, ih]
      constructor
      · rintro (h | h | h); exact .inl (.inl h); exact .inl (.inr h); exact .inr h
      · rintro ((h | h) | h); exact .inl h; exact .inr (.inl h); exact .inr (.inr h)
theorem putA_len (L : List (Bs × Int)) (n : Bs) (v : Int) : (putA L n v).length = if n ∈ L.map Prod.fst then L.length else L.length + 1 := by
  induction L with
  | nil => simp [putA]
  | cons p r ih =>
    unfold putA
    by_cases h : p.1 = n
    · rw [if_pos h, if_pos (by simp [h])]; rfl
    · rw [if_neg h, List.length_cons, ih]
      by_cases h2 : n ∈ r.map Prod.fst
      · rw [if_pos h2, if_pos (by simp only [List.map_cons, List.mem_cons]; exact .inr h2)]; rfl
      · rw [if_neg h2, if_neg (by simp only [List.map_cons, List.mem_cons]; rintro (e | e); exact h e.symm; exact h2 e)]; rfl
theorem putA_new (L : List (Bs × Int)) (n : Bs) (v : Int) (h : n ∉ L.map Prod.fst) : putA L n v = L ++ [(n, v)] := by
  induction L with
  | nil => rfl
  | cons p r ih =>
    simp only [List.map_cons, List.mem_cons, not_or] at h
    unfold putA
    rw [if_neg (Ne.symm h.1), ih h.2]; rfl
theorem snoc_ind {α : Type} {P : List α → Prop} (h0 : P []) (h1 : ∀ l x, P l → P (l ++ [x])) (l : List α) : P l := by
  have : ∀ r : List α, P r.reverse := by
    intro r
    induction r with
    | nil => exact h0
    | cons x r ih => rw [List.reverse_cons]; exact h1 _ _ ih
  rw [← List.reverse_reverse l]; exact this _
theorem kmap_keys (D : List Dc) (x : Bs) : x ∈ (kmap D).map Prod.fst ↔ x ∈ D.map Prod.fst := by
  refine snoc_ind (P := fun D => x ∈ (kmap D).map Prod.fst ↔ x ∈ D.map Prod.fst) (by simp [kmap]) (fun D d ih => ?_) D
  show x ∈ (kmap (D ++ [d])).map Prod.fst ↔ _
  rw [kmap_snoc, putA_keys, ih]
  simp
theorem nodup_snoc (D : List Dc) (d : Dc) : ((D ++ [d]).map Prod.fst).Nodup ↔ (D.map Prod.fst).Nodup ∧ d.1 ∉ D.map Prod.fst := by
  rw [List.map_append, List.nodup_append]
  constructor
  · rintro ⟨h1, _, h3⟩
    exact ⟨h1, fun h => h3 _ h _ (by simp) rfl⟩
  · rintro ⟨h1, h2⟩
    refine ⟨h1, by simp, fun a ha b hb => ?_⟩
    simp only [List.map_cons, List.map_nil, List.mem_singleton] at hb
    subst hb
    rintro rfl
    exact h2 ha
theorem kmap_len (D : List Dc) : (kmap D).length ≤ D.length ∧ ((kmap D).length = D.length ↔ (D.map Prod.fst).Nodup) := by
  refine snoc_ind (P := fun D => (kmap D).length ≤ D.length ∧ ((kmap D).length = D.length ↔ (D.map Prod.fst).Nodup)) (by simp [kmap]) (fun D d ih => ?_) D
  show (kmap (D ++ [d])).length ≤ _ ∧ ((kmap (D ++ [d])).length = _ ↔ _)
  rw [kmap_snoc, putA_len, nodup_snoc, ← ih.2]
  have h1 := ih.1
  have hk := kmap_keys D d.1
  rw [List.length_append, List.length_cons, List.length_nil]
  by_cases h : d.1 ∈ D.map Prod.fst
  · rw [if_pos (hk.2 h)]
    exact ⟨by omega, ⟨fun e => by omega, fun e => absurd h e.2⟩⟩
  · rw [if_neg (fun x => h (hk.1 x))]
    exact ⟨by omega, ⟨fun e => ⟨by omega, h⟩, fun e => by omega⟩⟩
theorem kmap_nodup (D : List Dc) : (D.map Prod.fst).Nodup → kmap D = D.map fun p => (p.1, kindD p.2) := by
  refine snoc_ind (P := fun D => (D.map Prod.fst).Nodup → kmap D = D.map fun p => (p.1, kindD p.2)) (fun _ => rfl) (fun D d ih h => ?_) D
  rw [nodup_snoc] at h
  rw [kmap_snoc, putA_new _ _ _ (fun x => h.2 ((kmap_keys D d.1).1 x)), ih h.1, List.map_append]
  rfl
/-- the kind that a name is declared as: 0: none -/
def lookD : List Dc → Bs → Int
  | [], _ => 0
  | d :: r, n => if d.1 = n then kindD d.2 else lookD r n
theorem getA_map (D : List Dc) (n : Bs) : getA (D.map fun p => (p.1, kindD p.2)) n = lookD D n := by
  induction D with
  | nil => rfl
  | cons d r ih => simp only [List.map_cons, getA, lookD, ih]
def useE (K : List (Bs × Int)) (k : Int) (n : Bs) : Int := if kindF k = 0 then 0 else if getA K n = kindF k then 0 else if getA K n = 0 then 10 else 11
def usesE (K : List (Bs × Int)) : List (Int × Bs) → Int
  | [] => 0
  | u :: r => if useE K u.1 u.2 = 0 then usesE K r else useE K u.1 u.2
theorem usesE_app (K : List (Bs × Int)) (a b : List (Int × Bs)) : usesE K (a ++ b) = if usesE K a = 0 then usesE K b else usesE K a := by
  induction a with
  | nil => simp [usesE]
  | cons u r ih =>
    have e1 : ∀ x, usesE K (u :: x) = if useE K u.1 u.2 = 0 then usesE K x else useE K u.1 u.2 := fun _ => rfl
    rw [List.cons_append, e1]
    by_cases h : useE K u.1 u.2 = 0
    · have e2 : usesE K (u :: r) = usesE K r := by rw [e1, if_pos h]
      rw [if_pos h, e2, ih]
    · have e2 : usesE K (u :: r) = useE K u.1 u.2 := by rw [e1, if_neg h]
      rw [if_neg h, e2, if_neg h]
def varsL (D : List Dc) : List Bs := (D.filter fun d => decide (d.2 = -1)).map Prod.fst
def arrsL (D : List Dc) : List Dc := D.filter fun d => !decide (d.2 = -1)
def wrongD (d : Dc) : Bool := decide (d.2 < 1) || decide (32 < d.2)
def fitB (D : List Dc) : Bool := !(arrsL D).any wrongD && (decide ((arrsL D).length ≤ 4) && decide ((varsL D).length ≤ 16))
def rightE (D : List Dc) (U : List (Int × Bs)) : Int := if (kmap D).length < D.length then 9 else if fitB D then usesE (kmap D) U else 4
theorem vars_snoc (D : List Dc) (d : Dc) : varsL (D ++ [d]) = if d.2 = -1 then varsL D ++ [d.1] else varsL D := by
  unfold varsL
  rw [List.filter_append, List.map_append]
  by_cases h : d.2 = -1 <;> simp [h]
theorem arrs_snoc (D : List Dc) (d : Dc) : arrsL (D ++ [d]) = if d.2 = -1 then arrsL D else arrsL D ++ [d] := by
  unfold arrsL
  rw [List.filter_append]
  by_cases h : d.2 = -1 <;> simp [h]
theorem vars_le (D : List Dc) : (varsL D).length ≤ D.length := by unfold varsL; rw [List.length_map]; exact List.length_filter_le _ _
theorem arrs_le (D : List Dc) : (arrsL D).length ≤ D.length := List.length_filter_le _ _
/-- as the document has it -/
def useR (D : List Dc) (a : Bool) (n : Bs) : Int := D.foldl (fun e d => if d.1 = n then (if a = !decide (d.2 = -1) then 0 else 11) else e) 10
theorem useR_snoc (D : List Dc) (d : Dc) (a : Bool) (n : Bs) : useR (D ++ [d]) a n = if d.1 = n then (if a = !decide (d.2 = -1) then 0 else 11) else useR D a n := by simp [useR, List.foldl_append]
theorem lookD_app (D : List Dc) (d : Dc) (n : Bs) : lookD (D ++ [d]) n = if n ∈ D.map Prod.fst then lookD D n else if d.1 = n then kindD d.2 else 0 := by
  induction D with
  | nil => simp [lookD]
  | cons x r ih =>
    simp only [List.cons_append, lookD, List.map_cons, List.mem_cons]
    by_cases h : x.1 = n
    · rw [if_pos h, if_pos h, if_pos (.inl h.symm)]
    · rw [if_neg h, if_neg h, ih]
      by_cases h2 : n ∈ r.map Prod.fst
      · rw [if_pos h2, if_pos (.inr h2)]
      · have hno : ¬ (n = x.1 ∨ n ∈ r.map Prod.fst) := fun e => e.elim (fun e => h e.symm) h2
        rw [if_neg h2, if_neg hno]
theorem lookD_none (D : List Dc) (n : Bs) (h : n ∉ D.map Prod.fst) : lookD D n = 0 := by
  induction D with
  | nil => rfl
  | cons x r ih =>
    simp only [List.map_cons, List.mem_cons, not_or] at h
    unfold lookD
    rw [if_neg (Ne.symm h.1), ih h.2]
def kU (a : Bool) : Int := if a then 2 else 1
theorem kindD_cases (s : Int) : (s = -1 ∧ kindD s = 1) ∨ (s ≠ -1 ∧ kindD s = 2) := by
  unfold kindD
  by_cases h : s = -1
  · exact .inl ⟨h, if_pos h⟩
  · exact .inr ⟨h, if_neg h⟩
theorem useR_look (D : List Dc) (a : Bool) (n : Bs) : (D.map Prod.fst).Nodup → useR D a n = if lookD D n = kU a then 0 else if lookD D n = 0 then 10 else 11 := by
  refine snoc_ind (P := fun D => (D.map Prod.fst).Nodup → useR D a n = if lookD D n = kU a then 0 else if lookD D n = 0 then 10 else 11) (fun _ => by cases a <;> simp [useR, lookD, kU]) (fun D d ih h => ?_) D
  rw [nodup_snoc] at h
  rw [useR_snoc, lookD_app]
  by_cases hd : d.1 = n
  · subst hd
    rw [if_pos rfl, if_neg h.2, if_pos rfl]
    rcases kindD_cases d.2 with ⟨h1, h2⟩ | ⟨h1, h2⟩ <;> rw [h2] <;> cases a <;> simp [kU, h1]
  · rw [if_neg hd, ih h.1, if_neg hd]
    by_cases hm : n ∈ D.map Prod.fst
    · rw [if_pos hm]
    · rw [if_neg hm, lookD_none D n hm]
def usesR (D : List Dc) : List (Bool × Bs) → Int
  | [] => 0
  | u :: r => if useR D u.1 u.2 = 0 then usesR D r else useR D u.1 u.2
def rightR (D : List Dc) (U : List (Bool × Bs)) : Int := if ¬ (D.map Prod.fst).Nodup then 9 else if fitB D then usesR D U else 4
def kOf (i j : Int) (u : Bool × Bs) : Int × Bs := (if u.1 then j else i, u.2)
theorem right_ref (D : List Dc) (U : List (Bool × Bs)) (i j : Int) (hi : kindF i = 1) (hj : kindF j = 2) : rightE D (U.map (kOf i j)) = rightR D U := by
  unfold rightE rightR
  have hl := kmap_len D
  by_cases hn : (D.map Prod.fst).Nodup
  · rw [if_neg (by have := hl.2.2 hn; omega)]
    rw [if_neg (show ¬ ¬ (D.map Prod.fst).Nodup from fun y => y hn)]
    by_cases hf : fitB D = true
    · rw [if_pos hf, if_pos hf]
      have key : ∀ u : Bool × Bs, useE (kmap D) (kOf i j u).1 (kOf i j u).2 = useR D u.1 u.2 := by
        intro u
        rw [useR_look D u.1 u.2 hn, kmap_nodup D hn]
        unfold useE kOf
        simp only [getA_map]
        cases u.1 <;> simp [hi, hj, kU]
      induction U with
      | nil => rfl
      | cons u r ih => simp only [List.map_cons, usesE, usesR, key u, ih]
    · rw [if_neg hf, if_neg hf]
  · rw [if_pos (by have := hl.1; have : (kmap D).length ≠ D.length := fun e => hn (hl.2.1 e); omega), if_pos hn]
/-- nodes without names -/
theorem uses_free (K : List (Bs × Int)) (U : List (Int × Bs)) (h : ∀ u ∈ U, kindF u.1 = 0) : usesE K U = 0 := by
  induction U with
  | nil => rfl
  | cons u r ih =>
    unfold usesE
    rw [if_pos (by unfold useE; rw [if_pos (h u (List.mem_cons_self ..))]), ih (fun x hx => h x (List.mem_cons_of_mem _ hx))]
theorem right_free (D : List Dc) (U : List (Int × Bs)) (h : ∀ u ∈ U, kindF u.1 = 0) : rightE D U = rightE D [] := by
  unfold rightE
  rw [uses_free _ U h]
  rfl
/-- all names told anew -/
def tailD (t : Bs) (d : Dc) : Dc := (d.1 ++ t, d.2)
def tailU (t : Bs) (u : Int × Bs) : Int × Bs := (u.1, u.2 ++ t)
theorem putA_tail (t : Bs) (L : List (Bs × Int)) (n : Bs) (v : Int) : putA (L.map (tailD t)) (n ++ t) v = (putA L n v).map (tailD t) := by
  induction L with
  | nil => rfl
  | cons p r ih =>
    simp only [List.map_cons, putA, tailD, List.append_cancel_right_eq]
    by_cases h : p.1 = n
    · rw [if_pos h, if_pos h]; rfl
    · rw [if_neg h, if_neg h]
      simp only [List.map_cons, tailD]
      rw [← ih]
theorem getA_tail (t : Bs) (L : List (Bs × Int)) (n : Bs) : getA (L.map (tailD t)) (n ++ t) = getA L n := by
  induction L with
  | nil => rfl
  | cons p r ih => simp only [List.map_cons, getA, tailD, List.append_cancel_right_eq, ← ih]
theorem kmap_tail (t : Bs) (D : List Dc) : kmap (D.map (tailD t)) = (kmap D).map (tailD t) := by
  refine snoc_ind (P := fun D => kmap (D.map (tailD t)) = (kmap D).map (tailD t)) rfl (fun D d ih => ?_) D
  rw [List.map_append, List.map_cons, List.map_nil, kmap_snoc, ih, kmap_snoc]
  exact putA_tail t _ _ _
theorem right_tail (t : Bs) (D : List Dc) (U : List (Int × Bs)) : rightE (D.map (tailD t)) (U.map (tailU t)) = rightE D U := by
  have hf : fitB (D.map (tailD t)) = fitB D := by
    have h1 : (varsL (D.map (tailD t))).length = (varsL D).length := by
      refine snoc_ind (P := fun D => (varsL (D.map (tailD t))).length = (varsL D).length) rfl (fun D d ih => ?_) D
      rw [List.map_append, List.map_cons, List.map_nil, vars_snoc, vars_snoc]
      show (if d.2 = -1 then _ else _ : List Bs).length = _
      split <;> simp [ih]
    have h2 : arrsL (D.map (tailD t)) = (arrsL D).map (tailD t) := by
      refine snoc_ind (P := fun D => arrsL (D.map (tailD t)) = (arrsL D).map (tailD t)) rfl (fun D d ih => ?_) D
      rw [List.map_append, List.map_cons, List.map_nil, arrs_snoc, arrs_snoc]
      show (if d.2 = -1 then _ else _ : List Dc) = _
      split <;> simp [ih]
    unfold fitB
    rw [h1, h2, List.length_map, List.any_map]
    rfl
  unfold rightE
  rw [kmap_tail, List.length_map, List.length_map, hf]
  congr 1
  congr 1
  induction U with
  | nil => rfl
  | cons u r ih =>
    have key : useE ((kmap D).map (tailD t)) (tailU t u).1 (tailU t u).2 = useE (kmap D) u.1 u.2 := by
      unfold useE tailU
      simp only [getA_tail]
    simp only [List.map_cons, usesE, key, ih]
/-- a declaration more, of a name that isn't there -/
theorem uses_more (D : List Dc) (d : Dc) (U : List (Int × Bs)) (hn : ((D ++ [d]).map Prod.fst).Nodup) (h : usesE (kmap D) U = 0) : usesE (kmap (D ++ [d])) U = 0 := by
  have hn' := hn
  rw [nodup_snoc] at hn
  rw [kmap_nodup _ hn.1] at h
  rw [kmap_nodup _ hn']
  induction U with
  | nil => rfl
  | cons u r ih =>
    unfold usesE at h ⊢
    by_cases h1 : useE (D.map fun p => (p.1, kindD p.2)) u.1 u.2 = 0
    · rw [if_pos h1] at h
      have h2 : useE ((D ++ [d]).map fun p => (p.1, kindD p.2)) u.1 u.2 = 0 := by
        unfold useE at h1 ⊢
        rw [getA_map] at h1 ⊢
        rw [lookD_app]
        by_cases hk : kindF u.1 = 0
        · rw [if_pos hk]
        · rw [if_neg hk] at h1 ⊢
          by_cases hm : u.2 ∈ D.map Prod.fst
          · rw [if_pos hm]; exact h1
          · rw [lookD_none _ _ hm] at h1
            rw [if_neg (Ne.symm hk), if_pos rfl] at h1
            exact absurd h1 (by decide)
      rw [if_pos h2]
      exact ih h
    · rw [if_neg h1] at h
      exact absurd h h1
theorem right_yes {D : List Dc} {U : List (Int × Bs)} (h : rightE D U = 0) : (D.map Prod.fst).Nodup ∧ fitB D = true ∧ usesE (kmap D) U = 0 := by
  unfold rightE at h
  have hl := kmap_len D
  split at h
  · exact absurd h (by decide)
  · rename_i hlt
    split at h
    · rename_i hf
      exact ⟨hl.2.1 (by have := hl.1; omega), hf, h⟩
    · exact absurd h (by decide)
def fullB (D : List Dc) (arr : Bool) : Bool := if arr then decide ((arrsL D).length = 4) else decide ((varsL D).length = 16)
theorem right_more (D : List Dc) (U : List (Int × Bs)) (n : Bs) (arr : Bool) (h : rightE D U = 0) (hn : n ∉ D.map Prod.fst) :
    (rightE (D ++ [(n, if arr then 5 else -1)]) U = 0 ↔ fullB D arr = false) ∧ rightE (D ++ [(n, if arr then 5 else -1)] ++ [(n, -1)]) U = 9 := by
  obtain ⟨h1, h2, h3⟩ := right_yes h
  have hd : ((D ++ [(n, if arr then (5 : Int) else -1)]).map Prod.fst).Nodup := (nodup_snoc _ _).2 ⟨h1, hn⟩
  have h4 := uses_more D (n, if arr then 5 else -1) U hd h3
  constructor
  · unfold rightE
    rw [if_neg (by have := (kmap_len (D ++ [(n, if arr then (5 : Int) else -1)])).2.2 hd; omega), h4]
    have hf : fitB (D ++ [(n, if arr then (5 : Int) else -1)]) = true ↔ fullB D arr = false := by
      unfold fitB at h2 ⊢
      unfold fullB
      rw [vars_snoc, arrs_snoc]
      simp only [Bool.and_eq_true, Bool.not_eq_true', decide_eq_true_eq] at h2 ⊢
      cases arr
      · simp only [Bool.false_eq_true, if_false, if_true, List.length_append, List.length_cons, List.length_nil, h2.1, true_and, decide_eq_false_iff_not]
        omega
      · simp only [if_true, List.length_append, List.length_cons, List.length_nil, List.any_append, h2.1, decide_eq_false_iff_not, Bool.or_eq_false_iff, List.any_cons, List.any_nil]
        rw [if_neg (by decide), if_neg (by decide)]
        simp only [List.length_append, List.length_cons, List.length_nil, List.any_append, h2.1, List.any_cons, List.any_nil]
        simp [wrongD]
        omega
    rw [← hf]
    split <;> simp_all
  · unfold rightE
    have := kmap_len (D ++ [(n, if arr then (5 : Int) else -1)] ++ [(n, -1)])
    rw [if_pos]
    have hne : ¬ ((D ++ [(n, if arr then (5 : Int) else -1)] ++ [(n, -1)]).map Prod.fst).Nodup := by
      rw [nodup_snoc]
      rintro ⟨_, h⟩
      exact h (by simp)
    have : (kmap (D ++ [(n, if arr then (5 : Int) else -1)] ++ [(n, -1)])).length ≠ (D ++ [(n, if arr then (5 : Int) else -1)] ++ [(n, -1)]).length := fun e => hne (this.2.1 e)
    omega
end Go.Proofs.YtkacplcilkogpaaDoor.Mm
