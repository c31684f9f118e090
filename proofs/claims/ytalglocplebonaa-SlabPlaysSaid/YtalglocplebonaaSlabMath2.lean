/- Regions apart (chapter 11): what Take, Add and Drop answer, as sums; a row that is told again in a longer one. -/
import Derived.Test.YtalglocplebonaaSlabMath
namespace Go.Proofs.Ytalglocplebonaa.Mm
set_option linter.unusedVariables false

open Classical in
noncomputable def rgtB (l : List Rg) (n : Int) : Bool := decide (RightP l n)
theorem rgt_iff {l : List Rg} {n : Int} : rgtB l n = true ↔ RightP l n := by unfold rgtB; simp
theorem rgt_no {l : List Rg} {n : Int} : rgtB l n = false ↔ ¬ RightP l n := by unfold rgtB; simp

theorem take_some (l : List Rg) (n s : Int) (hs : powS s = true) : ∀ (k : Nat) (c : Int), c.toNat ≤ k → TakeOk l n s c → ∃ o, TakeIs l n s o
  | 0, c, hk, h => by
    have := powS_pos hs; have := h.lo; omega
  | k + 1, c, hk, h => by
    by_cases q : ∃ d, d < c ∧ TakeOk l n s d
    · obtain ⟨d, hd, hd'⟩ := q
      exact take_some l n s hs k d (by have := powS_pos hs; have := h.lo; omega) hd'
    · exact ⟨some c, h, fun d hd hd' => q ⟨d, hd, hd'⟩⟩
theorem take_ex (l : List Rg) (n s : Int) (hs : powS s = true) : ∃ o, TakeIs l n s o := by
  by_cases q : ∃ c, TakeOk l n s c
  · obtain ⟨c, h⟩ := q
    exact take_some l n s hs _ c (Nat.le_refl _) h
  · exact ⟨none, fun c h => q ⟨c, h⟩⟩
open Classical in
/-- the least base that is right, -1 of none -/
noncomputable def takeV (l : List Rg) (n s : Int) : Int := if h : ∃ b, TakeIs l n s (some b) then Classical.choose h else -1
theorem takeV_some {l : List Rg} {n s b : Int} (h : TakeIs l n s (some b)) : takeV l n s = b := by
  unfold takeV
  have hx : ∃ b, TakeIs l n s (some b) := ⟨b, h⟩
  rw [dif_pos hx]
  have := take_one (Classical.choose_spec hx) h
  exact Option.some.inj this
theorem takeV_none {l : List Rg} {n s : Int} (h : TakeIs l n s none) : takeV l n s = -1 := by
  unfold takeV
  rw [dif_neg]
  rintro ⟨b, hb⟩
  have := take_one h hb
  cases this
theorem takeV_cases {l : List Rg} {n s : Int} (hs : powS s = true) : (TakeOk l n s (takeV l n s) ∧ 0 ≤ takeV l n s) ∨ (takeV l n s = -1 ∧ ∀ c, ¬ TakeOk l n s c) := by
  obtain ⟨o, h⟩ := take_ex l n s hs
  cases o with
  | none => exact .inr ⟨takeV_none h, h⟩
  | some b =>
    rw [takeV_some h]
    exact .inl ⟨h.1, by have := powS_pos hs; have := h.1.lo; omega⟩
/-- the error of Take: ErrState, ErrArg, ErrSpace -/
noncomputable def takeE (l : List Rg) (n s : Int) : Int := if rgtB l n = false then 12 else if powS s = false then 1 else if takeV l n s < 0 then 7 else 0
theorem takeE_cases (l : List Rg) (n s : Int) : (takeE l n s = 0 ∧ RightP l n ∧ powS s = true ∧ TakeOk l n s (takeV l n s)) ∨ takeE l n s = 12 ∨ takeE l n s = 1 ∨ takeE l n s = 7 := by
  unfold takeE
  by_cases h1 : rgtB l n = false
  · simp [h1]
  · have h1' : rgtB l n = true := by simpa using h1
    by_cases h2 : powS s = false
    · simp [h1', h2]
    · have h2' : powS s = true := by simpa using h2
      by_cases h3 : takeV l n s < 0
      · simp [h1', h2', h3]
      · have := takeV_cases (l := l) (n := n) h2'
        rcases this with h | h
        · left; exact ⟨by simp [h1', h2', h3], rgt_iff.1 h1', h2', h.1⟩
        · omega

/-- what Add answers: x put in; of rising ones, behind those that begin no later -/
structure AddIs (l : List Rg) (x : Rg) (m p q : List Rg) : Prop where
  was : l = p ++ q
  now : m = p ++ x :: q
  lo : l.Pairwise (fun a b => a.1 < b.1) → ∀ r ∈ p, r.1 ≤ x.1
  hi : l.Pairwise (fun a b => a.1 < b.1) → ∀ r ∈ q, x.1 < r.1
theorem right_rises {l : List Rg} {n : Int} (h : RightP l n) : l.Pairwise (fun a b => a.1 < b.1) := by
  refine List.Pairwise.imp_of_mem ?_ h.ris
  intro a b ha hb hab
  have := powS_pos (reg_iff.1 (h.reg a ha)).1
  unfold Bel64 at hab; omega
theorem add_right {l m p q : List Rg} {x : Rg} {n : Int} (h : RightP l n) (ha : AddIs l x m p q) (hx : regB n x = true) (hap : ∀ r ∈ l, apartE r x = true) : RightP m n := by
  have r := right_rises h
  have lo := ha.lo r
  have hi := ha.hi r
  obtain ⟨rfl, rfl, _, _⟩ := ha
  exact right_add h hx hap lo hi
theorem add_len {l m p q : List Rg} {x : Rg} (ha : AddIs l x m p q) : m.length = l.length + 1 := by
  rw [ha.was, ha.now]; simp; omega
/-- taken, then added: right -/
theorem take_add {l m p q : List Rg} {n s : Int} (h : takeE l n s = 0) (ha : AddIs l (takeV l n s, s) m p q) : RightP m n := by
  rcases takeE_cases l n s with ⟨_, h1, h2, h3⟩ | k | k | k
  · exact add_right h1 ha (take_reg h2 h3) h3.ap
  all_goals omega
/-- put back where it was dropped: right -/
theorem back_right {a b m p q : List Rg} {x : Rg} {n : Int} (h : RightP (a ++ x :: b) n) (ha : AddIs (a ++ b) x m p q) : RightP m n := by
  obtain ⟨h1, h2, _, _⟩ := right_own h
  exact add_right (right_drop h) ha h1 h2
theorem full_add {s n : Int} (hs : powS s = true) {k : Nat} {m p q : List Rg} (ha : AddIs (fullL s k) ((2 * (k : Int) + 1) * s, s) m p q) (hr : RightP (fullL s k) n) : m = fullL s (k + 1) := by
  have s0 := powS_pos hs
  have hi := ha.hi (right_rises hr)
  obtain ⟨h1, rfl, _, _⟩ := ha
  have hq : q = [] := by
    cases q with
    | nil => rfl
    | cons y q =>
      exfalso
      have hy := hi y (List.mem_cons_self ..)
      have : y ∈ fullL s k := by rw [h1]; simp
      obtain ⟨i, hik, rfl⟩ := full_mem.1 this
      have : (2 * (i : Int) + 1) * s ≤ (2 * (k : Int) + 1) * s := Int.mul_le_mul_of_nonneg_right (by omega) (by omega)
      simp only at hy; omega
  subst hq
  rw [full_succ, h1]; simp
/-- what Drop answers: the first of this base taken out -/
structure DropIs (l : List Rg) (base : Int) (m p q : List Rg) (x : Rg) : Prop where
  was : l = p ++ x :: q
  now : m = p ++ q
  at_ : x.1 = base
  fst : ∀ r ∈ p, r.1 ≠ base
theorem drop_right {l m p q : List Rg} {x : Rg} {n base : Int} (h : RightP l n) (hd : DropIs l base m p q x) : RightP m n := by
  obtain ⟨rfl, rfl, _, _⟩ := hd
  exact right_drop h
theorem drop_len {l m p q : List Rg} {x : Rg} {base : Int} (hd : DropIs l base m p q x) : m.length + 1 = l.length := by
  rw [hd.was, hd.now]; simp; omega
/-- of right ones, the one dropped is the one meant -/
theorem drop_same {l m p q : List Rg} {x y : Rg} {n : Int} (h : RightP l n) (hy : y ∈ l) (hd : DropIs l y.1 m p q x) : x = y := by
  obtain ⟨rfl, rfl, ha, hf⟩ := hd
  obtain ⟨_, _, h1, h2⟩ := right_own h
  rcases List.mem_append.1 hy with k | k
  · exact absurd rfl (hf y k)
  · rcases List.mem_cons.1 k with k | k
    · exact k.symm
    · have := h2 y k; omega
/-- a size by its shift -/
theorem pow_shift (k : Int) (h0 : 0 ≤ k) (h1 : k ≤ 255) : powS (128 * 2 ^ (k % 8).toNat) = true := by
  have : (k % 8).toNat = 0 ∨ (k % 8).toNat = 1 ∨ (k % 8).toNat = 2 ∨ (k % 8).toNat = 3 ∨ (k % 8).toNat = 4 ∨ (k % 8).toNat = 5 ∨ (k % 8).toNat = 6 ∨ (k % 8).toNat = 7 := by omega
  rcases this with h | h | h | h | h | h | h | h <;> rw [h] <;> decide
/-- a byte of one's own is not within 64 of the other -/
theorem apart_byte {a b : Rg} (h : apartE a b = true) (hb : 0 ≤ b.2) (ha : 0 ≤ a.2) (at_ : Int) (h1 : a.1 ≤ at_ ∧ at_ < a.1 + a.2) : ¬ (b.1 - 64 ≤ at_ ∧ at_ < b.1 + b.2 + 64) := by
  rcases (apart_iff _ _).1 h with e | e <;> unfold Bel64 at e <;> omega
theorem apart_comm (a b : Rg) : apartE a b = apartE b a := by unfold apartE; exact Bool.or_comm _ _

/-- how far the shorter row has been told, behind i of the longer one: p's length a, N in all -/
def ToldI (a N i k : Nat) : Prop := k ≤ N ∧ (i ≤ a → k = i) ∧ (a < i → i ≤ k + 1 ∧ k ≤ i)
theorem told_step {p q : List Rg} {x : Rg} {i k : Nat} (h : ToldI p.length (p.length + q.length) i k) (hi : i < p.length + q.length + 1) :
    ToldI p.length (p.length + q.length) (i + 1) (if k < p.length + q.length ∧ (p ++ x :: q).getD i (0, 0) = (p ++ q).getD k (0, 0) then k + 1 else k) := by
  obtain ⟨h1, h2, h3⟩ := h
  unfold ToldI
  by_cases h4 : i < p.length
  · have hk : k = i := h2 (by omega)
    subst hk
    have e : (p ++ x :: q).getD k (0, 0) = (p ++ q).getD k (0, 0) := by
      rw [List.getD_eq_getElem?_getD, List.getD_eq_getElem?_getD, List.getElem?_append_left h4, List.getElem?_append_left h4]
    rw [if_pos ⟨by omega, e⟩]
    omega
  · by_cases h5 : i = p.length
    · have hk : k = i := h2 (by omega)
      split <;> omega
    · have h6 := h3 (by omega)
      by_cases h7 : k + 1 = i
      · have e : (p ++ x :: q).getD i (0, 0) = (p ++ q).getD k (0, 0) := by
          rw [List.getD_eq_getElem?_getD, List.getD_eq_getElem?_getD, List.getElem?_append_right (by omega), List.getElem?_append_right (by omega)]
          rw [show i - p.length = (k - p.length) + 1 by omega, List.getElem?_cons_succ]
        rw [if_pos ⟨by omega, e⟩]
        omega
      · have : k = i := by omega
        split <;> omega
theorem told_end {a b k : Nat} (h : ToldI a (a + b) (a + b + 1) k) : k = a + b := by
  unfold ToldI at h; omega
theorem told_start (a N : Nat) : ToldI a N 0 0 := by unfold ToldI; omega
end Go.Proofs.Ytalglocplebonaa.Mm
