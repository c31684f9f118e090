/- Regions apart (chapter 11): plain sums. -/
import Derived.Test.YtalglocplebonaaBaM
namespace Go.Proofs.Ytalglocplebonaa.Mm
set_option linter.unusedVariables false

/-- a region: its base and its size -/
abbrev Rg := Int × Int
def powS (s : Int) : Bool := s == 128 || s == 256 || s == 512 || s == 1024 || s == 2048 || s == 4096 || s == 8192 || s == 16384
theorem powS_pos {s : Int} (h : powS s = true) : 128 ≤ s ∧ s ≤ 16384 := by
  unfold powS at h
  simp only [Bool.or_eq_true, beq_iff_eq] at h
  omega
/-- a is wholly below b, 64 bytes between -/
def Bel64 (a b : Rg) : Prop := a.1 + a.2 + 64 ≤ b.1
def apartE (a b : Rg) : Bool := decide (a.1 + a.2 + 64 ≤ b.1) || decide (b.1 + b.2 + 64 ≤ a.1)
theorem apart_iff (a b : Rg) : apartE a b = true ↔ (Bel64 a b ∨ Bel64 b a) := by
  unfold apartE Bel64
  simp [Bool.or_eq_true]
/-- a region of a memory of n bytes -/
def regB (n : Int) (r : Rg) : Bool := powS r.2 && decide (r.2 ≤ r.1) && decide (r.1 % r.2 = 0) && decide (r.1 + r.2 + 64 ≤ n)
theorem reg_iff {n : Int} {r : Rg} : regB n r = true ↔ (powS r.2 = true ∧ r.2 ≤ r.1 ∧ r.1 % r.2 = 0 ∧ r.1 + r.2 + 64 ≤ n) := by
  unfold regB
  simp [Bool.and_eq_true, and_assoc]
structure RightP (l : List Rg) (n : Int) : Prop where
  lo : 0 ≤ n
  hi : n ≤ 65536
  reg : ∀ r ∈ l, regB n r = true
  ris : l.Pairwise Bel64

theorem bel64_trans {a b c : Rg} (hb : 0 ≤ b.2) (h1 : Bel64 a b) (h2 : Bel64 b c) : Bel64 a c := by
  unfold Bel64 at *; omega
/-- rising and apart from the next: so from all -/
theorem ris_next {n : Int} : ∀ {l : List Rg}, (∀ r ∈ l, regB n r = true) → (∀ i, i + 1 < l.length → Bel64 (l.getD i (0, 0)) (l.getD (i + 1) (0, 0))) → l.Pairwise Bel64
  | [], _, _ => List.Pairwise.nil
  | [a], _, _ => by simp
  | a :: b :: l, hr, hn => by
    have ih := ris_next (l := b :: l) (fun r h => hr r (List.mem_cons_of_mem _ h)) (fun i h => by have := hn (i + 1) (by simp at h ⊢; omega); simpa using this)
    have hab : Bel64 a b := by have := hn 0 (by simp); simpa using this
    have hbp : 0 ≤ b.2 := by have := powS_pos (reg_iff.1 (hr b (by simp))).1; omega
    refine List.pairwise_cons.2 ⟨fun r h => ?_, ih⟩
    rcases List.mem_cons.1 h with rfl | h
    · exact hab
    · exact bel64_trans hbp hab ((List.pairwise_cons.1 ih).1 r h)
theorem ris_getD {l : List Rg} (h : l.Pairwise Bel64) {i j : Nat} (hij : i < j) (hj : j < l.length) : Bel64 (l.getD i (0, 0)) (l.getD j (0, 0)) := by
  have := List.pairwise_iff_getElem.1 h i j (by omega) hj hij
  rw [List.getD_eq_getElem?_getD, List.getD_eq_getElem?_getD, List.getElem?_eq_getElem (by omega : i < l.length), List.getElem?_eq_getElem hj]
  exact this
theorem right_nil {n : Int} (h : 0 ≤ n) (h' : n ≤ 65536) : RightP [] n := ⟨h, h', fun _ h => (by cases h), List.Pairwise.nil⟩
/-- put between those that begin no later and those that begin later -/
theorem right_add {p q : List Rg} {x : Rg} {n : Int} (h : RightP (p ++ q) n) (hx : regB n x = true) (ha : ∀ r ∈ p ++ q, apartE r x = true)
    (hp : ∀ r ∈ p, r.1 ≤ x.1) (hq : ∀ r ∈ q, x.1 < r.1) : RightP (p ++ x :: q) n := by
  have x0 := powS_pos (reg_iff.1 hx).1
  refine ⟨h.lo, h.hi, fun r hr => ?_, ?_⟩
  · rcases List.mem_append.1 hr with k | k
    · exact h.reg r (List.mem_append_left _ k)
    · rcases List.mem_cons.1 k with rfl | k
      · exact hx
      · exact h.reg r (List.mem_append_right _ k)
  · have h3 := List.pairwise_append.1 h.ris
    refine List.pairwise_append.2 ⟨h3.1, List.pairwise_cons.2 ⟨fun r k => ?_, h3.2.1⟩, fun r hr y hy => ?_⟩
    · rcases (apart_iff _ _).1 (ha r (List.mem_append_right _ k)) with e | e
      · have := hq r k
        have := powS_pos (reg_iff.1 (h.reg r (List.mem_append_right _ k))).1
        unfold Bel64 at e; omega
      · exact e
    · rcases List.mem_cons.1 hy with rfl | hy
      · rcases (apart_iff _ _).1 (ha r (List.mem_append_left _ hr)) with e | e
        · exact e
        · have := hp r hr
          unfold Bel64 at e; omega
      · exact h3.2.2 r hr y hy
theorem right_drop {p q : List Rg} {x : Rg} {n : Int} (h : RightP (p ++ x :: q) n) : RightP (p ++ q) n := by
  have s : (p ++ q).Sublist (p ++ x :: q) := List.Sublist.append (List.Sublist.refl _) (List.sublist_cons_self _ _)
  exact ⟨h.lo, h.hi, fun r hr => h.reg r (s.subset hr), h.ris.sublist s⟩
/-- the dropped one is apart from all others -/
theorem right_own {p q : List Rg} {x : Rg} {n : Int} (h : RightP (p ++ x :: q) n) : regB n x = true ∧ (∀ r ∈ p ++ q, apartE r x = true) ∧ (∀ r ∈ p, r.1 < x.1) ∧ (∀ r ∈ q, x.1 < r.1) := by
  have hx := h.reg x (List.mem_append_right _ (List.mem_cons_self ..))
  have x0 := powS_pos (reg_iff.1 hx).1
  have h3 := List.pairwise_append.1 h.ris
  have h4 := List.pairwise_cons.1 h3.2.1
  have hp : ∀ r ∈ p, Bel64 r x := fun r hr => h3.2.2 r hr x (List.mem_cons_self ..)
  have hs : ∀ r ∈ p, 128 ≤ r.2 := fun r hr => (powS_pos (reg_iff.1 (h.reg r (List.mem_append_left _ hr))).1).1
  refine ⟨hx, fun r hr => (apart_iff _ _).2 ?_, fun r hr => ?_, fun r hr => ?_⟩
  · rcases List.mem_append.1 hr with k | k
    · exact .inl (hp r k)
    · exact .inr (h4.1 r k)
  · have := hp r hr; have := hs r hr; unfold Bel64 at *; omega
  · have := h4.1 r hr; unfold Bel64 at this; omega
/-- a base at which a region of this size may be laid -/
structure TakeOk (l : List Rg) (n s b : Int) : Prop where
  lo : s ≤ b
  al : b % s = 0
  hi : b + s + 64 ≤ n
  ap : ∀ r ∈ l, apartE r (b, s) = true
/-- the least of them, or that there is none -/
def TakeIs (l : List Rg) (n s : Int) : Option Int → Prop
  | some b => TakeOk l n s b ∧ ∀ c, c < b → ¬ TakeOk l n s c
  | none => ∀ c, ¬ TakeOk l n s c
theorem take_one {l : List Rg} {n s : Int} {x y : Option Int} (h : TakeIs l n s x) (k : TakeIs l n s y) : x = y := by
  cases x <;> cases y
  · rfl
  · exact absurd k.1 (h _)
  · exact absurd h.1 (k _)
  · rename_i a b
    have h1 : ¬ a < b := fun q => k.2 _ q h.1
    have h2 : ¬ b < a := fun q => h.2 _ q k.1
    congr 1; omega
theorem take_reg {l : List Rg} {n s b : Int} (hs : powS s = true) (h : TakeOk l n s b) : regB n (b, s) = true :=
  reg_iff.2 ⟨hs, h.lo, h.al, h.hi⟩
/-- what is dropped can be taken again -/
theorem take_again {p q : List Rg} {x : Rg} {n : Int} (h : RightP (p ++ x :: q) n) : TakeOk (p ++ q) n x.2 x.1 := by
  obtain ⟨hx, ha, _, _⟩ := right_own h
  obtain ⟨_, h2, h3, h4⟩ := reg_iff.1 hx
  exact ⟨h2, h3, h4, ha⟩
theorem take_below {p q : List Rg} {x : Rg} {n : Int} (h : RightP (p ++ x :: q) n) {o : Option Int} (k : TakeIs (p ++ q) n x.2 o) : ∃ b, o = some b ∧ b ≤ x.1 := by
  have t := take_again h
  cases o with
  | none => exact absurd t (k _)
  | some b => exact ⟨b, rfl, by have : ¬ x.1 < b := fun q => k.2 _ q t; omega⟩

/-- regions of one size, side by side: k of them -/
def fullL (s : Int) (k : Nat) : List Rg := (List.range k).map fun (i : Nat) => ((2 * (i : Int) + 1) * s, s)
theorem full_len (s : Int) (k : Nat) : (fullL s k).length = k := by simp [fullL]
theorem full_succ (s : Int) (k : Nat) : fullL s (k + 1) = fullL s k ++ [((2 * (k : Int) + 1) * s, s)] := by
  simp [fullL, List.range_succ]
theorem full_mem {s : Int} {k : Nat} {r : Rg} : r ∈ fullL s k ↔ ∃ i, i < k ∧ r = ((2 * (i : Int) + 1) * s, s) := by
  simp [fullL, eq_comm]
/-- which bases are free behind k of them -/
theorem full_free {s n : Int} (hs : powS s = true) (k : Nat) (b : Int) : TakeOk (fullL s k) n s b ↔ (b % s = 0 ∧ (2 * (k : Int) + 1) * s ≤ b ∧ b + s + 64 ≤ n) := by
  have s0 := powS_pos hs
  constructor
  · intro h
    refine ⟨h.al, ?_, h.hi⟩
    obtain ⟨j, rfl⟩ : ∃ j, b = j * s := ⟨b / s, (Int.ediv_mul_cancel (Int.dvd_of_emod_eq_zero h.al)).symm⟩
    have hj : 1 ≤ j := by
      have := h.lo
      refine Int.not_lt.1 fun q => ?_
      have : j * s ≤ 0 * s := Int.mul_le_mul_of_nonneg_right (by omega) (by omega)
      omega
    refine Int.mul_le_mul_of_nonneg_right (Int.not_lt.1 fun q => ?_) (by omega)
    have hi : ∃ i : Nat, (i : Int) = (j - 1) / 2 := ⟨((j - 1) / 2).toNat, by omega⟩
    obtain ⟨i, hi⟩ := hi
    have hik : i < k := by omega
    have hm := (apart_iff _ _).1 (h.ap _ (full_mem.2 ⟨i, hik, rfl⟩))
    unfold Bel64 at hm
    have hd : j = 2 * (i : Int) + 1 ∨ j = 2 * (i : Int) + 2 := by omega
    rcases hd with rfl | rfl
    · simp only at hm; omega
    · have e : (2 * (i : Int) + 2) * s = (2 * (i : Int) + 1) * s + s := by rw [show (2 * (i : Int) + 2) = (2 * (i : Int) + 1) + 1 by omega, Int.add_mul _ 1, Int.one_mul]
      simp only [e] at hm; omega
  · rintro ⟨h1, h2, h3⟩
    have hk : s ≤ (2 * (k : Int) + 1) * s := by
      have : 1 * s ≤ (2 * (k : Int) + 1) * s := Int.mul_le_mul_of_nonneg_right (by omega) (by omega)
      omega
    refine ⟨by omega, h1, h3, fun r hr => (apart_iff _ _).2 (.inl ?_)⟩
    obtain ⟨i, hi, rfl⟩ := full_mem.1 hr
    unfold Bel64
    have e : (2 * (i : Int) + 1) * s + s + s = (2 * (i : Int) + 3) * s := by
      rw [show (2 * (i : Int) + 3) = ((2 * (i : Int) + 1) + 1) + 1 by omega, Int.add_mul (2 * (i : Int) + 1 + 1) 1, Int.add_mul (2 * (i : Int) + 1) 1, Int.one_mul]
    have : (2 * (i : Int) + 3) * s ≤ (2 * (k : Int) + 1) * s := Int.mul_le_mul_of_nonneg_right (by omega) (by omega)
    simp only; omega
theorem full_take {s n : Int} (hs : powS s = true) (k : Nat) {o : Option Int} (h : TakeIs (fullL s k) n s o) :
    (o = some ((2 * (k : Int) + 1) * s) ∧ (2 * (k : Int) + 1) * s + s + 64 ≤ n) ∨ (o = none ∧ n < (2 * (k : Int) + 1) * s + s + 64) := by
  have s0 := powS_pos hs
  have hal : ((2 * (k : Int) + 1) * s) % s = 0 := Int.mul_emod_left _ _
  by_cases hn : (2 * (k : Int) + 1) * s + s + 64 ≤ n
  · have T := (full_free (n := n) hs k _).2 ⟨hal, Int.le_refl _, hn⟩
    have : TakeIs (fullL s k) n s (some ((2 * (k : Int) + 1) * s)) := ⟨T, fun c hc q => by have := ((full_free hs k c).1 q).2.1; omega⟩
    exact .inl ⟨take_one h this, hn⟩
  · have : TakeIs (fullL s k) n s none := fun c q => by have := (full_free hs k c).1 q; omega
    exact .inr ⟨take_one h this, by omega⟩
/-- so many fit that 400 tries are enough -/
theorem full_few {s n : Int} (hs : powS s = true) (hn : n ≤ 65536) (k : Nat) (h : (2 * (k : Int) + 1) * s + s + 64 ≤ n) : k < 256 := by
  have s0 := powS_pos hs
  refine Nat.lt_of_not_le fun q => ?_
  have : (2 * (256 : Int) + 1) * 128 ≤ (2 * (k : Int) + 1) * 128 := Int.mul_le_mul_of_nonneg_right (by omega) (by omega)
  have : (2 * (k : Int) + 1) * 128 ≤ (2 * (k : Int) + 1) * s := Int.mul_le_mul_of_nonneg_left (by omega) (by omega)
  omega
theorem full_right {s n : Int} (hs : powS s = true) (h0 : 0 ≤ n) (h1 : n ≤ 65536) : ∀ k : Nat, (k = 0 ∨ (2 * ((k : Int) - 1) + 1) * s + s + 64 ≤ n) → RightP (fullL s k) n
  | 0, _ => by simpa [fullL] using right_nil h0 h1
  | k + 1, h => by
    have s0 := powS_pos hs
    have hk : (2 * (k : Int) + 1) * s + s + 64 ≤ n := by
      rcases h with h | h
      · cases h
      · have e : ((k + 1 : Nat) : Int) - 1 = k := by omega
        rw [e] at h; exact h
    have ih := full_right hs h0 h1 k (by
      rcases Nat.eq_zero_or_pos k with h | h
      · exact .inl h
      · right
        have : (2 * ((k : Int) - 1) + 1) * s ≤ (2 * (k : Int) + 1) * s := Int.mul_le_mul_of_nonneg_right (by omega) (by omega)
        omega)
    have T := (full_free (n := n) hs k _).2 ⟨Int.mul_emod_left _ _, Int.le_refl _, hk⟩
    rw [full_succ]
    refine right_add (q := []) (by simpa using ih) (take_reg hs T) (by simpa using T.ap) (fun r hr => ?_) (fun r hr => by cases hr)
    obtain ⟨i, hi, rfl⟩ := full_mem.1 hr
    exact Int.mul_le_mul_of_nonneg_right (by omega) (by omega)
end Go.Proofs.Ytalglocplebonaa.Mm
