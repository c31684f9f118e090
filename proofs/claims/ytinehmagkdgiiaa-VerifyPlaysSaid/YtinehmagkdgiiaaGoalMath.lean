/- Where jumps go: the plain sums of layer 9. -/
import Derived.Test.YtinehmagkdgiiaaRuA
namespace Go.Proofs.Ytinehmagkdgiiaa.Mm
open Go.RowKit
set_option linter.unusedVariables false
set_option maxRecDepth 10000

def jmpB (x : InsV) : Bool := x.op == 19 || x.op == 20
/-- a jump's goal -/
def goalV (p : Nat × InsV) : Int := (p.1 : Int) + Go.Proofs.Ytinehmagkdgiiaa.szO p.2.op + wrap32 p.2.imm
/-- the goals of all jumps -/
def goalL (L : List (Nat × InsV)) : List Int := (L.filter fun p => jmpB p.2).map goalV
/-- an instruction begins there that is no second one -/
def hitB (S : List Nat) (g : Int) (p : Nat × InsV) : Bool := decide ((p.1 : Int) = g) && !decide (p.1 ∈ S)
def foundB (L : List (Nat × InsV)) (S : List Nat) (g : Int) : Bool := L.any (hitB S g)
def mayB (L : List (Nat × InsV)) : Bool := L.all fun p => !jmpB p.2 || foundB L (secP L) (goalV p)
def mayE (code : List Int) : Int := if ruleE code ≠ 0 then ruleE code else if mayB (scanL code) = true then 0 else 6
def goalsC (code : List Int) : List Int := if ruleE code = 0 then goalL (scanL code) else []

theorem goal_yes {L : List (Nat × InsV)} {k : Nat} (hk : k < L.length) (h : jmpB (L.getD k dfl).2 = true) : goalL (L.take (k + 1)) = goalL (L.take k) ++ [goalV (L.getD k dfl)] := by
  rw [take_1 L dfl k hk]
  unfold goalL
  rw [List.filter_append, List.map_append]
  generalize L.getD k dfl = p at *
  simp [h]
theorem goal_no {L : List (Nat × InsV)} {k : Nat} (hk : k < L.length) (h : jmpB (L.getD k dfl).2 = false) : goalL (L.take (k + 1)) = goalL (L.take k) := by
  rw [take_1 L dfl k hk]
  unfold goalL
  rw [List.filter_append, List.map_append]
  generalize L.getD k dfl = p at *
  simp [h]
theorem goal_0 (L : List (Nat × InsV)) : goalL (L.take 0) = [] := rfl
theorem goal_all (L : List (Nat × InsV)) : goalL (L.take L.length) = goalL L := by rw [List.take_length]
theorem goal_len (L : List (Nat × InsV)) : (goalL L).length ≤ L.length := by
  unfold goalL
  rw [List.length_map]
  exact List.length_filter_le _ _
theorem goal_take_len (L : List (Nat × InsV)) (k : Nat) : (goalL (L.take k)).length ≤ k := Nat.le_trans (goal_len _) (List.length_take_le _ _)
theorem found_step {L : List (Nat × InsV)} {S : List Nat} {g : Int} {k : Nat} (hk : k < L.length) : foundB (L.take (k + 1)) S g = (foundB (L.take k) S g || hitB S g (L.getD k dfl)) := by
  unfold foundB
  rw [take_1 L dfl k hk, List.any_append]
  simp
theorem found_0 (L : List (Nat × InsV)) (S : List Nat) (g : Int) : foundB (L.take 0) S g = false := rfl
theorem found_all (L : List (Nat × InsV)) (S : List Nat) (g : Int) : foundB (L.take L.length) S g = foundB L S g := by rw [List.take_length]
/-- the first k jumps may be -/
def MayI (L : List (Nat × InsV)) (k : Nat) : Prop := ∀ j, j < k → jmpB (L.getD j dfl).2 = true → foundB L (secP L) (goalV (L.getD j dfl)) = true
theorem mayI_0 (L : List (Nat × InsV)) : MayI L 0 := fun j h => by omega
theorem mayI_yes {L : List (Nat × InsV)} {k : Nat} (h : MayI L k) (hf : foundB L (secP L) (goalV (L.getD k dfl)) = true) : MayI L (k + 1) := fun j hj hu => by
  rcases Nat.lt_or_ge j k with hlt | hge
  · exact h j hlt hu
  · obtain rfl : j = k := by omega
    exact hf
theorem mayI_no {L : List (Nat × InsV)} {k : Nat} (h : MayI L k) (hf : jmpB (L.getD k dfl).2 = false) : MayI L (k + 1) := fun j hj hu => by
  rcases Nat.lt_or_ge j k with hlt | hge
  · exact h j hlt hu
  · obtain rfl : j = k := by omega
    rw [hf] at hu; cases hu
theorem may_iff (L : List (Nat × InsV)) : mayB L = true ↔ MayI L L.length := by
  unfold mayB MayI
  rw [List.all_eq_true]
  constructor
  · intro h j hj hu
    have := h (L.getD j dfl) (by rw [getD_el L dfl j hj]; exact List.getElem_mem hj)
    rw [hu] at this
    exact this
  · intro h p hp
    obtain ⟨j, hj, rfl⟩ := List.mem_iff_getElem.1 hp
    have := h j hj
    rw [getD_el L dfl j hj] at this
    cases hu : jmpB (L[j]).2
    · rfl
    · simpa using this hu
theorem may_bad {L : List (Nat × InsV)} {k : Nat} (hk : k < L.length) (hu : jmpB (L.getD k dfl).2 = true) (hf : foundB L (secP L) (goalV (L.getD k dfl)) = false) : mayB L = false := by
  cases h : mayB L
  · rfl
  · have := (may_iff L).1 h k hk hu
    rw [hf] at this; cases this
/-- goals that may be are where instructions begin -/
theorem may_goal {L : List (Nat × InsV)} (h : mayB L = true) : ∀ g ∈ goalL L, ∃ k, k < L.length ∧ ((L.getD k dfl).1 : Int) = g := by
  intro g hg
  unfold goalL at hg
  obtain ⟨p, hp, rfl⟩ := List.mem_map.1 hg
  obtain ⟨hp, hj⟩ := List.mem_filter.1 hp
  have h1 := List.all_eq_true.1 h p hp
  have h2 : foundB L (secP L) (goalV p) = true := by simpa [hj] using h1
  unfold foundB at h2
  obtain ⟨q, hq, hh⟩ := List.any_eq_true.1 h2
  unfold hitB at hh
  obtain ⟨k, hk, rfl⟩ := List.mem_iff_getElem.1 hq
  refine ⟨k, hk, ?_⟩
  rw [getD_el L dfl k hk]
  have : ((L[k]).1 : Int) = goalV p ∧ ¬ (L[k]).1 ∈ secP L := by simpa using hh
  exact this.1

theorem may_cases (code : List Int) : (ruleE code ≠ 0 ∧ mayE code = ruleE code ∧ goalsC code = []) ∨ (ruleE code = 0 ∧ mayB (scanL code) = false ∧ mayE code = 6 ∧ goalsC code = goalL (scanL code)) ∨
    (ruleE code = 0 ∧ mayB (scanL code) = true ∧ mayE code = 0 ∧ goalsC code = goalL (scanL code)) := by
  unfold mayE goalsC
  by_cases h : ruleE code = 0
  · cases hm : mayB (scanL code)
    · exact .inr (.inl ⟨h, rfl, by simp [h], by simp [h]⟩)
    · exact .inr (.inr ⟨h, rfl, by simp [h], by simp [h]⟩)
  · exact .inl ⟨h, by simp [h], by simp [h]⟩
theorem may_0 {code : List Int} (h : mayE code = 0) : ruleE code = 0 ∧ mayB (scanL code) = true ∧ goalsC code = goalL (scanL code) := by
  rcases may_cases code with ⟨h1, h2, _⟩ | ⟨_, _, h3, _⟩ | ⟨h1, h2, _, h4⟩
  · rw [h2] at h; exact absurd h h1
  · rw [h3] at h; cases h
  · exact ⟨h1, h2, h4⟩
theorem rule_scan {code : List Int} (h : ruleE code = 0) : scanE code = 0 ∧ secL code = secP (scanL code) ∧ ruleB (scanL code) = true := by
  rcases rule_cases code with ⟨h1, h2, _⟩ | ⟨_, _, h3, _⟩ | ⟨h1, h2, _, h4⟩
  · rw [h] at h2; exact absurd h2.symm h1
  · rw [h] at h3; cases h3
  · exact ⟨h1, h4, h2⟩

theorem size_bd (op : Int) : 0 ≤ Go.Proofs.Ytinehmagkdgiiaa.szO op ∧ Go.Proofs.Ytinehmagkdgiiaa.szO op ≤ 6 := by
  unfold Go.Proofs.Ytinehmagkdgiiaa.szO
  cases h : Go.Proofs.Ytinehmagkdgiiaa.fK op
  · simp
  · have := Go.Proofs.Ytinehmagkdgiiaa.szV_bd _ _ _ _ (Go.Proofs.Ytinehmagkdgiiaa.form_of op)
    simp
    omega
theorem sign_bd (n : Int) : -2147483648 ≤ wrap32 n ∧ wrap32 n ≤ 2147483647 := by unfold wrap32; omega
theorem goal_bd (p : Nat × InsV) (h : p.1 ≤ 100000) : -2147483648 ≤ goalV p ∧ goalV p ≤ 2147583653 := by
  have h1 := size_bd p.2.op
  have h2 := sign_bd p.2.imm
  unfold goalV
  omega

/-- s places further -/
def movP (s : Nat) (L : List (Nat × InsV)) : List (Nat × InsV) := L.map fun p => (s + p.1, p.2)
theorem goal_mov (s : Nat) (L : List (Nat × InsV)) : goalL (movP s L) = (goalL L).map fun g => g + (s : Int) := by
  induction L with
  | nil => rfl
  | cons p t ih =>
    unfold goalL movP at *
    rw [List.map_cons]
    cases h : jmpB p.2
    · rw [List.filter_cons_of_neg (by simp [h]), List.filter_cons_of_neg (by simp [h])]
      exact ih
    · rw [List.filter_cons_of_pos (by simp [h]), List.filter_cons_of_pos (by simp [h]), List.map_cons, List.map_cons, List.map_cons, ih]
      congr 1
      unfold goalV
      push_cast
      omega
theorem goal_app (A B : List (Nat × InsV)) : goalL (A ++ B) = goalL A ++ goalL B := by unfold goalL; rw [List.filter_append, List.map_append]
theorem sec_app (A B : List (Nat × InsV)) : secP (A ++ B) = secP A ++ secP B := by unfold secP; rw [List.filter_append, List.map_append]
theorem sec_mov (s : Nat) (L : List (Nat × InsV)) : secP (movP s L) = (secP L).map fun q => s + q := by
  induction L with
  | nil => rfl
  | cons p t ih =>
    unfold secP movP at *
    rw [List.map_cons]
    cases h : useB p.2
    · rw [List.filter_cons_of_neg (by simp [h]), List.filter_cons_of_neg (by simp [h])]
      exact ih
    · rw [List.filter_cons_of_pos (by simp [h]), List.filter_cons_of_pos (by simp [h]), List.map_cons, List.map_cons, List.map_cons, ih]
theorem mov_with : ∀ (b : List InsV) (s i : Nat), withPos (s + i) b = movP s (withPos i b) := by
  intro b
  induction b with
  | nil => intro s i; rfl
  | cons x t ih =>
    intro s i
    show (s + i, x) :: withPos (s + i + x.lay.length) t = (s + i, x) :: movP s (withPos (i + x.lay.length) t)
    rw [← ih, Nat.add_assoc]
/-- goals of two parts -/
theorem may_app {A B : List (Nat × InsV)} {s : Nat} (hA : ∀ p ∈ A, p.1 < s) (h1 : mayB A = true) (h2 : mayB B = true) : mayB (A ++ movP s B) = true := by
  unfold mayB at *
  rw [List.all_eq_true] at *
  intro p hp
  rcases List.mem_append.1 hp with hp | hp
  · have h := h1 p hp
    cases hu : jmpB p.2
    · simp
    · have hf : foundB A (secP A) (goalV p) = true := by simpa [hu] using h
      unfold foundB at hf
      obtain ⟨q, hq, hh⟩ := List.any_eq_true.1 hf
      have hq1 : ((q.1 : Int)) = goalV p ∧ ¬ q.1 ∈ secP A := by simpa [hitB] using hh
      have : foundB (A ++ movP s B) (secP (A ++ movP s B)) (goalV p) = true := by
        unfold foundB
        refine List.any_eq_true.2 ⟨q, List.mem_append_left _ hq, ?_⟩
        unfold hitB
        have hn : ¬ q.1 ∈ secP (A ++ movP s B) := by
          rw [sec_app, sec_mov, List.mem_append]
          rintro (h | h)
          · exact hq1.2 h
          · obtain ⟨z, _, hz⟩ := List.mem_map.1 h
            have := hA q hq
            omega
        simp [hq1.1, hn]
      simp [this]
  · obtain ⟨r, hr, rfl⟩ := List.mem_map.1 hp
    have h := h2 r hr
    cases hu : jmpB r.2
    · simp
    · have hf : foundB B (secP B) (goalV r) = true := by simpa [hu] using h
      unfold foundB at hf
      obtain ⟨q, hq, hh⟩ := List.any_eq_true.1 hf
      have hq1 : ((q.1 : Int)) = goalV r ∧ ¬ q.1 ∈ secP B := by simpa [hitB] using hh
      have : foundB (A ++ movP s B) (secP (A ++ movP s B)) (goalV (s + r.1, r.2)) = true := by
        unfold foundB
        refine List.any_eq_true.2 ⟨(s + q.1, q.2), List.mem_append_right _ (List.mem_map.2 ⟨q, hq, rfl⟩), ?_⟩
        unfold hitB
        have hn : ¬ s + q.1 ∈ secP (A ++ movP s B) := by
          rw [sec_app, sec_mov, List.mem_append]
          rintro (h | h)
          · obtain ⟨z, hz, hz1⟩ := List.mem_map.1 h
            have := hA z (List.mem_filter.1 hz).1
            omega
          · obtain ⟨z, hz, hz1⟩ := List.mem_map.1 h
            exact hq1.2 (by rw [show q.1 = z by omega]; exact hz)
        have hg : ((s + q.1 : Nat) : Int) = goalV (s + r.1, r.2) := by
          have := hq1.1
          unfold goalV at *
          push_cast
          omega
        simp [hn, hg]
      simp [this]
/-- what is scanned of two parts that both keep the rules -/
theorem parts_list {a b : List Int} (ha : Go.Proofs.Ytinehmagkdgiiaa.Bytes a) (hb : Go.Proofs.Ytinehmagkdgiiaa.Bytes b) (h3 : a.length % 32 = 0) (s1 : sizeB a.length = true) (s2 : sizeB b.length = true) (s3 : sizeB (a ++ b).length = true) (h1 : scanE a = 0) (h2 : scanE b = 0) :
    scanE (a ++ b) = 0 ∧ scanL (a ++ b) = scanL a ++ movP a.length (scanL b) := by
  have hs1 : ∃ L, scanAt a 0 = some L := by
    rcases scan_cases a with ⟨_, e, _⟩ | ⟨_, _, e, _⟩ | ⟨_, L, hs, _, _⟩
    · rw [e] at h1; cases h1
    · rw [e] at h1; cases h1
    · exact ⟨L, hs⟩
  have hs2 : ∃ L, scanAt b 0 = some L := by
    rcases scan_cases b with ⟨_, e, _⟩ | ⟨_, _, e, _⟩ | ⟨_, L, hs, _, _⟩
    · rw [e] at h2; cases h2
    · rw [e] at h2; cases h2
    · exact ⟨L, hs⟩
  obtain ⟨L, hL⟩ := hs1
  obtain ⟨M, hM⟩ := hs2
  obtain ⟨K, hK, hm⟩ := parts_yes ha hb h3 hL hM
  obtain ⟨e1, e2⟩ := scanE_0 s3 hK
  have hab : Go.Proofs.Ytinehmagkdgiiaa.Bytes (a ++ b) := fun x hx => (List.mem_append.1 hx).elim (ha x) (hb x)
  obtain ⟨f1, _, f3⟩ := scan_with ha h1
  obtain ⟨g1, _, _⟩ := scan_with hb h2
  obtain ⟨k1, _, _⟩ := scan_with hab e1
  have hi : insI (scanL (a ++ b)) = insI (scanL a) ++ insI (scanL b) := by
    rw [e2, (scanE_0 s1 hL).2, (scanE_0 s2 hM).2]; exact hm
  refine ⟨e1, ?_⟩
  rw [k1, hi, withPos_app, ← f1, ← f3, Nat.zero_add]
  have := mov_with (insI (scanL b)) a.length 0
  rw [Nat.add_zero] at this
  rw [this, ← g1]
theorem parts_may {a b : List Int} (ha : Go.Proofs.Ytinehmagkdgiiaa.Bytes a) (hb : Go.Proofs.Ytinehmagkdgiiaa.Bytes b) (h3 : a.length % 32 = 0) (s1 : sizeB a.length = true) (s2 : sizeB b.length = true) (s3 : sizeB (a ++ b).length = true) (h1 : mayE a = 0) (h2 : mayE b = 0) :
    ruleE (a ++ b) = 0 ∧ mayE (a ++ b) = 0 ∧ goalsC (a ++ b) = goalsC a ++ (goalsC b).map fun g => g + (a.length : Int) := by
  obtain ⟨r1, m1, g1⟩ := may_0 h1
  obtain ⟨r2, m2, g2⟩ := may_0 h2
  obtain ⟨e1, _, _⟩ := rule_scan r1
  obtain ⟨e2, _, _⟩ := rule_scan r2
  obtain ⟨_, hl⟩ := parts_list ha hb h3 s1 s2 s3 e1 e2
  have r3 : ruleE (a ++ b) = 0 := by
    rcases parts_rule ha hb h3 s1 s2 s3 with ⟨_, h | h⟩ | ⟨_, _, h, _⟩
    · exact absurd r1 h
    · exact absurd r2 h
    · exact h
  have hm : mayB (scanL (a ++ b)) = true := by
    rw [hl]
    exact may_app (fun p hp => scan_below ha e1 p hp) m1 m2
  refine ⟨r3, ?_, ?_⟩
  · rcases may_cases (a ++ b) with ⟨h, _⟩ | ⟨_, h, _⟩ | ⟨_, _, h, _⟩
    · exact absurd r3 h
    · rw [hm] at h; cases h
    · exact h
  · rw [g1, g2]
    unfold goalsC
    rw [if_pos r3, hl, goal_app, goal_mov]

/-- is a number among the first k? -/
def anyE (A : List Int) (k : Nat) (g : Int) : Bool := (A.take k).any fun a => a == g
theorem anyE_0 (A : List Int) (g : Int) : anyE A 0 g = false := rfl
theorem anyE_step {A : List Int} {k : Nat} (g : Int) (hk : k < A.length) : anyE A (k + 1) g = (anyE A k g || (A.getD k 0 == g)) := by
  unfold anyE
  rw [take_1 A 0 k hk, List.any_append]
  generalize A.getD k 0 = a
  simp
theorem anyE_all {A : List Int} {g : Int} (h : g ∈ A) : anyE A A.length g = true := by
  unfold anyE
  rw [List.take_length]
  exact List.any_eq_true.2 ⟨g, h, by simp⟩
theorem may_pos {L : List (Nat × InsV)} (h : mayB L = true) {i : Nat} (hi : i < (goalL L).length) : anyE (posI L) L.length ((goalL L).getD i 0) = true := by
  obtain ⟨k, hk, he⟩ := may_goal h ((goalL L).getD i 0) (by rw [getD_el _ 0 i hi]; exact List.getElem_mem hi)
  have := anyE_all (A := posI L) (g := (goalL L).getD i 0) (by
    rw [← he]
    refine List.mem_map.2 ⟨L.getD k dfl, ?_, rfl⟩
    rw [getD_el L dfl k hk]; exact List.getElem_mem hk)
  rwa [posI_len] at this
/-- goals of two parts, one by one -/
theorem left_at {X Y : List Int} {s : Int} {i : Nat} (hi : i < X.length) : (X ++ Y.map fun g => g + s).getD i 0 = X.getD i 0 := getD_left X _ 0 i hi
theorem right_at {X Y : List Int} {s : Int} {i : Nat} (h : X.length ≤ i) (hi : i < X.length + Y.length) : (X ++ Y.map fun g => g + s).getD i 0 = Y.getD (i - X.length) 0 + s := by
  obtain ⟨j, rfl⟩ : ∃ j, i = X.length + j := ⟨i - X.length, by omega⟩
  rw [getD_right, Nat.add_sub_cancel_left]
  have hj : j < Y.length := by omega
  simp [List.getD, hj]
theorem goal_at {L : List (Nat × InsV)} (h : ∀ p ∈ L, p.1 ≤ 100000) {i : Nat} (hi : i < (goalL L).length) : -2147483648 ≤ (goalL L).getD i 0 ∧ (goalL L).getD i 0 ≤ 2147583653 := by
  rw [getD_el _ 0 i hi]
  obtain ⟨p, hp, he⟩ := List.mem_map.1 (List.getElem_mem hi)
  rw [← he]
  exact goal_bd p (h p (List.mem_filter.1 hp).1)
theorem size_jmp : Go.Proofs.Ytinehmagkdgiiaa.szO 19 = 5 ∧ Go.Proofs.Ytinehmagkdgiiaa.szO 20 = 6 := by decide
end Go.Proofs.Ytinehmagkdgiiaa.Mm
