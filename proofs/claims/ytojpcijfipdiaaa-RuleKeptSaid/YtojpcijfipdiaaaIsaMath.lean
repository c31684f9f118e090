/- Instructions as bytes: their forms, their bytes, what is read of bytes, as plain functions of integers and lists; what is laid is read as it was, and nothing else. -/
import Derived.RowKit
namespace Go.Proofs.Ytojpcijfipdiaaa

/-- whether there is such an operation -/
def fK (op : Int) : Bool := decide (0 ≤ op ∧ op ≤ 23)
def fA (op : Int) : Int := if (1 ≤ op ∧ op ≤ 18) ∨ op = 20 ∨ op = 21 then 7 else 0
def fB (op : Int) : Int := if 2 ≤ op ∧ op ≤ 16 then 7 else 0
def fU (op : Int) : Int := if op = 1 ∨ op = 20 then 1 else if (2 ≤ op ∧ op ≤ 18) ∨ op = 21 then 16 else 0
def fN (op : Int) : Int := if op = 1 ∨ op = 19 ∨ op = 20 then 4 else if op = 22 then 1 else 0
def szV (u n : Int) : Int := if 0 < u then 2 + n else 1 + n
def szO (op : Int) : Int := if fK op then szV (fU op) (fN op) else 0
def fitsB (fa fb fn a b imm : Int) : Bool := decide (0 ≤ a ∧ a ≤ fa ∧ 0 ≤ b ∧ b ≤ fb ∧ imm < 256 ^ fn.toNat)
def rightB (op a b imm : Int) : Bool := fK op && fitsB (fA op) (fB op) (fN op) a b imm
/-- a number's n lowest bytes -/
def numL (imm : Int) : Nat → List Int
  | 0 => []
  | n + 1 => numL imm n ++ [imm / 256 ^ n % 256]
/-- the number of bytes -/
def numV : List Int → Int
  | [] => 0
  | x :: t => x + 256 * numV t
def layF (op fu fn a b imm : Int) : List Int := op :: ((if 0 < fu then [a * fu + b] else []) ++ numL imm fn.toNat)
def layL (op a b imm : Int) : List Int := if rightB op a b imm then layF op (fU op) (fN op) a b imm else []
def xA (fu : Int) (t : List Int) : Int := if 0 < fu then t.headD 0 / fu else 0
def xB (fu : Int) (t : List Int) : Int := if 0 < fu then t.headD 0 % fu else 0
def xI (fu fn : Int) (t : List Int) : Int := numV ((if 0 < fu then t.drop 1 else t).take fn.toNat)
/-- whether an instruction begins there -/
def rdB : List Int → Bool
  | [] => false
  | op :: t => fK op && (decide (szO op ≤ t.length + 1) && fitsB (fA op) (fB op) (fN op) (xA (fU op) t) (xB (fU op) t) (xI (fU op) (fN op) t))

/-- the six forms -/
def Form (fa fb fu fn : Int) : Prop :=
  (fa = 0 ∧ fb = 0 ∧ fu = 0 ∧ fn = 0) ∨ (fa = 7 ∧ fb = 7 ∧ fu = 16 ∧ fn = 0) ∨ (fa = 7 ∧ fb = 0 ∧ fu = 16 ∧ fn = 0) ∨ (fa = 0 ∧ fb = 0 ∧ fu = 0 ∧ fn = 4) ∨ (fa = 7 ∧ fb = 0 ∧ fu = 1 ∧ fn = 4) ∨ (fa = 0 ∧ fb = 0 ∧ fu = 0 ∧ fn = 1)

theorem form_of (op : Int) : Form (fA op) (fB op) (fU op) (fN op) := by
  unfold Form fA fB fU fN
  by_cases h1 : op = 1
  · subst h1; decide
  by_cases h2 : op = 19
  · subst h2; decide
  by_cases h3 : op = 20
  · subst h3; decide
  by_cases h4 : op = 22
  · subst h4; decide
  by_cases h5 : op = 21
  · subst h5; decide
  by_cases h6 : 2 ≤ op ∧ op ≤ 16
  · rw [if_pos (by omega), if_pos (by omega), if_neg (by omega), if_pos (by omega), if_neg (by omega), if_neg (by omega)]; decide
  by_cases h7 : op = 17 ∨ op = 18
  · rw [if_pos (by omega), if_neg (by omega), if_neg (by omega), if_pos (by omega), if_neg (by omega), if_neg (by omega)]; decide
  · rw [if_neg (by omega), if_neg (by omega), if_neg (by omega), if_neg (by omega), if_neg (by omega), if_neg (by omega)]; decide

theorem numL_len (imm : Int) (n : Nat) : (numL imm n).length = n := by
  induction n with
  | zero => rfl
  | succ n ih => simp [numL, ih]
theorem numL_one (imm : Int) : numL imm 1 = [imm % 256] := by simp [numL]
theorem numL_four (imm : Int) : numL imm 4 = [imm % 256, imm / 256 % 256, imm / 65536 % 256, imm / 16777216 % 256] := by simp [numL]
theorem numL_byte (imm : Int) (n : Nat) : ∀ x ∈ numL imm n, 0 ≤ x ∧ x ≤ 255 := by
  induction n with
  | zero => simp [numL]
  | succ n ih =>
    intro x hx
    rcases List.mem_append.1 hx with h | h
    · exact ih x h
    · simp at h; subst h; omega

/-- bytes -/
def Bytes (l : List Int) : Prop := ∀ x ∈ l, 0 ≤ x ∧ x ≤ 255

theorem layF_len (op fu fn a b imm : Int) (h0 : 0 ≤ fn) : ((layF op fu fn a b imm).length : Int) = szV fu fn := by
  unfold layF szV
  by_cases h : 0 < fu <;> simp [h, numL_len] <;> omega

theorem fitsB_iff (fa fb fn a b imm : Int) : fitsB fa fb fn a b imm = true ↔ 0 ≤ a ∧ a ≤ fa ∧ 0 ≤ b ∧ b ≤ fb ∧ imm < 256 ^ fn.toNat := by
  unfold fitsB; rw [decide_eq_true_iff]

theorem layF_byte (op fa fb fu fn a b imm : Int) (F : Form fa fb fu fn) (h0 : 0 ≤ op) (h1 : op ≤ 23) (hf : fitsB fa fb fn a b imm = true) : Bytes (layF op fu fn a b imm) := by
  rw [fitsB_iff] at hf
  intro x hx
  unfold layF at hx
  rcases List.mem_cons.1 hx with h | h
  · omega
  rcases List.mem_append.1 h with h | h
  · by_cases hu : 0 < fu
    · rw [if_pos hu] at h; simp at h
      rcases F with F | F | F | F | F | F <;> obtain ⟨rfl, rfl, rfl, rfl⟩ := F <;> omega
    · rw [if_neg hu] at h; simp at h
  · exact numL_byte _ _ x h

/-- what is laid is read as it was -/
theorem lay_read (op fa fb fu fn a b imm : Int) (F : Form fa fb fu fn) (hf : fitsB fa fb fn a b imm = true) (hi : 0 ≤ imm) (post : List Int) :
    ∃ t, layF op fu fn a b imm ++ post = op :: t ∧ xA fu t = a ∧ xB fu t = b ∧ xI fu fn t = imm ∧ szV fu fn ≤ (t.length : Int) + 1 := by
  rw [fitsB_iff] at hf
  obtain ⟨a0, a1, b0, b1, hm⟩ := hf
  refine ⟨_, rfl, ?_⟩
  rcases F with F | F | F | F | F | F <;> obtain ⟨rfl, rfl, rfl, rfl⟩ := F
  · simp [xA, xB, xI, numL, numV, szV] at *; omega
  · simp [xA, xB, xI, numL, numV, szV] at *; omega
  · simp [xA, xB, xI, numL, numV, szV] at *; omega
  · have e : (4 : Int).toNat = 4 := rfl
    rw [e] at hm ⊢
    simp [xA, xB, xI, numV, szV, e, numL_four] at *; omega
  · have e : (4 : Int).toNat = 4 := rfl
    rw [e] at hm ⊢
    simp [xA, xB, xI, numV, szV, e, numL_four] at *; omega
  · have e : (1 : Int).toNat = 1 := rfl
    rw [e] at hm ⊢
    simp [xA, xB, xI, numV, szV, e, numL_one] at *; omega

/-- what is read is laid as it stands there -/
theorem read_lay (op fa fb fu fn : Int) (t : List Int) (F : Form fa fb fu fn) (ht : Bytes t) (hs : szV fu fn ≤ (t.length : Int) + 1) :
    (op :: t).take (szV fu fn).toNat = layF op fu fn (xA fu t) (xB fu t) (xI fu fn t) ∧ 0 ≤ xI fu fn t ∧ xI fu fn t < 4294967296 := by
  rcases F with F | F | F | F | F | F <;> obtain ⟨rfl, rfl, rfl, rfl⟩ := F
  · simp [xI, numL, numV, szV, layF] at *
  · match t, hs with
    | [], hs => simp [szV] at hs
    | x :: t, hs => simp [xA, xB, xI, numL, numV, szV, layF] at *; omega
  · match t, hs with
    | [], hs => simp [szV] at hs
    | x :: t, hs => simp [xA, xB, xI, numL, numV, szV, layF] at *; omega
  · match t, hs with
    | [], hs => simp [szV] at hs
    | [_], hs => simp [szV] at hs
    | [_, _], hs => simp [szV] at hs
    | [_, _, _], hs => simp [szV] at hs
    | x :: y :: z :: u :: t, hs =>
      have hx := ht x (by simp)
      have hy := ht y (by simp)
      have hz := ht z (by simp)
      have hu := ht u (by simp)
      have e : (4 : Int).toNat = 4 := rfl
      simp [xI, numV, szV, layF, e, numL_four]; omega
  · match t, hs with
    | [], hs => simp [szV] at hs
    | [_], hs => simp [szV] at hs
    | [_, _], hs => simp [szV] at hs
    | [_, _, _], hs => simp [szV] at hs
    | [_, _, _, _], hs => simp [szV] at hs
    | v :: x :: y :: z :: u :: t, hs =>
      have hx := ht x (by simp)
      have hy := ht y (by simp)
      have hz := ht z (by simp)
      have hu := ht u (by simp)
      have e : (4 : Int).toNat = 4 := rfl
      simp [xA, xB, xI, numV, szV, layF, e, numL_four]; omega
  · match t, hs with
    | [], hs => simp [szV] at hs
    | x :: t, hs =>
      have hx := ht x (by simp)
      have e : (1 : Int).toNat = 1 := rfl
      simp [xI, numV, szV, layF, e, numL_one]; omega

theorem rightB_iff (op a b imm : Int) : rightB op a b imm = true ↔ (0 ≤ op ∧ op ≤ 23) ∧ fitsB (fA op) (fB op) (fN op) a b imm = true := by
  unfold rightB fK; rw [Bool.and_eq_true, decide_eq_true_iff]
theorem szO_ok {op : Int} (h : 0 ≤ op ∧ op ≤ 23) : szO op = szV (fU op) (fN op) := by unfold szO fK; rw [decide_eq_true h]; rfl
theorem szO_no {op : Int} (h : ¬ (0 ≤ op ∧ op ≤ 23)) : szO op = 0 := by unfold szO fK; rw [decide_eq_false h]; rfl
theorem szV_bd (fa fb fu fn : Int) (F : Form fa fb fu fn) : 1 ≤ szV fu fn ∧ szV fu fn ≤ 6 ∧ 0 ≤ fn ∧ fn ≤ 4 := by
  unfold szV
  rcases F with F | F | F | F | F | F <;> obtain ⟨rfl, rfl, rfl, rfl⟩ := F <;> decide
theorem layL_ok {op a b imm : Int} (h : rightB op a b imm = true) : layL op a b imm = layF op (fU op) (fN op) a b imm := by unfold layL; rw [h]; rfl
theorem layL_no {op a b imm : Int} (h : rightB op a b imm = false) : layL op a b imm = [] := by unfold layL; rw [h]; rfl
theorem layL_len {op a b imm : Int} (h : rightB op a b imm = true) : ((layL op a b imm).length : Int) = szO op := by
  rw [layL_ok h, layF_len _ _ _ _ _ _ (szV_bd _ _ _ _ (form_of op)).2.2.1, szO_ok ((rightB_iff _ _ _ _).1 h).1]
theorem szO_bd (op : Int) : 0 ≤ szO op ∧ szO op ≤ 6 := by
  by_cases h : 0 ≤ op ∧ op ≤ 23
  · rw [szO_ok h]; have := szV_bd _ _ _ _ (form_of op); omega
  · rw [szO_no h]; omega
theorem szO_pos {op : Int} (h : 0 ≤ op ∧ op ≤ 23) : 1 ≤ szO op := by rw [szO_ok h]; exact (szV_bd _ _ _ _ (form_of op)).1
theorem layL_byte (op a b imm : Int) : Bytes (layL op a b imm) := by
  cases h : rightB op a b imm
  · rw [layL_no h]; intro x hx; simp at hx
  · rw [layL_ok h]
    obtain ⟨h1, h2⟩ := (rightB_iff _ _ _ _).1 h
    exact layF_byte _ _ _ _ _ _ _ _ (form_of op) h1.1 h1.2 h2

/-- an instruction that begins in bytes, and how many it has -/
def Rd (l : List Int) (op a b imm n : Int) : Prop :=
  rdB l = true ∧ ∃ t, l = op :: t ∧ a = xA (fU op) t ∧ b = xB (fU op) t ∧ imm = xI (fU op) (fN op) t ∧ n = szO op

theorem rd_of_lay (op a b imm : Int) (h : rightB op a b imm = true) (hi : 0 ≤ imm) (post : List Int) : Rd (layL op a b imm ++ post) op a b imm (szO op) := by
  obtain ⟨h1, h2⟩ := (rightB_iff _ _ _ _).1 h
  obtain ⟨t, ht, ea, eb, ei, hs⟩ := lay_read op _ _ _ _ a b imm (form_of op) h2 hi post
  rw [layL_ok h, ht]
  refine ⟨?_, t, rfl, ea.symm, eb.symm, ei.symm, rfl⟩
  show (fK op && (decide (szO op ≤ t.length + 1) && fitsB (fA op) (fB op) (fN op) (xA (fU op) t) (xB (fU op) t) (xI (fU op) (fN op) t))) = true
  rw [ea, eb, ei, h2, szO_ok h1]
  unfold fK
  simp [h1, hs]

theorem lay_of_rd (l : List Int) (op a b imm n : Int) (hl : Bytes l) (h : Rd l op a b imm n) :
    rightB op a b imm = true ∧ 0 ≤ imm ∧ imm < 4294967296 ∧ n = szO op ∧ 1 ≤ n ∧ n ≤ l.length ∧ l.take n.toNat = layL op a b imm := by
  obtain ⟨hr, t, rfl, rfl, rfl, rfl, rfl⟩ := h
  change (fK op && (decide (szO op ≤ t.length + 1) && fitsB (fA op) (fB op) (fN op) (xA (fU op) t) (xB (fU op) t) (xI (fU op) (fN op) t))) = true at hr
  rw [Bool.and_eq_true, Bool.and_eq_true, decide_eq_true_iff] at hr
  obtain ⟨hk, hs, hf⟩ := hr
  have hk' : 0 ≤ op ∧ op ≤ 23 := by unfold fK at hk; exact of_decide_eq_true hk
  have hR : rightB op (xA (fU op) t) (xB (fU op) t) (xI (fU op) (fN op) t) = true := (rightB_iff _ _ _ _).2 ⟨hk', hf⟩
  obtain ⟨e, i0, i1⟩ := read_lay op _ _ _ _ t (form_of op) (fun x hx => hl x (by simp [hx])) (by rw [← szO_ok hk']; exact hs)
  refine ⟨hR, i0, i1, rfl, szO_pos hk', by simp; omega, ?_⟩
  rw [layL_ok hR, ← e, szO_ok hk']

theorem rd_iff (l : List Int) (op a b imm n : Int) (hl : Bytes l) : Rd l op a b imm n ↔ (rightB op a b imm = true ∧ 0 ≤ imm ∧ n = szO op ∧ ∃ post, l = layL op a b imm ++ post) := by
  constructor
  · intro h
    obtain ⟨h1, h2, _, h3, _, _, h5⟩ := lay_of_rd l op a b imm n hl h
    exact ⟨h1, h2, h3, l.drop n.toNat, by rw [← h5, List.take_append_drop]⟩
  · rintro ⟨h1, h2, rfl, post, rfl⟩
    exact rd_of_lay op a b imm h1 h2 post

theorem rd_fun {l : List Int} {op a b imm n op' a' b' imm' n' : Int} (h : Rd l op a b imm n) (h' : Rd l op' a' b' imm' n') : op = op' ∧ a = a' ∧ b = b' ∧ imm = imm' ∧ n = n' := by
  obtain ⟨_, t, rfl, rfl, rfl, rfl, rfl⟩ := h
  obtain ⟨_, t', e, rfl, rfl, rfl, rfl⟩ := h'
  injection e with e1 e2
  subst e1; subst e2
  exact ⟨rfl, rfl, rfl, rfl, rfl⟩

theorem rd_more {l : List Int} {op a b imm n : Int} (hl : Bytes l) (h : Rd l op a b imm n) (post : List Int) : Rd (l ++ post) op a b imm n := by
  obtain ⟨h1, h2, h3, p, rfl⟩ := (rd_iff l op a b imm n hl).1 h
  subst h3
  rw [List.append_assoc]
  exact rd_of_lay op a b imm h1 h2 _

/-- of bytes something is read, or nothing -/
theorem rd_or (l : List Int) : rdB l = false ∨ ∃ op a b imm n, Rd l op a b imm n := by
  cases h : rdB l
  · exact .inl rfl
  · right
    match l, h with
    | op :: t, h => exact ⟨op, _, _, _, _, h, t, rfl, rfl, rfl, rfl, rfl⟩
end Go.Proofs.Ytojpcijfipdiaaa
