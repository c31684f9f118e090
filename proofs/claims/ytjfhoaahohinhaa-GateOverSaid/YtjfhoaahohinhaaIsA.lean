/- Merged by wip/tools/regroup: IsaMath, IsaForms, IsaLay, IsaRead. -/
import Derived.RowKit
import Derived.Test.YtjfhoaahohinhaaRows
import Derived.WalkKit
import Derived.ProofKit
import Derived.OpenShut
import Derived.Below
import Derived.Carry
import Derived.ChangeMaps4
import Derived.Lib.Hide
import Derived.OwnWalk
import Derived.Maps.AppendAt
import Derived.Laws.OwnMore
import Derived.Laws.BytesArg
import Derived.RegionTactic
import Derived.Laws.BitsAllLaws
import Derived.ChangeAlike
import Derived.BigRegion
import Derived.StillTailTactics
import Derived.Deep.QuietTactic
import Derived.BigQuiet
namespace Go.Proofs.Ytjfhoaahohinhaa

/-- whether there is such an operation -/
def fK (op : Int) : Bool := decide (0 ≤ op ∧ op ≤ 23)
def fA (op : Int) : Int := if (1 ≤ op ∧ op ≤ 18) ∨ op = 20 ∨ op = 21 then 7 else 0
def fB (op : Int) : Int := if 2 ≤ op ∧ op ≤ 16 then 7 else 0
def fU (op : Int) : Int := if op = 1 ∨ op = 20 then 1 else if (2 ≤ op ∧ op ≤ 18) ∨ op = 21 then 16 else 0
def fN (op : Int) : Int := if op = 1 ∨ op = 19 ∨ op = 20 then 4 else if op = 22 then 1 else 0
def szV (u n : Int) : Int := if 0 < u then 2 + n else 1 + n
def szO (op : Int) : Int := if fK op then szV (fU op) (fN op) else 0
def fitsB (fa fb fn a b imm : Int) : Bool := decide (0 ≤ a ∧ a ≤ fa ∧ 0 ≤ b ∧ b ≤ fb ∧ imm < 256 ^ fn.toNat)
def rightB (op a b imm : Int) : Bool := fK op && fitsB (fA op) (fB op) (fN op) a b imm
/-- a number's n lowest bytes -/
def numL (imm : Int) : Nat → List Int
  | 0 => []
  | n + 1 => numL imm n ++ [imm / 256 ^ n % 256]
/-- the number of bytes -/
def numV : List Int → Int
  | [] => 0
  | x :: t => x + 256 * numV t
def layF (op fu fn a b imm : Int) : List Int := op :: ((if 0 < fu then [a * fu + b] else []) ++ numL imm fn.toNat)
def layL (op a b imm : Int) : List Int := if rightB op a b imm then layF op (fU op) (fN op) a b imm else []
def xA (fu : Int) (t : List Int) : Int := if 0 < fu then t.headD 0 / fu else 0
def xB (fu : Int) (t : List Int) : Int := if 0 < fu then t.headD 0 % fu else 0
def xI (fu fn : Int) (t : List Int) : Int := numV ((if 0 < fu then t.drop 1 else t).take fn.toNat)
/-- whether an instruction begins there -/
def rdB : List Int → Bool
  | [] => false
  | op :: t => fK op && (decide (szO op ≤ t.length + 1) && fitsB (fA op) (fB op) (fN op) (xA (fU op) t) (xB (fU op) t) (xI (fU op) (fN op) t))

/-- the six forms -/
def Form (fa fb fu fn : Int) : Prop :=
  (fa = 0 ∧ fb = 0 ∧ fu = 0 ∧ fn = 0) ∨ (fa = 7 ∧ fb = 7 ∧ fu = 16 ∧ fn = 0) ∨ (fa = 7 ∧ fb = 0 ∧ fu = 16 ∧ fn = 0) ∨ (fa = 0 ∧ fb = 0 ∧ fu = 0 ∧ fn = 4) ∨ (fa = 7 ∧ fb = 0 ∧ fu = 1 ∧ fn = 4) ∨ (fa = 0 ∧ fb = 0 ∧ fu = 0 ∧ fn = 1)

theorem form_of (op : Int) : Form (fA op) (fB op) (fU op) (fN op) := by
  unfold Form fA fB fU fN
  by_cases h1 : op = 1
  · subst h1; decide
  by_cases h2 : op = 19
  · subst h2; decide
  by_cases h3 : op = 20
  · subst h3; decide
  by_cases h4 : op = 22
  · subst h4; decide
  by_cases h5 : op = 21
  · subst h5; decide
  by_cases h6 : 2 ≤ op ∧ op ≤ 16
  · rw [if_pos (by omega), if_pos (by omega), if_neg (by omega), if_pos (by omega), if_neg (by omega), if_neg (by omega)]; decide
  by_cases h7 : op = 17 ∨ op = 18
  · rw [if_pos (by omega), if_neg (by omega), if_neg (by omega), if_pos (by omega), if_neg (by omega), if_neg (by omega)]; decide
  · rw [if_neg (by omega), if_neg (by omega), if_neg (by omega), if_neg (by omega), if_neg (by omega), if_neg (by omega)]; decide

theorem numL_len (imm : Int) (n : Nat) : (numL imm n).length = n := by
  induction n with
  | zero => rfl
  | succ n ih => simp [numL, ih]
theorem numL_one (imm : Int) : numL imm 1 = [imm % 256] := by simp [numL]
theorem numL_four (imm : Int) : numL imm 4 = [imm % 256, imm / 256 % 256, imm / 65536 % 256, imm / 16777216 % 256] := by simp [numL]
theorem numL_byte (imm : Int) (n : Nat) : ∀ x ∈ numL imm n, 0 ≤ x ∧ x ≤ 255 := by
  induction n with
  | zero => simp [numL]
  | succ n ih =>
    intro x hx
    rcases List.mem_append.1 hx with h | h
    · exact ih x h
    · simp at h; subst h; omega

/-- bytes -/
def Bytes (l : List Int) : Prop := ∀ x ∈ l, 0 ≤ x ∧ x ≤ 255

theorem layF_len (op fu fn a b imm : Int) (h0 : 0 ≤ fn) : ((layF op fu fn a b imm).length : Int) = szV fu fn := by
  unfold layF szV
  by_cases h : 0 < fu <;> simp [h, numL_len] <;> omega

theorem fitsB_iff (fa fb fn a b imm : Int) : fitsB fa fb fn a b imm = true ↔ 0 ≤ a ∧ a ≤ fa ∧ 0 ≤ b ∧ b ≤ fb ∧ imm < 256 ^ fn.toNat := by
  unfold fitsB; rw [decide_eq_true_iff]

theorem layF_byte (op fa fb fu fn a b imm : Int) (F : Form fa fb fu fn) (h0 : 0 ≤ op) (h1 : op ≤ 23) (hf : fitsB fa fb fn a b imm = true) : Bytes (layF op fu fn a b imm) := by
  rw [fitsB_iff] at hf
  intro x hx
  unfold layF at hx
  rcases List.mem_cons.1 hx with h | h
  · omega
  rcases List.mem_append.1 h with h | h
  · by_cases hu : 0 < fu
    · rw [if_pos hu] at h; simp at h
      rcases F with F | F | F | F | F | F <;> obtain ⟨rfl, rfl, rfl, rfl⟩ := F <;> omega
    · rw [if_neg hu] at h; simp at h
  · exact numL_byte _ _ x h

/-- what is laid is read as it was -/
theorem lay_read (op fa fb fu fn a b imm : Int) (F : Form fa fb fu fn) (hf : fitsB fa fb fn a b imm = true) (hi : 0 ≤ imm) (post : List Int) :
    ∃ t, layF op fu fn a b imm ++ post = op :: t ∧ xA fu t = a ∧ xB fu t = b ∧ xI fu fn t = imm ∧ szV fu fn ≤ (t.length : Int) + 1 := by
  rw [fitsB_iff] at hf
  obtain ⟨a0, a1, b0, b1, hm⟩ := hf
  refine ⟨_, rfl, ?_⟩
  rcases F with F | F | F | F | F | F <;> obtain ⟨rfl, rfl, rfl, rfl⟩ := F
  · simp [xA, xB, xI, numL, numV, szV] at *; omega
  · simp [xA, xB, xI, numL, numV, szV] at *; omega
  · simp [xA, xB, xI, numL, numV, szV] at *; omega
  · have e : (4 : Int).toNat = 4 := rfl
    rw [e] at hm ⊢
    simp [xA, xB, xI, numV, szV, e, numL_four] at *; omega
  · have e : (4 : Int).toNat = 4 := rfl
    rw [e] at hm ⊢
    simp [xA, xB, xI, numV, szV, e, numL_four] at *; omega
  · have e : (1 : Int).toNat = 1 := rfl
    rw [e] at hm ⊢
    simp [xA, xB, xI, numV, szV, e, numL_one] at *; omega

/-- what is read is laid as it stands there -/
theorem read_lay (op fa fb fu fn : Int) (t : List Int) (F : Form fa fb fu fn) (ht : Bytes t) (hs : szV fu fn ≤ (t.length : Int) + 1) :
    (op :: t).take (szV fu fn).toNat = layF op fu fn (xA fu t) (xB fu t) (xI fu fn t) ∧ 0 ≤ xI fu fn t ∧ xI fu fn t < 4294967296 := by
  rcases F with F | F | F | F | F | F <;> obtain ⟨rfl, rfl, rfl, rfl⟩ := F
  · simp [xI, numL, numV, szV, layF] at *
  · match t, hs with
    | [], hs => simp [szV] at hs
    | x :: t, hs => simp [xA, xB, xI, numL, numV, szV, layF] at *; omega
  · match t, hs with
    | [], hs => simp [szV] at hs
    | x :: t, hs => simp [xA, xB, xI, numL, numV, szV, layF] at *; omega
  · match t, hs with
    | [], hs => simp [szV] at hs
    | [_], hs => simp [szV] at hs
    | [_, _], hs => simp [szV] at hs
    | [_, _, _], hs => simp [szV] at hs
    | x :: y :: z :: u :: t, hs =>
      have hx := ht x (by simp)
      have hy := ht y (by simp)
      have hz := ht z (by simp)
      have hu := ht u (by simp)
      have e : (4 : Int).toNat = 4 := rfl
      simp [xI, numV, szV, layF, e, numL_four]; omega
  · match t, hs with
    | [], hs => simp [szV] at hs
    | [_], hs => simp [szV] at hs
    | [_, _], hs => simp [szV] at hs
    | [_, _, _], hs => simp [szV] at hs
    | [_, _, _, _], hs => simp [szV] at hs
    | v :: x :: y :: z :: u :: t, hs =>
      have hx := ht x (by simp)
      have hy := ht y (by simp)
      have hz := ht z (by simp)
      have hu := ht u (by simp)
      have e : (4 : Int).toNat = 4 := rfl
      simp [xA, xB, xI, numV, szV, layF, e, numL_four]; omega
  · match t, hs with
    | [], hs => simp [szV] at hs
    | x :: t, hs =>
      have hx := ht x (by simp)
      have e : (1 : Int).toNat = 1 := rfl
      simp [xI, numV, szV, layF, e, numL_one]; omega

theorem rightB_iff (op a b imm : Int) : rightB op a b imm = true ↔ (0 ≤ op ∧ op ≤ 23) ∧ fitsB (fA op) (fB op) (fN op) a b imm = true := by
  unfold rightB fK; rw [Bool.and_eq_true, decide_eq_true_iff]
theorem szO_ok {op : Int} (h : 0 ≤ op ∧ op ≤ 23) : szO op = szV (fU op) (fN op) := by unfold szO fK; rw [decide_eq_true h]; rfl
theorem szO_no {op : Int} (h : ¬ (0 ≤ op ∧ op ≤ 23)) : szO op = 0 := by unfold szO fK; rw [decide_eq_false h]; rfl
theorem szV_bd (fa fb fu fn : Int) (F : Form fa fb fu fn) : 1 ≤ szV fu fn ∧ szV fu fn ≤ 6 ∧ 0 ≤ fn ∧ fn ≤ 4 := by
  unfold szV
  rcases F with F | F | F | F | F | F <;> obtain ⟨rfl, rfl, rfl, rfl⟩ := F <;> decide
theorem layL_ok {op a b imm : Int} (h : rightB op a b imm = true) : layL op a b imm = layF op (fU op) (fN op) a b imm := by unfold layL; rw [h]; rfl
theorem layL_no {op a b imm : Int} (h : rightB op a b imm = false) : layL op a b imm = [] := by unfold layL; rw [h]; rfl
theorem layL_len {op a b imm : Int} (h : rightB op a b imm = true) : ((layL op a b imm).length : Int) = szO op := by
  rw [layL_ok h, layF_len _ _ _ _ _ _ (szV_bd _ _ _ _ (form_of op)).2.2.1, szO_ok ((rightB_iff _ _ _ _).1 h).1]
theorem szO_bd (op : Int) : 0 ≤ szO op ∧ szO op ≤ 6 := by
  by_cases h : 0 ≤ op ∧ op ≤ 23
  · rw [szO_ok h]; have := szV_bd _ _ _ _ (form_of op); omega
  · rw [szO_no h]; omega
theorem szO_pos {op : Int} (h : 0 ≤ op ∧ op ≤ 23) : 1 ≤ szO op := by rw [szO_ok h]; exact (szV_bd _ _ _ _ (form_of op)).1
theorem layL_byte (op a b imm : Int) : Bytes (layL op a b imm) := by
  cases h : rightB op a b imm
  · rw [layL_no h]; intro x hx; simp at hx
  · rw [layL_ok h]
    obtain ⟨h1, h2⟩ := (rightB_iff _ _ _ _).1 h
    exact layF_byte _ _ _ _ _ _ _ _ (form_of op) h1.1 h1.2 h2

/-- an instruction that begins in bytes, and how many it has -/
def Rd (l : List Int) (op a b imm n : Int) : Prop :=
  rdB l = true ∧ ∃ t, l = op :: t ∧ a = xA (fU op) t ∧ b = xB (fU op) t ∧ imm = xI (fU op) (fN op) t ∧ n = szO op

theorem rd_of_lay (op a b imm : Int) (h : rightB op a b imm = true) (hi : 0 ≤ imm) (post : List Int) : Rd (layL op a b imm ++ post) op a b imm (szO op) := by
  obtain ⟨h1, h2⟩ := (rightB_iff _ _ _ _).1 h
  obtain ⟨t, ht, ea, eb, ei, hs⟩ := lay_read op _ _ _ _ a b imm (form_of op) h2 hi post
  rw [layL_ok h, ht]
  refine ⟨?_, t, rfl, ea.symm, eb.symm, ei.symm, rfl⟩
  show (fK op && (decide (szO op ≤ t.length + 1) && fitsB (fA op) (fB op) (fN op) (xA (fU op) t) (xB (fU op) t) (xI (fU op) (fN op) t))) = true
  rw [ea, eb, ei, h2, szO_ok h1]
  unfold fK
  simp [h1, hs]

theorem lay_of_rd (l : List Int) (op a b imm n : Int) (hl : Bytes l) (h : Rd l op a b imm n) :
    rightB op a b imm = true ∧ 0 ≤ imm ∧ imm < 4294967296 ∧ n = szO op ∧ 1 ≤ n ∧ n ≤ l.length ∧ l.take n.toNat = layL op a b imm := by
  obtain ⟨hr, t, rfl, rfl, rfl, rfl, rfl⟩ := h
  change (fK op && (decide (szO op ≤ t.length + 1) && fitsB (fA op) (fB op) (fN op) (xA (fU op) t) (xB (fU op) t) (xI (fU op) (fN op) t))) = true at hr
  rw [Bool.and_eq_true, Bool.and_eq_true, decide_eq_true_iff] at hr
  obtain ⟨hk, hs, hf⟩ := hr
  have hk' : 0 ≤ op ∧ op ≤ 23 := by unfold fK at hk; exact of_decide_eq_true hk
  have hR : rightB op (xA (fU op) t) (xB (fU op) t) (xI (fU op) (fN op) t) = true := (rightB_iff _ _ _ _).2 ⟨hk', hf⟩
  obtain ⟨e, i0, i1⟩ := read_lay op _ _ _ _ t (form_of op) (fun x hx => hl x (by simp [hx])) (by rw [← szO_ok hk']; exact hs)
  refine ⟨hR, i0, i1, rfl, szO_pos hk', by simp; omega, ?_⟩
  rw [layL_ok hR, ← e, szO_ok hk']

theorem rd_iff (l : List Int) (op a b imm n : Int) (hl : Bytes l) : Rd l op a b imm n ↔ (rightB op a b imm = true ∧ 0 ≤ imm ∧ n = szO op ∧ ∃ post, l = layL op a b imm ++ post) := by
  constructor
  · intro h
    obtain ⟨h1, h2, _, h3, _, _, h5⟩ := lay_of_rd l op a b imm n hl h
    exact ⟨h1, h2, h3, l.drop n.toNat, by rw [← h5, List.take_append_drop]⟩
  · rintro ⟨h1, h2, rfl, post, rfl⟩
    exact rd_of_lay op a b imm h1 h2 post

theorem rd_fun {l : List Int} {op a b imm n op' a' b' imm' n' : Int} (h : Rd l op a b imm n) (h' : Rd l op' a' b' imm' n') : op = op' ∧ a = a' ∧ b = b' ∧ imm = imm' ∧ n = n' := by
  obtain ⟨_, t, rfl, rfl, rfl, rfl, rfl⟩ := h
  obtain ⟨_, t', e, rfl, rfl, rfl, rfl⟩ := h'
  injection e with e1 e2
  subst e1; subst e2
  exact ⟨rfl, rfl, rfl, rfl, rfl⟩

theorem rd_more {l : List Int} {op a b imm n : Int} (hl : Bytes l) (h : Rd l op a b imm n) (post : List Int) : Rd (l ++ post) op a b imm n := by
  obtain ⟨h1, h2, h3, p, rfl⟩ := (rd_iff l op a b imm n hl).1 h
  subst h3
  rw [List.append_assoc]
  exact rd_of_lay op a b imm h1 h2 _

/-- of bytes something is read, or nothing -/
theorem rd_or (l : List Int) : rdB l = false ∨ ∃ op a b imm n, Rd l op a b imm n := by
  cases h : rdB l
  · exact .inl rfl
  · right
    match l, h with
    | op :: t, h => exact ⟨op, _, _, _, _, h, t, rfl, rfl, rfl, rfl, rfl⟩
end Go.Proofs.Ytjfhoaahohinhaa

namespace Go.Proofs.Ytjfhoaahohinhaa
open Go.ChangeShapes Go.WideShapes Go.ChangeAt Go.RowKit
set_option linter.unusedVariables false
set_option maxRecDepth 10000

theorem ret_int {k : IntKind} {a b : Int} (h : a = b) : Ending.returned (.int k a) = .returned (.int k b) := by rw [h]
theorem ret_bool {a b : Bool} (h : a = b) : Ending.returned (.bool a) = .returned (.bool b) := by rw [h]

theorem bel_al {w w' : World} (h : Below w.heap.size w w') (o : Obj) : Below w.heap.size w (w'.alloc o) := h.alloc h.size o
theorem bel_then {w a b : World} (h : Below w.heap.size w a) (k : Below a.heap.size a b) : Below w.heap.size w b := h.trans (k.mono h.size)

theorem bcell {W w1 : World} (hb : Below W.heap.size W w1) : (∀ b o, b < W.heap.size → w1.cell? ⟨b, o, none⟩ = W.cell? ⟨b, o, none⟩) ∧ (∀ b o, b < W.heap.size → w1.frozen? ⟨b, o, none⟩ = W.frozen? ⟨b, o, none⟩) :=
  ⟨fun b o h => hb.cell (p := ⟨b, o, none⟩) h, fun b o h => hb.frozen (p := ⟨b, o, none⟩) h⟩

/-- an operation's kind, 1 to 6; 0: none -/
def kd (op : Int) : Int :=
  if op = 0 ∨ op = 23 then 1 else if op = 17 ∨ op = 18 ∨ op = 21 then 3 else if op = 19 then 4 else if op = 1 ∨ op = 20 then 5 else if op = 22 then 6 else if 2 ≤ op ∧ op ≤ 16 then 2 else 0

/-- an entry of the map of forms -/
def ent (k a b u n : Int) (c : Nat) : MapEntry := { key := .int .i64 k, val := .agg #[.int .i64 a, .int .i64 b, .int .i64 u, .int .i64 n], born := c }
def formsM : Array MapEntry := #[ent 1 0 0 0 0 0, ent 2 7 7 16 0 1, ent 3 7 0 16 0 2, ent 4 0 0 0 4 3, ent 5 7 0 1 4 4, ent 6 0 0 0 1 5]

theorem set_alloc (w : World) (o o' : Obj) : { w.alloc o with heap := (w.alloc o).heap.setIfInBounds w.heap.size o' } = w.alloc o' := by
  have e : (w.alloc o).heap.setIfInBounds w.heap.size o' = (w.alloc o').heap := by
    show (w.heap.push o).setIfInBounds w.heap.size o' = w.heap.push o'
    apply Array.toList_inj.1
    simp
  rw [e]; rfl

/-- what the map holds for a kind -/
def kA (k : Int) : Int := if k = 2 ∨ k = 3 ∨ k = 5 then 7 else 0
def kB (k : Int) : Int := if k = 2 then 7 else 0
def kU (k : Int) : Int := if k = 2 ∨ k = 3 then 16 else if k = 5 then 1 else 0
def kN (k : Int) : Int := if k = 4 ∨ k = 5 then 4 else if k = 6 then 1 else 0
def kK (k : Int) : Bool := decide (1 ≤ k ∧ k ≤ 6)

theorem find_forms (k : Int) : Instr.findNow (.int .i64) (.int .i64 k) formsM.toList 0 = some (if 1 ≤ k ∧ k ≤ 6 then some ((k - 1).toNat, .agg #[.int .i64 (kA k), .int .i64 (kB k), .int .i64 (kU k), .int .i64 (kN k)]) else none) := by
  by_cases h : 1 ≤ k ∧ k ≤ 6
  · rw [if_pos h]
    obtain rfl | rfl | rfl | rfl | rfl | rfl : k = 1 ∨ k = 2 ∨ k = 3 ∨ k = 4 ∨ k = 5 ∨ k = 6 := by omega
    all_goals rfl
  · rw [if_neg h]
    have e1 : (k == 1) = false := by simp; omega
    have e2 : (k == 2) = false := by simp; omega
    have e3 : (k == 3) = false := by simp; omega
    have e4 : (k == 4) = false := by simp; omega
    have e5 : (k == 5) = false := by simp; omega
    have e6 : (k == 6) = false := by simp; omega
    simp [formsM, ent, Instr.findNow, Instr.sameNow, e1, e2, e3, e4, e5, e6]

theorem kd_form (op : Int) : kA (kd op) = fA op ∧ kB (kd op) = fB op ∧ kU (kd op) = fU op ∧ kN (kd op) = fN op ∧ kK (kd op) = fK op := by
  by_cases h : 0 ≤ op ∧ op ≤ 23
  · obtain ⟨n, rfl⟩ : ∃ n : Nat, op = n := ⟨op.toNat, by omega⟩
    have hn : n < 24 := by omega
    clear h
    revert n
    decide
  · have hd : kd op = 0 := by
      unfold kd
      rw [if_neg (by omega), if_neg (by omega), if_neg (by omega), if_neg (by omega), if_neg (by omega), if_neg (by omega)]
    have hk : fK op = false := decide_eq_false h
    rw [hd, hk]
    unfold fA fB fU fN
    rw [if_neg (by omega), if_neg (by omega), if_neg (by omega), if_neg (by omega), if_neg (by omega), if_neg (by omega)]
    decide

def fitsM (fa fb m a b imm : Int) : Bool := decide (0 ≤ a ∧ a ≤ fa ∧ 0 ≤ b ∧ b ≤ fb ∧ imm < m)

end Go.Proofs.Ytjfhoaahohinhaa

namespace Go.Proofs.Ytjfhoaahohinhaa
open Go.ChangeShapes Go.WideShapes Go.ChangeAt Go.RowKit
set_option linter.unusedVariables false
set_option maxRecDepth 10000

theorem u8_info : (Try.prog.info? 5).map (fun i => (i.zero, i.size, i.bytes)) = some (some (.int .u8 0), 1, 1) := by kernel_rfl

theorem kept1 {w w1 : World} {o : Obj} (hb : Below (w.alloc o).heap.size (w.alloc o) w1) (k : Nat) : w1.cell? ⟨w.heap.size, k, none⟩ = (w.alloc o).cell? ⟨w.heap.size, k, none⟩ :=
  hb.cell (p := ⟨w.heap.size, k, none⟩) (by simp)
theorem kept2 {w w1 w2 : World} {o o' : Obj} (hb : Below (w.alloc o).heap.size (w.alloc o) w1) (hb2 : Below (w1.alloc o').heap.size (w1.alloc o') w2) (k : Nat) : w2.cell? ⟨w.heap.size, k, none⟩ = (w.alloc o).cell? ⟨w.heap.size, k, none⟩ := by
  have hz : w.heap.size < w1.heap.size := by have := hb.size; simp at this; omega
  rw [hb2.cell (p := ⟨w.heap.size, k, none⟩) (by simp; omega), World.cell?_alloc_lt w1 o' ⟨w.heap.size, k, none⟩ hz, kept1 hb]

theorem one_new2 (w : World) (o : Obj) (x : Value) (t : TypeId) : ∀ j u, [x][j]? = some u → ((w.alloc o).alloc (.cells #[x] t)).cell? ((⟨w.heap.size + 1, 0, none⟩ : Addr).add j) = some u := by
  have h := cell_one_new (w.alloc o) x t
  simp only [show (w.alloc o).heap.size = w.heap.size + 1 by simp] at h
  exact h

/-- the bytes so far, where k bytes of the number are laid -/
def LayRel (w2 : World) (p : Nat) (imm : Int) (n : Nat) (pre : List Int) (v i : Value) (w' : World) : Prop :=
  ∃ k : Nat, k ≤ n ∧ i = .int .i64 k ∧ w'.ownsRow w2.heap.size 5 1 v (p + k) ((pre ++ numL imm k).map (Value.int .u8)) ∧ Below w2.heap.size w2 w'

theorem pow8 (k : Nat) : (2 : Int) ^ (8 * k) = 256 ^ k := by rw [Int.pow_mul]; rfl

theorem layRel_step {w2 wr w4 : World} {p : Nat} {imm : Int} {n k : Nat} {pre : List Int} {v v4 : Value} (hlt : k < n) (hb : Below w2.heap.size w2 wr) (ho : wr.ownsRow w2.heap.size 5 1 v (p + k) ((pre ++ numL imm k).map (Value.int .u8)))
    (hg : (wr.alloc (.cells #[.int .u8 (imm / 2 ^ (8 * k) % 256)] 5)).grownBy w4 v.ownBlock)
    (hown : w4.ownsRow w2.heap.size 5 1 v4 (p + k + 1) ((pre ++ numL imm k).map (Value.int .u8) ++ [.int .u8 (imm / 2 ^ (8 * k) % 256)])) :
    LayRel w2 p imm n pre v4 (.int .i64 ((k : Int) + 1)) w4 := by
  refine ⟨k + 1, hlt, by simp, ?_, (bel_al hb _).grown hg (Nat.le_trans hb.size (by simp)) (fun j hj => (ho.lt j hj).1)⟩
  rw [pow8] at hown
  simpa [numL, Nat.add_assoc] using hown

theorem own_conv {wr : World} {base n : Nat} {v : Value} {L : List Int} (h : wr.ownsRow base 5 1 v n (L.map (Value.int .u8))) (hn : 0 < n) :
    (convert 26 9 v).run Try.prog wr = .ok (.string (strOfNums L)) wr := by
  have hl : L.length = n := by have := h.1; simpa using this
  rcases h.2 with ⟨_, h0⟩ | ⟨g, cap, cur, rfl, _⟩
  · omega
  · refine run_convert_bytes_arg wr 26 5 Try.underlying26 Try.underlying5 g 0 n cap L hl (fun i hi => ?_) _ Try.underlying9
    have hi' : i < L.length := by omega
    have := h.cells (g := g) rfl i (.int .u8 (L.getD i 0)) (by simp [List.getElem?_eq_getElem hi', List.getD])
    have e : (⟨g, 0, none⟩ : Addr).add i = ⟨g, 0 + i, none⟩ := by unfold Addr.add; split <;> simp_all
    rw [e] at this
    exact this

end Go.Proofs.Ytjfhoaahohinhaa

namespace Go.Proofs.Ytjfhoaahohinhaa
open Go.ChangeShapes Go.WideShapes Go.ChangeAt Go.RowKit
set_option linter.unusedVariables false
set_option maxRecDepth 10000

/-- a slice of bytes that reads as a list -/
def RowAt (w : World) (A : Option Addr) (cap : Nat) (l : List Int) : Prop :=
  l.length ≤ cap ∧ cap ≤ maxLen ∧ Bytes l ∧ (l ≠ [] → ∃ x, A = some x ∧ x.block < w.heap.size ∧ ∀ i, i < l.length → w.cell? (x.add i) = some (.int .u8 (l.getD i 0)))

theorem block_add (a : Addr) (n : Nat) : (a.add n).block = a.block := by unfold Addr.add; split <;> rfl
theorem kept3 {w : World} {a : Addr} {v : Value} (h : w.cell? a = some v) (hb : a.block < w.heap.size) (o1 o2 o3 : Obj) : (((w.alloc o1).alloc o2).alloc o3).cell? a = some v := by
  rw [World.cell?_alloc_lt _ _ _ (by simp; omega), World.cell?_alloc_lt _ _ _ (by simp; omega), World.cell?_alloc_lt _ _ _ hb, h]
theorem row_byte {l : List Int} (h : Bytes l) (k : Nat) (hk : k < l.length) : 0 ≤ l.getD k 0 ∧ l.getD k 0 ≤ 255 := by
  have e : l.getD k 0 = l[k] := by simp [List.getD, List.getElem?_eq_getElem hk]
  rw [e]; exact h _ (List.getElem_mem hk)

theorem numV_bd (l : List Int) (h : Bytes l) : 0 ≤ numV l ∧ numV l < 256 ^ l.length := by
  induction l with
  | nil => decide
  | cons x t ih =>
    have h1 := h x (by simp)
    have h2 := ih (fun y hy => h y (by simp [hy]))
    show 0 ≤ x + 256 * numV t ∧ x + 256 * numV t < 256 ^ (t.length + 1)
    rw [Int.pow_succ]
    omega
theorem numV_snoc (l : List Int) (x : Int) : numV (l ++ [x]) = numV l + 256 ^ l.length * x := by
  induction l with
  | nil => simp [numV]
  | cons y t ih =>
    show y + 256 * numV (t ++ [x]) = y + 256 * numV t + 256 ^ (t.length + 1) * x
    rw [ih, Int.pow_succ, Int.mul_add, ← Int.mul_assoc, Int.mul_comm 256 (256 ^ t.length), Int.add_assoc]
theorem numV_take (t : List Int) (k : Nat) (h : k < t.length) : numV (t.take (k + 1)) = numV (t.take k) + 256 ^ k * t.getD k 0 := by
  have e : t.getD k 0 = t[k] := by simp [List.getD, List.getElem?_eq_getElem h]
  rw [List.take_succ_eq_append_getElem h, numV_snoc, List.length_take, Nat.min_eq_left (by omega), e]
theorem take_byte {l : List Int} (h : Bytes l) (k : Nat) : Bytes (l.take k) := fun x hx => h x (List.mem_of_mem_take hx)

theorem or_join (mk bk : Int) (k : Nat) (hk : k < 4) (h0 : 0 ≤ mk) (h1 : mk < 256 ^ k) (h2 : 0 ≤ bk) (h3 : bk ≤ 255) : bits .or .u32 mk (bk * 2 ^ (8 * k) % 4294967296) = mk + 256 ^ k * bk := by
  rw [pow8]
  obtain ⟨x, rfl⟩ : ∃ n : Nat, mk = n := ⟨mk.toNat, by omega⟩
  obtain ⟨y, rfl⟩ : ∃ n : Nat, bk = n := ⟨bk.toNat, by omega⟩
  have hj : (x ||| y * 256 ^ k) = x + y * 256 ^ k := by
    rw [Nat.or_comm, Nat.add_comm]
    refine nat_join (8 * k) _ _ ?_ ?_
    · rw [Nat.pow_mul]; exact Nat.mul_mod_left _ _
    · rw [Nat.pow_mul]
      have h1' : (x : Int) < ((256 ^ k : Nat) : Int) := by rw [Int.natCast_pow]; exact h1
      exact Int.ofNat_lt.1 h1'
  have hy : y ≤ 255 := by omega
  have hm : (y : Int) * 256 ^ k % 4294967296 = ((y * 256 ^ k : Nat) : Int) ∧ y * 256 ^ k < 4294967296 ∧ x < 4294967296 := by
    obtain rfl | rfl | rfl | rfl : k = 0 ∨ k = 1 ∨ k = 2 ∨ k = 3 := by omega
    all_goals (refine ⟨?_, ?_, ?_⟩ <;> omega)
  rw [hm.1, u32_or_nat _ _ hm.2.2 hm.2.1, hj]
  rw [Int.natCast_add, Int.natCast_mul, Int.natCast_pow, Int.mul_comm (y : Int)]
  rfl

theorem set4 (W : World) (a b c d v : Value) (T : TypeId) (m g : Nat) (hg : g = W.heap.size) : ((W.alloc (.cells #[a, b, c, d] T)).drewN m).setCell ⟨g, 3, none⟩ v = (W.alloc (.cells #[a, b, c, v] T)).drewN m := by
  subst hg
  have e : (W.heap.push (.cells #[a, b, c, d] T)).modify W.heap.size (fun o => match o with
      | .cells c elem frozen => .cells (c.setIfInBounds 3 v) elem frozen
      | o => o) = W.heap.push (.cells #[a, b, c, v] T) := by
    apply Array.ext
    · simp
    · intro i h1 h2
      simp only [Array.getElem_modify, Array.getElem_push]
      by_cases hi : i < W.heap.size
      · rw [dif_pos hi, if_neg (by omega), dif_pos hi]
      · rw [dif_neg hi, if_pos (by simp at h2; omega), dif_neg hi]; rfl
  unfold World.setCell
  show ({ (W.alloc (.cells #[a, b, c, d] T)).drewN m with heap := (W.heap.push (.cells #[a, b, c, d] T)).modify W.heap.size (fun o => match o with
      | .cells c elem frozen => .cells (c.setIfInBounds 3 v) elem frozen
      | o => o) } : World) = _
  rw [e]; rfl

theorem below_drewN {B : Nat} {w w' : World} (h : Below B w w') (n : Nat) : Below B w (w'.drewN n) := ⟨h.os, h.tape, h.output, h.size, h.block⟩

theorem mk_bd {n k : Nat} {t : List Int} {mk : Int} (hlt : k < n) (hn : n ≤ 4) (hl : n ≤ t.length) (hby : Bytes t) (hmk : numV (t.take k) = mk) : 0 ≤ mk ∧ mk < 4294967296 := by
  have hv := numV_bd _ (take_byte hby k)
  rw [List.length_take, Nat.min_eq_left (by omega), hmk] at hv
  obtain rfl | rfl | rfl | rfl : k = 0 ∨ k = 1 ∨ k = 2 ∨ k = 3 := by omega
  all_goals (simp at hv; omega)

end Go.Proofs.Ytjfhoaahohinhaa
