/- Merged by wip/tools/regroup: StepMath, StepBase. -/
import Derived.Test.YtjfhoaahohinhaaBaM
import Derived.Test.YtjfhoaahohinhaaIsA
import Derived.Test.YtjfhoaahohinhaaWordMath
import Derived.Test.YtjfhoaahohinhaaMeA
import Derived.Laws.Rows
import Derived.Deep.WholeRow
import Derived.Deep.RegionHeld3
namespace Go.Proofs.Ytjfhoaahohinhaa.Mm
open Go.RowKit
set_option linter.unusedVariables false
set_option maxRecDepth 10000

/-- a number of 32 bits -/
def U32 (x : Int) : Prop := 0 ≤ x ∧ x < 4294967296
theorem wrap_u (x : Int) : U32 (IntKind.u32.wrap x) := by
  show 0 ≤ x % 4294967296 ∧ x % 4294967296 < 4294967296
  omega
/-- a processor -/
structure Cp where
  pc : Int
  r : List Int
  b : Int
  s : Int
structure Cp.Ok (c : Cp) : Prop where
  pc : U32 c.pc
  len : c.r.length = 8
  r : ∀ x ∈ c.r, U32 x
  b : U32 c.b
  s : U32 c.s
def Cp.cs (c : Cp) : List Value := .int .u32 c.pc :: (c.r.map (Value.int .u32) ++ [.int .u32 c.b, .int .u32 c.s])
def Cp.val (c : Cp) : Value := .agg c.cs.toArray
def Cp.reg (c : Cp) (i : Int) : Int := c.r.getD i.toNat 0
def Cp.setR (c : Cp) (i v : Int) : Cp := { c with r := c.r.set i.toNat v }
def Cp.setPc (c : Cp) (v : Int) : Cp := { c with pc := v }
section
variable {c : Cp}
theorem Cp.Ok.reg (o : c.Ok) (i : Int) (h0 : 0 ≤ i) (h1 : i ≤ 7) : U32 (c.reg i) := by
  unfold Cp.reg
  have h : i.toNat < c.r.length := by rw [o.len]; omega
  rw [show c.r.getD i.toNat 0 = c.r[i.toNat] by simp [List.getD, List.getElem?_eq_getElem h]]
  exact o.r _ (List.getElem_mem h)
theorem Cp.Ok.setR (o : c.Ok) (i : Int) {v : Int} (hv : U32 v) : (c.setR i v).Ok :=
  ⟨o.pc, by show (c.r.set _ _).length = 8; rw [List.length_set]; exact o.len, fun x hx => by
    rcases List.mem_or_eq_of_mem_set hx with h | rfl
    · exact o.r x h
    · exact hv, o.b, o.s⟩
theorem Cp.Ok.setPc (o : c.Ok) {v : Int} (hv : U32 v) : (c.setPc v).Ok := ⟨hv, o.len, o.r, o.b, o.s⟩
theorem Cp.Ok.eight (o : c.Ok) : ∃ r0 r1 r2 r3 r4 r5 r6 r7, c.r = [r0, r1, r2, r3, r4, r5, r6, r7] := by
  obtain ⟨pc, r, b, s⟩ := c
  have h := o.len
  simp only at h ⊢
  match r, h with
  | [r0, r1, r2, r3, r4, r5, r6, r7], _ => exact ⟨r0, r1, r2, r3, r4, r5, r6, r7, rfl⟩
theorem Cp.cs_len (o : c.Ok) : c.cs.length = 11 := by unfold Cp.cs; simp [o.len]
theorem Cp.cs_pc : c.cs[0]? = some (.int .u32 c.pc) := rfl
theorem Cp.cs_reg (o : c.Ok) (i : Nat) (h : i < 8) : c.cs[1 + i]? = some (.int .u32 (c.reg i)) := by
  unfold Cp.cs Cp.reg
  rw [show 1 + i = i + 1 by omega, List.getElem?_cons_succ, List.getElem?_append_left (by simp [o.len]; omega), List.getElem?_map, List.getElem?_eq_getElem (by rw [o.len]; exact h)]
  simp [List.getD, List.getElem?_eq_getElem (show i < c.r.length by rw [o.len]; exact h)]
theorem Cp.cs_b (o : c.Ok) : c.cs[9]? = some (.int .u32 c.b) := by
  obtain ⟨r0, r1, r2, r3, r4, r5, r6, r7, h⟩ := o.eight
  unfold Cp.cs; rw [h]; rfl
theorem Cp.cs_s (o : c.Ok) : c.cs[10]? = some (.int .u32 c.s) := by
  obtain ⟨r0, r1, r2, r3, r4, r5, r6, r7, h⟩ := o.eight
  unfold Cp.cs; rw [h]; rfl
theorem Cp.cs_setR (o : c.Ok) (i : Nat) (h : i < 8) (v : Int) : c.cs.set (1 + i) (.int .u32 v) = (c.setR i v).cs := by
  unfold Cp.cs Cp.setR
  rw [show 1 + i = i + 1 by omega, List.set_cons_succ, List.set_append_left _ _ (by simp [o.len]; omega), Int.toNat_natCast]
  simp
theorem Cp.cs_setPc (v : Int) : c.cs.set 0 (.int .u32 v) = (c.setPc v).cs := rfl
end

/-- as many bytes as are fetched -/
def fet (T : List Bool) (pc : Int) : Nat → Nat
  | 0 => 0
  | n + 1 => if wholeB T pc ((n + 1 : Nat) : Int) then n + 1 else fet T pc n
theorem fet_le (T : List Bool) (pc : Int) (n : Nat) : fet T pc n ≤ n := by
  induction n with
  | zero => exact Nat.le_refl _
  | succ n ih => unfold fet; split <;> omega
theorem fet_whole (T : List Bool) (pc : Int) (n : Nat) (h : 0 < fet T pc n) : wholeB T pc ((fet T pc n : Nat) : Int) = true := by
  induction n with
  | zero => exact absurd h (Nat.lt_irrefl 0)
  | succ n ih =>
    unfold fet at h ⊢
    split
    · assumption
    · rename_i h'; rw [if_neg h'] at h; exact ih h
def codeL (B : List Int) (T : List Bool) (pc : Int) : List Int := (B.drop pc.toNat).take (fet T pc 6)
theorem codeL_byte {B : List Int} (h : Bytes B) (T : List Bool) (pc : Int) : Bytes (codeL B T pc) := take_byte (drop_byte h _) _
theorem codeL_le (B : List Int) (T : List Bool) (pc : Int) : (codeL B T pc).length ≤ 6 := by
  unfold codeL; rw [List.length_take]; have := fet_le T pc 6; omega
theorem codeL_len {B : List Int} {T : List Bool} (hl : B.length = 64 * T.length) (pc : Int) : (codeL B T pc).length = fet T pc 6 := by
  unfold codeL
  rw [List.length_take, List.length_drop]
  by_cases h : fet T pc 6 = 0
  · omega
  · have hw := fet_whole T pc 6 (by omega)
    unfold wholeB at hw
    rw [Bool.and_eq_true, liesB_iff] at hw
    omega

def restV (v u : Int) : Int := if u = 0 then 0 else v % u
theorem restV_bd (v u : Int) (hv : 0 ≤ v) (hv' : v < 4294967296) (hu : 0 ≤ u) : 0 ≤ restV v u ∧ restV v u < 4294967296 := by
  unfold restV
  split
  · omega
  · have h1 := Int.emod_nonneg v (show u ≠ 0 by omega)
    have h2 := Int.emod_lt_of_pos v (show 0 < u by omega)
    rcases Int.lt_or_le v u with h | h
    · rw [Int.emod_eq_of_lt hv h] at *
      omega
    · omega
/-- what MaskC makes, what MaskD makes -/
def codeV (b s v : Int) : Int := IntKind.u32.wrap (restV v (s / 2) - restV v (s / 2) % 32 + b)
def dataV (b s v : Int) : Int := IntKind.u32.wrap (IntKind.u32.wrap (restV v (s / 2) + b) + s / 2)

/-- what becomes of a step: the processor, the bytes, what, the gate -/
structure Ou where
  c : Cp
  B : List Int
  what : Int
  gate : Int
/-- an instruction is done: c is the processor as it was, d the one whose place is behind the instruction -/
def exec (c d : Cp) (B : List Int) (T : List Bool) (op a b imm : Int) : Ou :=
  if op = 0 then ⟨c, B, 1, 0⟩
  else if op = 22 then ⟨d, B, 2, imm⟩
  else if op = 15 then (if wholeB T (c.reg b) 4 then ⟨d.setR a (v4 B (c.reg b).toNat), B, 0, 0⟩ else ⟨c, B, 3, 0⟩)
  else if op = 16 then (if wholeB T (c.reg a) 4 then ⟨d, splice B (c.reg a).toNat (b4 (c.reg b)), 0, 0⟩ else ⟨c, B, 3, 0⟩)
  else if op = 23 then ⟨d, B, 0, 0⟩
  else if op = 1 then ⟨d.setR a imm, B, 0, 0⟩
  else if op = 2 then ⟨d.setR a (c.reg b), B, 0, 0⟩
  else if op = 17 then ⟨d.setR a (dataV c.b c.s (c.reg a)), B, 0, 0⟩
  else if op = 18 then ⟨d.setR a (codeV c.b c.s (c.reg a)), B, 0, 0⟩
  else if op = 19 then ⟨d.setPc (IntKind.u32.wrap (d.pc + imm)), B, 0, 0⟩
  else if op = 20 then (if c.reg a = 0 then ⟨d.setPc (IntKind.u32.wrap (d.pc + imm)), B, 0, 0⟩ else ⟨d, B, 0, 0⟩)
  else if op = 21 then ⟨d.setPc (c.reg a), B, 0, 0⟩
  else if doK op (c.reg b) then ⟨d.setR a (doV op (c.reg a) (c.reg b)), B, 0, 0⟩ else ⟨c, B, 4, 0⟩
section
variable (c d : Cp) (B : List Int) (T : List Bool) (a b imm : Int)
theorem exec_0 : exec c d B T 0 a b imm = ⟨c, B, 1, 0⟩ := by unfold exec; rw [if_pos rfl]
theorem exec_22 : exec c d B T 22 a b imm = ⟨d, B, 2, imm⟩ := by unfold exec; rw [if_neg (by decide), if_pos rfl]
theorem exec_15y (h : wholeB T (c.reg b) 4 = true) : exec c d B T 15 a b imm = ⟨d.setR a (v4 B (c.reg b).toNat), B, 0, 0⟩ := by unfold exec; rw [if_neg (by decide), if_neg (by decide), if_pos rfl, if_pos h]
theorem exec_15n (h : wholeB T (c.reg b) 4 = false) : exec c d B T 15 a b imm = ⟨c, B, 3, 0⟩ := by unfold exec; rw [if_neg (by decide), if_neg (by decide), if_pos rfl, if_neg (by rw [h]; decide)]
theorem exec_16y (h : wholeB T (c.reg a) 4 = true) : exec c d B T 16 a b imm = ⟨d, splice B (c.reg a).toNat (b4 (c.reg b)), 0, 0⟩ := by unfold exec; rw [if_neg (by decide), if_neg (by decide), if_neg (by decide), if_pos rfl, if_pos h]
theorem exec_16n (h : wholeB T (c.reg a) 4 = false) : exec c d B T 16 a b imm = ⟨c, B, 3, 0⟩ := by unfold exec; rw [if_neg (by decide), if_neg (by decide), if_neg (by decide), if_pos rfl, if_neg (by rw [h]; decide)]
theorem exec_23 : exec c d B T 23 a b imm = ⟨d, B, 0, 0⟩ := by unfold exec; (iterate 4 rw [if_neg (by decide)]); rw [if_pos rfl]
theorem exec_1 : exec c d B T 1 a b imm = ⟨d.setR a imm, B, 0, 0⟩ := by unfold exec; (iterate 5 rw [if_neg (by decide)]); rw [if_pos rfl]
theorem exec_2 : exec c d B T 2 a b imm = ⟨d.setR a (c.reg b), B, 0, 0⟩ := by unfold exec; (iterate 6 rw [if_neg (by decide)]); rw [if_pos rfl]
theorem exec_17 : exec c d B T 17 a b imm = ⟨d.setR a (dataV c.b c.s (c.reg a)), B, 0, 0⟩ := by unfold exec; (iterate 7 rw [if_neg (by decide)]); rw [if_pos rfl]
theorem exec_18 : exec c d B T 18 a b imm = ⟨d.setR a (codeV c.b c.s (c.reg a)), B, 0, 0⟩ := by unfold exec; (iterate 8 rw [if_neg (by decide)]); rw [if_pos rfl]
theorem exec_19 : exec c d B T 19 a b imm = ⟨d.setPc (IntKind.u32.wrap (d.pc + imm)), B, 0, 0⟩ := by unfold exec; (iterate 9 rw [if_neg (by decide)]); rw [if_pos rfl]
theorem exec_20y (h : c.reg a = 0) : exec c d B T 20 a b imm = ⟨d.setPc (IntKind.u32.wrap (d.pc + imm)), B, 0, 0⟩ := by unfold exec; (iterate 10 rw [if_neg (by decide)]); rw [if_pos rfl, if_pos h]
theorem exec_20n (h : ¬ c.reg a = 0) : exec c d B T 20 a b imm = ⟨d, B, 0, 0⟩ := by unfold exec; (iterate 10 rw [if_neg (by decide)]); rw [if_pos rfl, if_neg h]
theorem exec_21 : exec c d B T 21 a b imm = ⟨d.setPc (c.reg a), B, 0, 0⟩ := by unfold exec; (iterate 11 rw [if_neg (by decide)]); rw [if_pos rfl]
theorem exec_y (op : Int) (ho : 3 ≤ op ∧ op ≤ 14) (h : doK op (c.reg b) = true) : exec c d B T op a b imm = ⟨d.setR a (doV op (c.reg a) (c.reg b)), B, 0, 0⟩ := by unfold exec; (iterate 12 rw [if_neg (by omega)]); rw [if_pos h]
theorem exec_n (op : Int) (ho : 3 ≤ op ∧ op ≤ 14) (h : doK op (c.reg b) = false) : exec c d B T op a b imm = ⟨c, B, 4, 0⟩ := by unfold exec; (iterate 12 rw [if_neg (by omega)]); rw [if_neg (by rw [h]; decide)]
end
/-- a step -/
def StepIs (c : Cp) (B : List Int) (T : List Bool) (o : Ou) : Prop :=
  (codeL B T c.pc = [] ∧ o = ⟨c, B, 3, 0⟩) ∨ (codeL B T c.pc ≠ [] ∧ rdB (codeL B T c.pc) = false ∧ o = ⟨c, B, 5, 0⟩) ∨
  (∃ op a b imm n, Rd (codeL B T c.pc) op a b imm n ∧ o = exec c (c.setPc (IntKind.u32.wrap (c.pc + n))) B T op a b imm)
theorem step_or (c : Cp) (B : List Int) (T : List Bool) : ∃ o, StepIs c B T o := by
  by_cases h : codeL B T c.pc = []
  · exact ⟨_, .inl ⟨h, rfl⟩⟩
  · rcases rd_or (codeL B T c.pc) with h' | ⟨op, a, b, imm, n, h'⟩
    · exact ⟨_, .inr (.inl ⟨h, h', rfl⟩)⟩
    · exact ⟨_, .inr (.inr ⟨op, a, b, imm, n, h', rfl⟩)⟩
theorem step_fun {c : Cp} {B : List Int} {T : List Bool} {o o' : Ou} (h : StepIs c B T o) (h' : StepIs c B T o') : o = o' := by
  rcases h with ⟨h1, rfl⟩ | ⟨h1, h2, rfl⟩ | ⟨op, a, b, imm, n, h1, rfl⟩ <;> rcases h' with ⟨k1, rfl⟩ | ⟨k1, k2, rfl⟩ | ⟨op', a', b', imm', n', k1, rfl⟩
  · rfl
  · exact absurd h1 k1
  · obtain ⟨_, t, e, _⟩ := k1; rw [h1] at e; cases e
  · exact absurd k1 h1
  · rfl
  · have := k1.1; rw [h2] at this; cases this
  · obtain ⟨_, t, e, _⟩ := h1; rw [k1] at e; cases e
  · have := h1.1; rw [k2] at this; cases this
  · obtain ⟨rfl, rfl, rfl, rfl, rfl⟩ := rd_fun h1 k1; rfl
/-- of right bytes an instruction's parts are within -/
theorem rd_bds {l : List Int} {op a b imm n : Int} (hl : Bytes l) (h : Rd l op a b imm n) : (0 ≤ op ∧ op ≤ 23) ∧ (0 ≤ a ∧ a ≤ 7) ∧ (0 ≤ b ∧ b ≤ 7) ∧ U32 imm ∧ (1 ≤ n ∧ n ≤ 6) := by
  obtain ⟨h1, h2, h3, h4, h5, _, _⟩ := lay_of_rd l op a b imm n hl h
  obtain ⟨h6, h7⟩ := (rightB_iff _ _ _ _).1 h1
  have hs := szO_bd op
  unfold fitsB at h7
  have h7 := of_decide_eq_true h7
  have ha : fA op ≤ 7 := by unfold fA; split <;> decide
  have hb : fB op ≤ 7 := by unfold fB; split <;> decide
  exact ⟨h6, by omega, by omega, ⟨h2, h3⟩, by omega⟩
end Go.Proofs.Ytjfhoaahohinhaa.Mm

namespace Go.Proofs.Ytjfhoaahohinhaa.Mm
open Go.ChangeShapes Go.WideShapes Go.ChangeAt Go.RowKit
set_option linter.unusedVariables false
set_option maxRecDepth 10000

/-- a block of eleven cells, in a world in which nothing that was there has changed -/
def Cpu11 (w : World) (g : Nat) (t : TypeId) (v0 v1 v2 v3 v4 v5 v6 v7 v8 v9 v10 : Value) (w' : World) : Prop := HasB w' g t [v0, v1, v2, v3, v4, v5, v6, v7, v8, v9, v10] ∧ Below w.heap.size w w'
section
variable {w : World} {g : Nat} {t : TypeId} {v0 v1 v2 v3 v4 v5 v6 v7 v8 v9 v10 : Value} {v w' : World}
theorem Cpu11.cells (k : Cpu11 w g t v0 v1 v2 v3 v4 v5 v6 v7 v8 v9 v10 w') : w'.cell? ⟨g, 0, none⟩ = some v0 ∧ w'.cell? ⟨g, 1, none⟩ = some v1 ∧ w'.cell? ⟨g, 2, none⟩ = some v2 ∧ w'.cell? ⟨g, 3, none⟩ = some v3 ∧ w'.cell? ⟨g, 4, none⟩ = some v4 ∧ w'.cell? ⟨g, 5, none⟩ = some v5 ∧ w'.cell? ⟨g, 6, none⟩ = some v6 ∧ w'.cell? ⟨g, 7, none⟩ = some v7 ∧ w'.cell? ⟨g, 8, none⟩ = some v8 ∧ w'.cell? ⟨g, 9, none⟩ = some v9 ∧ w'.cell? ⟨g, 10, none⟩ = some v10 :=
  ⟨k.1.cell 0, k.1.cell 1, k.1.cell 2, k.1.cell 3, k.1.cell 4, k.1.cell 5, k.1.cell 6, k.1.cell 7, k.1.cell 8, k.1.cell 9, k.1.cell 10⟩
theorem Cpu11.below (k : Cpu11 w g t v0 v1 v2 v3 v4 v5 v6 v7 v8 v9 v10 v) (hb : Below v.heap.size v w') : Cpu11 w g t v0 v1 v2 v3 v4 v5 v6 v7 v8 v9 v10 w' := ⟨k.1.below hb, bel_then k.2 hb⟩
theorem Cpu11.s (k : Cpu11 w g t v0 v1 v2 v3 v4 v5 v6 v7 v8 v9 v10 w') : (w'.cell? ⟨g, 0, none⟩ = some v0 ∧ w'.cell? ⟨g, 1, none⟩ = some v1 ∧ w'.cell? ⟨g, 2, none⟩ = some v2 ∧ w'.cell? ⟨g, 3, none⟩ = some v3 ∧ w'.cell? ⟨g, 4, none⟩ = some v4 ∧ w'.cell? ⟨g, 5, none⟩ = some v5 ∧ w'.cell? ⟨g, 6, none⟩ = some v6 ∧ w'.cell? ⟨g, 7, none⟩ = some v7 ∧ w'.cell? ⟨g, 8, none⟩ = some v8 ∧ w'.cell? ⟨g, 9, none⟩ = some v9 ∧ w'.cell? ⟨g, 10, none⟩ = some v10) ∧ Cpu11 w g t v0 v1 v2 v3 v4 v5 v6 v7 v8 v9 v10 w' := ⟨k.cells, k⟩
theorem Cpu11.drew (k : Cpu11 w g t v0 v1 v2 v3 v4 v5 v6 v7 v8 v9 v10 v) : Cpu11 w g t v0 v1 v2 v3 v4 v5 v6 v7 v8 v9 v10 v.drew := k.below (Below.refl _ _).drew
theorem cpu11_keep {P : Prop} (k : P ∧ Cpu11 w g t v0 v1 v2 v3 v4 v5 v6 v7 v8 v9 v10 v) (hb : Below v.heap.size v w') : (w'.cell? ⟨g, 0, none⟩ = some v0 ∧ w'.cell? ⟨g, 1, none⟩ = some v1 ∧ w'.cell? ⟨g, 2, none⟩ = some v2 ∧ w'.cell? ⟨g, 3, none⟩ = some v3 ∧ w'.cell? ⟨g, 4, none⟩ = some v4 ∧ w'.cell? ⟨g, 5, none⟩ = some v5 ∧ w'.cell? ⟨g, 6, none⟩ = some v6 ∧ w'.cell? ⟨g, 7, none⟩ = some v7 ∧ w'.cell? ⟨g, 8, none⟩ = some v8 ∧ w'.cell? ⟨g, 9, none⟩ = some v9 ∧ w'.cell? ⟨g, 10, none⟩ = some v10) ∧ Cpu11 w g t v0 v1 v2 v3 v4 v5 v6 v7 v8 v9 v10 w' := (k.2.below hb).s
end

end Go.Proofs.Ytjfhoaahohinhaa.Mm
