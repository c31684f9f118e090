/- What the document's own Lay of layer 2 answers, of a right instruction. -/
import Derived.Test.YtojpcijfipdiaaaIsaRef
namespace Go.Proofs.Ytojpcijfipdiaaa
open Go.ChangeShapes Go.WideShapes Go.ChangeAt Go.RowKit
set_option linter.unusedVariables false

/-- the bytes so far, where k bytes of the number are laid, and what is left of it -/
def RLayRel (W : World) (B p : Nat) (imm : Int) (pre : List Int) (v n i : Value) (w' : World) : Prop :=
  ∃ k : Nat, k ≤ 4 ∧ i = .int .i64 k ∧ n = .int .u32 (imm / 256 ^ k) ∧ w'.ownsRow B 5 1 v (p + k) ((pre ++ numL imm k).map (Value.int .u8)) ∧ Below B W w'

theorem rlayRel_step {W wr w4 : World} {B p : Nat} {imm : Int} {k : Nat} {pre : List Int} {v v4 : Value} (hlt : k < 4) (hB : B ≤ W.heap.size) (hb : Below B W wr) (ho : wr.ownsRow B 5 1 v (p + k) ((pre ++ numL imm k).map (Value.int .u8)))
    (hg : (wr.alloc (.cells #[.int .u8 (imm / 256 ^ k % 256)] 5)).grownBy w4 v.ownBlock)
    (hown : w4.ownsRow B 5 1 v4 (p + k + 1) ((pre ++ numL imm k).map (Value.int .u8) ++ [.int .u8 (imm / 256 ^ k % 256)])) :
    RLayRel W B p imm pre v4 (.int .u32 (imm / 256 ^ k / 256)) (.int .i64 ((k : Int) + 1)) w4 := by
  have hz := Nat.le_trans hB hb.size
  refine ⟨k + 1, hlt, by simp, ?_, ?_, (hb.alloc hz _).grown hg (Nat.le_trans hz (by simp)) (fun j hj => (ho.lt j hj).1)⟩
  · rw [Int.pow_succ, Int.ediv_ediv_of_nonneg (Int.pow_nonneg (by decide))]
  · simpa [numL, Nat.add_assoc] using hown

theorem Res.belowR {w w' : World} {g B : Nat} {a b c d : Value} (h : Res w g a b c d) (hb : Below B w w') (hg : g < B) : Res w' g a b c d := by
  obtain ⟨h0, ⟨h1, h2, h3, h4⟩, f1, f2, f3, f4⟩ := h
  have e : ∀ j, w'.cell? ⟨g, j, none⟩ = w.cell? ⟨g, j, none⟩ := fun j => hb.cell (p := ⟨g, j, none⟩) hg
  have f : ∀ j, w'.frozen? ⟨g, j, none⟩ = w.frozen? ⟨g, j, none⟩ := fun j => hb.frozen (p := ⟨g, j, none⟩) hg
  exact ⟨Nat.lt_of_lt_of_le h0 hb.size, ⟨by rw [e, h1], by rw [e, h2], by rw [e, h3], by rw [e, h4]⟩, by rw [f, f1], by rw [f, f2], by rw [f, f3], by rw [f, f4]⟩

theorem own_one (w : World) (o : Obj) (x : Int) : ((w.alloc o).alloc (.cells #[.int .u8 x] 5)).ownsRow (w.heap.size + 1) 5 1 (.slice (some ⟨w.heap.size + 1, 0, none⟩) 1 1) 1 ([x].map (Value.int .u8)) := by
  have h := World.ownsRow_lit (size := 1) (base := w.heap.size + 1) (e := 5) (w.alloc o) #[.int .u8 x] 1 (by simp) (by unfold maxLen; omega) rfl
  rw [World.size_alloc] at h
  exact h
theorem one_new3 (w : World) (o o' : Obj) (x : Value) (t : TypeId) : ∀ j u, [x][j]? = some u → (((w.alloc o).alloc o').alloc (.cells #[x] t)).cell? ((⟨w.heap.size + 1 + 1, 0, none⟩ : Addr).add j) = some u := by
  have h := cell_one_new ((w.alloc o).alloc o') x t
  simp only [show ((w.alloc o).alloc o').heap.size = w.heap.size + 1 + 1 by simp] at h
  exact h
theorem imm_bd {imm : Int} (i0 : 0 ≤ imm) (i1 : imm < 4294967296) (k : Nat) : 0 ≤ imm / 256 ^ k ∧ imm / 256 ^ k < 4294967296 := by
  have hp : (0 : Int) < 256 ^ k := Int.pow_pos (by decide)
  refine ⟨Int.ediv_nonneg i0 (by omega), Int.lt_of_le_of_lt (Int.ediv_le_self _ i0) i1⟩

end Go.Proofs.Ytojpcijfipdiaaa
