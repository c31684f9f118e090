/- What Lay of package isa answers: an instruction's bytes. -/
import Derived.Test.YtjcggpaiminecaaIsaForms
import Derived.OwnWalk
import Derived.Maps.AppendAt
import Derived.Laws.OwnMore
import Derived.Laws.BytesArg
namespace Go.Proofs.Ytjcggpaiminecaa
open Go.ChangeShapes Go.WideShapes Go.ChangeAt Go.RowKit
set_option linter.unusedVariables false

theorem u8_info : (Try.prog.info? 5).map (fun i => (i.zero, i.size, i.bytes)) = some (some (.int .u8 0), 1, 1) := by kernel_rfl

theorem kept1 {w w1 : World} {o : Obj} (hb : Below (w.alloc o).heap.size (w.alloc o) w1) (k : Nat) : w1.cell? ⟨w.heap.size, k, none⟩ = (w.alloc o).cell? ⟨w.heap.size, k, none⟩ :=
  hb.cell (p := ⟨w.heap.size, k, none⟩) (by simp)
theorem kept2 {w w1 w2 : World} {o o' : Obj} (hb : Below (w.alloc o).heap.size (w.alloc o) w1) (hb2 : Below (w1.alloc o').heap.size (w1.alloc o') w2) (k : Nat) : w2.cell? ⟨w.heap.size, k, none⟩ = (w.alloc o).cell? ⟨w.heap.size, k, none⟩ := by
  have hz : w.heap.size < w1.heap.size := by have := hb.size; simp at this; omega
  rw [hb2.cell (p := ⟨w.heap.size, k, none⟩) (by simp; omega), World.cell?_alloc_lt w1 o' ⟨w.heap.size, k, none⟩ hz, kept1 hb]

theorem one_new2 (w : World) (o : Obj) (x : Value) (t : TypeId) : ∀ j u, [x][j]? = some u → ((w.alloc o).alloc (.cells #[x] t)).cell? ((⟨w.heap.size + 1, 0, none⟩ : Addr).add j) = some u := by
  have h := cell_one_new (w.alloc o) x t
  simp only [show (w.alloc o).heap.size = w.heap.size + 1 by simp] at h
  exact h

/-- the bytes so far, where k bytes of the number are laid -/
def LayRel (w2 : World) (p : Nat) (imm : Int) (n : Nat) (pre : List Int) (v i : Value) (w' : World) : Prop :=
  ∃ k : Nat, k ≤ n ∧ i = .int .i64 k ∧ w'.ownsRow w2.heap.size 5 1 v (p + k) ((pre ++ numL imm k).map (Value.int .u8)) ∧ Below w2.heap.size w2 w'

theorem pow8 (k : Nat) : (2 : Int) ^ (8 * k) = 256 ^ k := by rw [Int.pow_mul]; rfl

theorem layRel_step {w2 wr w4 : World} {p : Nat} {imm : Int} {n k : Nat} {pre : List Int} {v v4 : Value} (hlt : k < n) (hb : Below w2.heap.size w2 wr) (ho : wr.ownsRow w2.heap.size 5 1 v (p + k) ((pre ++ numL imm k).map (Value.int .u8)))
    (hg : (wr.alloc (.cells #[.int .u8 (imm / 2 ^ (8 * k) % 256)] 5)).grownBy w4 v.ownBlock)
    (hown : w4.ownsRow w2.heap.size 5 1 v4 (p + k + 1) ((pre ++ numL imm k).map (Value.int .u8) ++ [.int .u8 (imm / 2 ^ (8 * k) % 256)])) :
    LayRel w2 p imm n pre v4 (.int .i64 ((k : Int) + 1)) w4 := by
  refine ⟨k + 1, hlt, by simp, ?_, (bel_al hb _).grown hg (Nat.le_trans hb.size (by simp)) (fun j hj => (ho.lt j hj).1)⟩
  rw [pow8] at hown
  simpa [numL, Nat.add_assoc] using hown

theorem own_conv {wr : World} {base n : Nat} {v : Value} {L : List Int} (h : wr.ownsRow base 5 1 v n (L.map (Value.int .u8))) (hn : 0 < n) :
    (convert 30 9 v).run Try.prog wr = .ok (.string (strOfNums L)) wr := by
  have hl : L.length = n := by have := h.1; simpa using this
  rcases h.2 with ⟨_, h0⟩ | ⟨g, cap, cur, rfl, _⟩
  · omega
  · refine run_convert_bytes_arg wr 30 5 Try.underlying30 Try.underlying5 g 0 n cap L hl (fun i hi => ?_) _ Try.underlying9
    have hi' : i < L.length := by omega
    have := h.cells (g := g) rfl i (.int .u8 (L.getD i 0)) (by simp [List.getElem?_eq_getElem hi', List.getD])
    have e : (⟨g, 0, none⟩ : Addr).add i = ⟨g, 0 + i, none⟩ := by unfold Addr.add; split <;> simp_all
    rw [e] at this
    exact this

end Go.Proofs.Ytjcggpaiminecaa
