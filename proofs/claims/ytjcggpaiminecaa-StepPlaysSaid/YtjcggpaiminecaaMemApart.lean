/- The statement MemApart, walked. -/
import Derived.Test.YtjcggpaiminecaaMemLaws
namespace Go.Proofs.Ytjcggpaiminecaa.Mm
open Go.ChangeShapes Go.WideShapes Go.ChangeAt Go.RowKit
set_option linter.unusedVariables false

theorem u8_bd {n : Int} (h : (Lit.int .u8 n).wf = true) : 0 ≤ n ∧ n ≤ 255 := bounds_u8 h
theorem u32_bd {n : Int} (h : (Lit.int .u32 n).wf = true) : 0 ≤ n ∧ n < 4294967296 := by
  have := bounds_u32 h
  omega

theorem part_cell {w : World} {g : Nat} {B : List Int} {a n : Nat} (hb : HasB w g 5 (((B.drop a).take n).map (Value.int .u8))) (i : Nat) (hi : i < n) (hfit : a + n ≤ B.length) : w.cell? ⟨g, i, none⟩ = some (.int .u8 (B.getD (a + i) 0)) := by
  have hl : ((B.drop a).take n).length = n := by rw [List.length_take, List.length_drop]; omega
  rw [hb.cell, List.getElem?_map, List.getElem?_eq_getElem (by omega), Option.map_some]
  congr 2
  rw [← getD_drop', ← getD_take' (B.drop a) n i 0 hi]
  simp [List.getD, List.getElem?_eq_getElem (by omega : i < ((B.drop a).take n).length)]

end Go.Proofs.Ytjcggpaiminecaa.Mm
