/- The example of check. -/
import Derived.Test.YtkacplcilkogpaaDoorPChkRead
namespace Go.Proofs.YtkacplcilkogpaaDoor.Mm
open Go.ChangeShapes Go.WideShapes Go.ChangeAt Go.RowKit
set_option linter.unusedVariables false
set_option linter.unusedSimpArgs false
set_option maxRecDepth 10000

def exNo : Bs := [97, 32, 61, 32, 49, 59]
def exYes : Bs := [118, 97, 114, 32, 97, 59, 32, 97, 32, 61, 32, 49, 59]
theorem ex_no : ckE exNo = .error (0, 10) := by kernel_rfl
theorem ex_yes : ckE exYes = .ok ([([97], -1)], .snoc .nil (.set [97] (.num 1))) := by kernel_rfl
set_option maxHeartbeats 4000000 in
theorem awakeC (w : World) (hE : EnvC w) : Calls Tryd.prog 7 #[] w fun e w' => e = .returned (.bool true) ∧ Below w.heap.size w w' := by
  have C1 := ckread_any ⟨#[97, 32, 61, 32, 49, 59]⟩ (by decide) w hE
  have C2 := fun W (k : Below w.heap.size w W) => ckread_any ⟨#[118, 97, 114, 32, 97, 59, 32, 97, 32, 61, 32, 49, 59]⟩ (by decide) W (hE.below k)
  unfold CkP at C1 C2
  rw [show (⟨#[97, 32, 61, 32, 49, 59]⟩ : ByteArray).data.toList = exNo from rfl, ex_no] at C1
  rw [show (⟨#[118, 97, 114, 32, 97, 59, 32, 97, 32, 61, 32, 49, 59]⟩ : ByteArray).data.toList = exYes from rfl, ex_yes] at C2
  simp only at C1 C2
  replace C1 := Lib.hid C1
  replace C2 := Lib.hid C2
  clear hE
  go_enter Tryd.func7, Tryd.ntmps7
  go_wp2_with fail
  refine C1.out.mono ?_; rintro e w1 ⟨rfl, hb⟩
  have B1 := Lib.hid hb
  clear hb C1
  unfold treeV
  obtain ⟨wa, w2, ea, e2, HZ, H2, B2⟩ := tc_st w1 (.slice none 0 0) (.slice none 0 0) (.int .i64 0)
  have z0 := HZ.out.cell 0
  have z1 := HZ.out.cell 1
  have z2 := HZ.out.cell 2
  have y0 := HZ.out.frozen 0
  have y1 := HZ.out.frozen 1
  have y2 := HZ.out.frozen 2
  simp only [List.getElem?_cons_zero, List.getElem?_cons_succ] at z0 z1 z2
  have B3 := Lib.hid (bel_then B1.out B2.out)
  have C3 := Lib.hid (C2.out w2 B3.out)
  clear C2
  go_wp2_with fail
  refine C3.out.mono ?_; rintro e w3 ⟨A, B, ca, cb, N, rfl, T, hN, hc, hb⟩
  have B4 := Lib.hid (bel_then B3.out hb)
  clear hb C3 T hN hc
  unfold treeV
  obtain ⟨wb, w4, eb, e4, HY, H4, B5⟩ := tc_st w3 (.slice A 1 ca) (.slice B N.length cb) (.int .i64 (rt 0 (.snoc .nil (.set [97] (.num 1)))))
  have q0 := HY.out.cell 0
  have q1 := HY.out.cell 1
  have q2 := HY.out.cell 2
  have p0 := HY.out.frozen 0
  have p1 := HY.out.frozen 1
  have p2 := HY.out.frozen 2
  simp only [List.getElem?_cons_zero, List.getElem?_cons_succ] at q0 q1 q2
  have B6 := Lib.hid (bel_then B4.out B5.out)
  go_wp2
  go_ret
  exact ⟨by first | rfl | simp, B6.out⟩
end Go.Proofs.YtkacplcilkogpaaDoor.Mm
