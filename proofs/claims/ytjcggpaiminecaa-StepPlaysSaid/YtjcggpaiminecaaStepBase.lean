/- A processor of package step, as a value and as a block; its halves and masks. -/
import Derived.Test.YtjcggpaiminecaaMemLaws
import Derived.Test.YtjcggpaiminecaaStepMath
import Derived.Laws.Rows
import Derived.Deep.WholeRow
import Derived.Deep.RegionHeld3
namespace Go.Proofs.Ytjcggpaiminecaa.Mm
open Go.ChangeShapes Go.WideShapes Go.ChangeAt Go.RowKit
set_option linter.unusedVariables false

/-- a block of eleven cells, in a world in which nothing that was there has changed -/
def Cpu11 (w : World) (g : Nat) (t : TypeId) (v0 v1 v2 v3 v4 v5 v6 v7 v8 v9 v10 : Value) (w' : World) : Prop := HasB w' g t [v0, v1, v2, v3, v4, v5, v6, v7, v8, v9, v10] ∧ Below w.heap.size w w'
section
variable {w : World} {g : Nat} {t : TypeId} {v0 v1 v2 v3 v4 v5 v6 v7 v8 v9 v10 : Value} {v w' : World}
theorem Cpu11.cells (k : Cpu11 w g t v0 v1 v2 v3 v4 v5 v6 v7 v8 v9 v10 w') : w'.cell? ⟨g, 0, none⟩ = some v0 ∧ w'.cell? ⟨g, 1, none⟩ = some v1 ∧ w'.cell? ⟨g, 2, none⟩ = some v2 ∧ w'.cell? ⟨g, 3, none⟩ = some v3 ∧ w'.cell? ⟨g, 4, none⟩ = some v4 ∧ w'.cell? ⟨g, 5, none⟩ = some v5 ∧ w'.cell? ⟨g, 6, none⟩ = some v6 ∧ w'.cell? ⟨g, 7, none⟩ = some v7 ∧ w'.cell? ⟨g, 8, none⟩ = some v8 ∧ w'.cell? ⟨g, 9, none⟩ = some v9 ∧ w'.cell? ⟨g, 10, none⟩ = some v10 :=
  ⟨k.1.cell 0, k.1.cell 1, k.1.cell 2, k.1.cell 3, k.1.cell 4, k.1.cell 5, k.1.cell 6, k.1.cell 7, k.1.cell 8, k.1.cell 9, k.1.cell 10⟩
theorem Cpu11.below (k : Cpu11 w g t v0 v1 v2 v3 v4 v5 v6 v7 v8 v9 v10 v) (hb : Below v.heap.size v w') : Cpu11 w g t v0 v1 v2 v3 v4 v5 v6 v7 v8 v9 v10 w' := ⟨k.1.below hb, bel_then k.2 hb⟩
theorem Cpu11.s (k : Cpu11 w g t v0 v1 v2 v3 v4 v5 v6 v7 v8 v9 v10 w') : (w'.cell? ⟨g, 0, none⟩ = some v0 ∧ w'.cell? ⟨g, 1, none⟩ = some v1 ∧ w'.cell? ⟨g, 2, none⟩ = some v2 ∧ w'.cell? ⟨g, 3, none⟩ = some v3 ∧ w'.cell? ⟨g, 4, none⟩ = some v4 ∧ w'.cell? ⟨g, 5, none⟩ = some v5 ∧ w'.cell? ⟨g, 6, none⟩ = some v6 ∧ w'.cell? ⟨g, 7, none⟩ = some v7 ∧ w'.cell? ⟨g, 8, none⟩ = some v8 ∧ w'.cell? ⟨g, 9, none⟩ = some v9 ∧ w'.cell? ⟨g, 10, none⟩ = some v10) ∧ Cpu11 w g t v0 v1 v2 v3 v4 v5 v6 v7 v8 v9 v10 w' := ⟨k.cells, k⟩
theorem Cpu11.drew (k : Cpu11 w g t v0 v1 v2 v3 v4 v5 v6 v7 v8 v9 v10 v) : Cpu11 w g t v0 v1 v2 v3 v4 v5 v6 v7 v8 v9 v10 v.drew := k.below (Below.refl _ _).drew
theorem cpu11_keep {P : Prop} (k : P ∧ Cpu11 w g t v0 v1 v2 v3 v4 v5 v6 v7 v8 v9 v10 v) (hb : Below v.heap.size v w') : (w'.cell? ⟨g, 0, none⟩ = some v0 ∧ w'.cell? ⟨g, 1, none⟩ = some v1 ∧ w'.cell? ⟨g, 2, none⟩ = some v2 ∧ w'.cell? ⟨g, 3, none⟩ = some v3 ∧ w'.cell? ⟨g, 4, none⟩ = some v4 ∧ w'.cell? ⟨g, 5, none⟩ = some v5 ∧ w'.cell? ⟨g, 6, none⟩ = some v6 ∧ w'.cell? ⟨g, 7, none⟩ = some v7 ∧ w'.cell? ⟨g, 8, none⟩ = some v8 ∧ w'.cell? ⟨g, 9, none⟩ = some v9 ∧ w'.cell? ⟨g, 10, none⟩ = some v10) ∧ Cpu11 w g t v0 v1 v2 v3 v4 v5 v6 v7 v8 v9 v10 w' := (k.2.below hb).s
end

theorem half_any (v0 v1 v2 v3 v4 v5 v6 v7 v8 v9 : Value) (s : Int) (hs : 0 ≤ s) (hs' : s < 4294967296) (w : World) :
    Calls Try.prog 52 #[.agg #[v0, v1, v2, v3, v4, v5, v6, v7, v8, v9, .int .u32 s]] w fun e w' => e = .returned (.int .u32 (s / 2)) ∧ Below w.heap.size w w' := by
  go_enter Try.func52, Try.ntmps52
  go_wp2_with fail
  go_ret
  exact ⟨rfl, bel_al (Below.refl _ _) _⟩
theorem rest_any (v u : Int) (hv : 0 ≤ v) (hv' : v < 4294967296) (hu : 0 ≤ u) (hu' : u < 4294967296) (w : World) :
    Calls Try.prog 51 #[.int .u32 v, .int .u32 u] w fun e w' => e = .returned (.int .u32 (restV v u)) ∧ w = w' := by
  by_cases h0 : u = 0
  · subst h0
    go_enter Try.func51, Try.ntmps51
    go_wp2_with fail
    go_ret
    exact ⟨ret_int (by rfl), rfl⟩
  · have h1 : (u == 0) = false := by simpa using h0
    have e : restV v u = v % u := by unfold restV; rw [if_neg h0]
    have E := Lib.hid e; clear e
    go_enter Try.func51, Try.ntmps51
    go_wp2_with fail
    go_ret
    exact ⟨ret_int E.out.symm, rfl⟩
theorem rest_bel (v u : Int) (hv : 0 ≤ v) (hv' : v < 4294967296) (hu : 0 ≤ u) (hu' : u < 4294967296) (w : World) :
    Calls Try.prog 51 #[.int .u32 v, .int .u32 u] w fun e w' => e = .returned (.int .u32 (restV v u)) ∧ Below w.heap.size w w' :=
  (rest_any v u hv hv' hu hu' w).mono fun e w' ⟨he, hw⟩ => ⟨he, hw ▸ Below.refl _ _⟩
theorem Code_any (v0 v1 v2 v3 v4 v5 v6 v7 v8 : Value) (v b s : Int) (hb : 0 ≤ b) (hb' : b < 4294967296) (hs : 0 ≤ s) (hs' : s < 4294967296) (hv : 0 ≤ v) (hv' : v < 4294967296) (w : World) :
    Calls Try.prog 42 #[.agg #[v0, v1, v2, v3, v4, v5, v6, v7, v8, .int .u32 b, .int .u32 s], .int .u32 v] w fun e w' => e = .returned (.int .u32 (codeV b s v)) ∧ Below w.heap.size w w' := by
  have g0 : 0 ≤ s / 2 := by omega
  have g1 : s / 2 < 4294967296 := by omega
  obtain ⟨q0, q1⟩ := restV_bd v (s / 2) hv hv' g0
  have HN := (HasB.new w 57 [v0, v1, v2, v3, v4, v5, v6, v7, v8, .int .u32 b, .int .u32 s])
  have HN := Lib.hid HN
  go_enter Try.func42, Try.ntmps42
  go_wp2_with fail
  refine (half_any v0 v1 v2 v3 v4 v5 v6 v7 v8 _ s hs hs' _).mono ?_; rintro e w1 ⟨rfl, hb1⟩
  have c9 := (HN.out.below hb1).cell 9
  simp only [List.getElem?_cons_succ, List.getElem?_cons_zero] at c9
  have HB := Lib.hid hb1; clear hb1
  go_wp2_with fail
  refine (rest_any v (s / 2) hv hv' g0 g1 _).mono ?_; rintro e w' ⟨rfl, rfl⟩
  go_wp2_with fail
  go_ret
  exact ⟨ret_int rfl, bel_then (bel_al (Below.refl _ _) _) HB.out⟩
set_option maxHeartbeats 4000000 in
theorem Data_any (v0 v1 v2 v3 v4 v5 v6 v7 v8 : Value) (v b s : Int) (hb : 0 ≤ b) (hb' : b < 4294967296) (hs : 0 ≤ s) (hs' : s < 4294967296) (hv : 0 ≤ v) (hv' : v < 4294967296) (w : World) :
    Calls Try.prog 41 #[.agg #[v0, v1, v2, v3, v4, v5, v6, v7, v8, .int .u32 b, .int .u32 s], .int .u32 v] w fun e w' => e = .returned (.int .u32 (dataV b s v)) ∧ Below w.heap.size w w' := by
  have g0 : 0 ≤ s / 2 := by omega
  have g1 : s / 2 < 4294967296 := by omega
  obtain ⟨q0, q1⟩ := restV_bd v (s / 2) hv hv' g0
  have K : Cpu11 w w.heap.size 57 v0 v1 v2 v3 v4 v5 v6 v7 v8 (.int .u32 b) (.int .u32 s) (w.alloc (.cells #[v0, v1, v2, v3, v4, v5, v6, v7, v8, .int .u32 b, .int .u32 s] 57)) :=
    ⟨HasB.new w 57 [v0, v1, v2, v3, v4, v5, v6, v7, v8, .int .u32 b, .int .u32 s], bel_al (Below.refl _ _) _⟩
  have K := Lib.hid K
  go_enter Try.func41, Try.ntmps41
  go_wp2_with fail
  generalize w.alloc (.cells #[v0, v1, v2, v3, v4, v5, v6, v7, v8, .int .u32 b, .int .u32 s] 57) = W at *
  go_region_held3 (fun w' => (w'.cell? ⟨w.heap.size, 0, none⟩ = some v0 ∧ w'.cell? ⟨w.heap.size, 1, none⟩ = some v1 ∧ w'.cell? ⟨w.heap.size, 2, none⟩ = some v2 ∧ w'.cell? ⟨w.heap.size, 3, none⟩ = some v3 ∧ w'.cell? ⟨w.heap.size, 4, none⟩ = some v4 ∧ w'.cell? ⟨w.heap.size, 5, none⟩ = some v5 ∧ w'.cell? ⟨w.heap.size, 6, none⟩ = some v6 ∧ w'.cell? ⟨w.heap.size, 7, none⟩ = some v7 ∧ w'.cell? ⟨w.heap.size, 8, none⟩ = some v8 ∧ w'.cell? ⟨w.heap.size, 9, none⟩ = some (.int .u32 b) ∧ w'.cell? ⟨w.heap.size, 10, none⟩ = some (.int .u32 s)) ∧ Cpu11 w w.heap.size 57 v0 v1 v2 v3 v4 v5 v6 v7 v8 (.int .u32 b) (.int .u32 s) w')
    (first | exact Cpu11.s K.out | exact Cpu11.s (Cpu11.drew K.out) | exact cpu11_keep ‹_ ∧ Cpu11 _ _ _ _ _ _ _ _ _ _ _ _ _ _ _› hb)
    (first | (go_at_call 52; (with_reducible refine (half_any _ _ _ _ _ _ _ _ _ _ s hs hs' _).mono ?_); rintro e w' ⟨rfl, hb⟩) | (go_at_call 51; (with_reducible refine (rest_bel v (s / 2) hv hv' g0 g1 _).mono ?_); rintro e w' ⟨rfl, hb⟩))
  rename_i hh
  have HB := Lib.hid hh.2.2; clear hh
  go_wp2_with fail
  go_ret
  exact ⟨ret_int rfl, HB.out⟩
end Go.Proofs.Ytjcggpaiminecaa.Mm
