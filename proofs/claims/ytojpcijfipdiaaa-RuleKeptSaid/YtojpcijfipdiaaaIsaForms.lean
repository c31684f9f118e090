/- The forms of package isa: what formOf answers of each operation, and what a form's size is. -/
import Derived.Test.YtojpcijfipdiaaaRows
import Derived.Test.YtojpcijfipdiaaaIsaMath
import Derived.WalkKit
import Derived.ProofKit
import Derived.OpenShut
import Derived.Below
import Derived.Carry
import Derived.ChangeMaps4
import Derived.Lib.Hide
namespace Go.Proofs.Ytojpcijfipdiaaa
open Go.ChangeShapes Go.WideShapes Go.ChangeAt Go.RowKit
set_option linter.unusedVariables false

theorem ret_int {k : IntKind} {a b : Int} (h : a = b) : Ending.returned (.int k a) = .returned (.int k b) := by rw [h]
theorem ret_bool {a b : Bool} (h : a = b) : Ending.returned (.bool a) = .returned (.bool b) := by rw [h]

theorem bel_al {w w' : World} (h : Below w.heap.size w w') (o : Obj) : Below w.heap.size w (w'.alloc o) := h.alloc h.size o
theorem bel_then {w a b : World} (h : Below w.heap.size w a) (k : Below a.heap.size a b) : Below w.heap.size w b := h.trans (k.mono h.size)

theorem bcell {W w1 : World} (hb : Below W.heap.size W w1) : (∀ b o, b < W.heap.size → w1.cell? ⟨b, o, none⟩ = W.cell? ⟨b, o, none⟩) ∧ (∀ b o, b < W.heap.size → w1.frozen? ⟨b, o, none⟩ = W.frozen? ⟨b, o, none⟩) :=
  ⟨fun b o h => hb.cell (p := ⟨b, o, none⟩) h, fun b o h => hb.frozen (p := ⟨b, o, none⟩) h⟩

/-- an operation's kind, 1 to 6; 0: none -/
def kd (op : Int) : Int :=
  if op = 0 ∨ op = 23 then 1 else if op = 17 ∨ op = 18 ∨ op = 21 then 3 else if op = 19 then 4 else if op = 1 ∨ op = 20 then 5 else if op = 22 then 6 else if 2 ≤ op ∧ op ≤ 16 then 2 else 0

set_option maxHeartbeats 1000000 in
theorem kindOf_any (op : Int) (w : World) : Calls Try.prog 33 #[.int .i64 op] w fun e w' => e = .returned (.int .i64 (kd op)) ∧ w = w' := by
  go_enter Try.func33, Try.ntmps33
  go_wp2
  all_goals (go_ret; exact ⟨ret_int (by simp only [beq_iff_eq, beq_eq_false_iff_ne] at *; unfold kd; (repeat first | rw [if_pos (by omega)] | rw [if_neg (by omega)])), rfl⟩)
/-- an entry of the map of forms -/
def ent (k a b u n : Int) (c : Nat) : MapEntry := { key := .int .i64 k, val := .agg #[.int .i64 a, .int .i64 b, .int .i64 u, .int .i64 n], born := c }
def formsM : Array MapEntry := #[ent 1 0 0 0 0 0, ent 2 7 7 16 0 1, ent 3 7 0 16 0 2, ent 4 0 0 0 4 3, ent 5 7 0 1 4 4, ent 6 0 0 0 1 5]

theorem set_alloc (w : World) (o o' : Obj) : { w.alloc o with heap := (w.alloc o).heap.setIfInBounds w.heap.size o' } = w.alloc o' := by
  have e : (w.alloc o).heap.setIfInBounds w.heap.size o' = (w.alloc o').heap := by
    show (w.heap.push o).setIfInBounds w.heap.size o' = w.heap.push o'
    apply Array.toList_inj.1
    simp
  rw [e]; rfl

theorem ins_new (w : World) (es : Array MapEntry) (c : Nat) (k : Int) (v : Value) (h : Instr.findNow (.int .i64) (.int .i64 k) es.toList 0 = some none) :
    (Instr.mapUpdate 65 (.map (some w.heap.size)) (.int .i64 k) v).run Try.prog (w.alloc (.map es c)) = .ok () (w.alloc (.map (es.push { key := .int .i64 k, val := v, born := c }) (c + 1))) := by
  have hb : (w.alloc (.map es c)).heap[w.heap.size]? = some (.map es c) := heap_alloc_new w _
  have hk : MapKept.IsKey (.int .i64) (.int .i64 k) := rfl
  simp [Instr.mapUpdate, run_underlying Try.underlying65, MapKept.run_getObj_map hb, MapKept.run_checkKey Try.underlying3 hk, MapKept.run_findKey Try.underlying3 h, MapKept.run_setObj_map _ hb, Result.andThen]
  exact set_alloc w _ _

theorem forms_any (w : World) : Calls Try.prog 32 #[] w fun e w' => e = .returned (.map (some w.heap.size)) ∧ w.alloc (.map formsM 6) = w' := by
  have hmm := @run_makeMap Try.prog
  have h1 : (Instr.mapUpdate 65 (.map (some w.heap.size)) (.int .i64 1) (.agg #[.int .i64 0, .int .i64 0, .int .i64 0, .int .i64 0])).run Try.prog (w.alloc (.map #[] 0)) = .ok () (w.alloc (.map #[{ key := .int .i64 1, val := .agg #[.int .i64 0, .int .i64 0, .int .i64 0, .int .i64 0], born := 0 }] 1)) := ins_new w #[] 0 1 (.agg #[.int .i64 0, .int .i64 0, .int .i64 0, .int .i64 0]) rfl
  have h2 : (Instr.mapUpdate 65 (.map (some w.heap.size)) (.int .i64 2) (.agg #[.int .i64 7, .int .i64 7, .int .i64 16, .int .i64 0])).run Try.prog (w.alloc (.map #[{ key := .int .i64 1, val := .agg #[.int .i64 0, .int .i64 0, .int .i64 0, .int .i64 0], born := 0 }] 1)) = .ok () (w.alloc (.map #[{ key := .int .i64 1, val := .agg #[.int .i64 0, .int .i64 0, .int .i64 0, .int .i64 0], born := 0 }, { key := .int .i64 2, val := .agg #[.int .i64 7, .int .i64 7, .int .i64 16, .int .i64 0], born := 1 }] 2)) := ins_new w #[{ key := .int .i64 1, val := .agg #[.int .i64 0, .int .i64 0, .int .i64 0, .int .i64 0], born := 0 }] 1 2 (.agg #[.int .i64 7, .int .i64 7, .int .i64 16, .int .i64 0]) rfl
  have h3 : (Instr.mapUpdate 65 (.map (some w.heap.size)) (.int .i64 3) (.agg #[.int .i64 7, .int .i64 0, .int .i64 16, .int .i64 0])).run Try.prog (w.alloc (.map #[{ key := .int .i64 1, val := .agg #[.int .i64 0, .int .i64 0, .int .i64 0, .int .i64 0], born := 0 }, { key := .int .i64 2, val := .agg #[.int .i64 7, .int .i64 7, .int .i64 16, .int .i64 0], born := 1 }] 2)) = .ok () (w.alloc (.map #[{ key := .int .i64 1, val := .agg #[.int .i64 0, .int .i64 0, .int .i64 0, .int .i64 0], born := 0 }, { key := .int .i64 2, val := .agg #[.int .i64 7, .int .i64 7, .int .i64 16, .int .i64 0], born := 1 }, { key := .int .i64 3, val := .agg #[.int .i64 7, .int .i64 0, .int .i64 16, .int .i64 0], born := 2 }] 3)) := ins_new w #[{ key := .int .i64 1, val := .agg #[.int .i64 0, .int .i64 0, .int .i64 0, .int .i64 0], born := 0 }, { key := .int .i64 2, val := .agg #[.int .i64 7, .int .i64 7, .int .i64 16, .int .i64 0], born := 1 }] 2 3 (.agg #[.int .i64 7, .int .i64 0, .int .i64 16, .int .i64 0]) rfl
  have h4 : (Instr.mapUpdate 65 (.map (some w.heap.size)) (.int .i64 4) (.agg #[.int .i64 0, .int .i64 0, .int .i64 0, .int .i64 4])).run Try.prog (w.alloc (.map #[{ key := .int .i64 1, val := .agg #[.int .i64 0, .int .i64 0, .int .i64 0, .int .i64 0], born := 0 }, { key := .int .i64 2, val := .agg #[.int .i64 7, .int .i64 7, .int .i64 16, .int .i64 0], born := 1 }, { key := .int .i64 3, val := .agg #[.int .i64 7, .int .i64 0, .int .i64 16, .int .i64 0], born := 2 }] 3)) = .ok () (w.alloc (.map #[{ key := .int .i64 1, val := .agg #[.int .i64 0, .int .i64 0, .int .i64 0, .int .i64 0], born := 0 }, { key := .int .i64 2, val := .agg #[.int .i64 7, .int .i64 7, .int .i64 16, .int .i64 0], born := 1 }, { key := .int .i64 3, val := .agg #[.int .i64 7, .int .i64 0, .int .i64 16, .int .i64 0], born := 2 }, { key := .int .i64 4, val := .agg #[.int .i64 0, .int .i64 0, .int .i64 0, .int .i64 4], born := 3 }] 4)) := ins_new w #[{ key := .int .i64 1, val := .agg #[.int .i64 0, .int .i64 0, .int .i64 0, .int .i64 0], born := 0 }, { key := .int .i64 2, val := .agg #[.int .i64 7, .int .i64 7, .int .i64 16, .int .i64 0], born := 1 }, { key := .int .i64 3, val := .agg #[.int .i64 7, .int .i64 0, .int .i64 16, .int .i64 0], born := 2 }] 3 4 (.agg #[.int .i64 0, .int .i64 0, .int .i64 0, .int .i64 4]) rfl
  have h5 : (Instr.mapUpdate 65 (.map (some w.heap.size)) (.int .i64 5) (.agg #[.int .i64 7, .int .i64 0, .int .i64 1, .int .i64 4])).run Try.prog (w.alloc (.map #[{ key := .int .i64 1, val := .agg #[.int .i64 0, .int .i64 0, .int .i64 0, .int .i64 0], born := 0 }, { key := .int .i64 2, val := .agg #[.int .i64 7, .int .i64 7, .int .i64 16, .int .i64 0], born := 1 }, { key := .int .i64 3, val := .agg #[.int .i64 7, .int .i64 0, .int .i64 16, .int .i64 0], born := 2 }, { key := .int .i64 4, val := .agg #[.int .i64 0, .int .i64 0, .int .i64 0, .int .i64 4], born := 3 }] 4)) = .ok () (w.alloc (.map #[{ key := .int .i64 1, val := .agg #[.int .i64 0, .int .i64 0, .int .i64 0, .int .i64 0], born := 0 }, { key := .int .i64 2, val := .agg #[.int .i64 7, .int .i64 7, .int .i64 16, .int .i64 0], born := 1 }, { key := .int .i64 3, val := .agg #[.int .i64 7, .int .i64 0, .int .i64 16, .int .i64 0], born := 2 }, { key := .int .i64 4, val := .agg #[.int .i64 0, .int .i64 0, .int .i64 0, .int .i64 4], born := 3 }, { key := .int .i64 5, val := .agg #[.int .i64 7, .int .i64 0, .int .i64 1, .int .i64 4], born := 4 }] 5)) := ins_new w #[{ key := .int .i64 1, val := .agg #[.int .i64 0, .int .i64 0, .int .i64 0, .int .i64 0], born := 0 }, { key := .int .i64 2, val := .agg #[.int .i64 7, .int .i64 7, .int .i64 16, .int .i64 0], born := 1 }, { key := .int .i64 3, val := .agg #[.int .i64 7, .int .i64 0, .int .i64 16, .int .i64 0], born := 2 }, { key := .int .i64 4, val := .agg #[.int .i64 0, .int .i64 0, .int .i64 0, .int .i64 4], born := 3 }] 4 5 (.agg #[.int .i64 7, .int .i64 0, .int .i64 1, .int .i64 4]) rfl
  have h6 : (Instr.mapUpdate 65 (.map (some w.heap.size)) (.int .i64 6) (.agg #[.int .i64 0, .int .i64 0, .int .i64 0, .int .i64 1])).run Try.prog (w.alloc (.map #[{ key := .int .i64 1, val := .agg #[.int .i64 0, .int .i64 0, .int .i64 0, .int .i64 0], born := 0 }, { key := .int .i64 2, val := .agg #[.int .i64 7, .int .i64 7, .int .i64 16, .int .i64 0], born := 1 }, { key := .int .i64 3, val := .agg #[.int .i64 7, .int .i64 0, .int .i64 16, .int .i64 0], born := 2 }, { key := .int .i64 4, val := .agg #[.int .i64 0, .int .i64 0, .int .i64 0, .int .i64 4], born := 3 }, { key := .int .i64 5, val := .agg #[.int .i64 7, .int .i64 0, .int .i64 1, .int .i64 4], born := 4 }] 5)) = .ok () (w.alloc (.map #[{ key := .int .i64 1, val := .agg #[.int .i64 0, .int .i64 0, .int .i64 0, .int .i64 0], born := 0 }, { key := .int .i64 2, val := .agg #[.int .i64 7, .int .i64 7, .int .i64 16, .int .i64 0], born := 1 }, { key := .int .i64 3, val := .agg #[.int .i64 7, .int .i64 0, .int .i64 16, .int .i64 0], born := 2 }, { key := .int .i64 4, val := .agg #[.int .i64 0, .int .i64 0, .int .i64 0, .int .i64 4], born := 3 }, { key := .int .i64 5, val := .agg #[.int .i64 7, .int .i64 0, .int .i64 1, .int .i64 4], born := 4 }, { key := .int .i64 6, val := .agg #[.int .i64 0, .int .i64 0, .int .i64 0, .int .i64 1], born := 5 }] 6)) := ins_new w #[{ key := .int .i64 1, val := .agg #[.int .i64 0, .int .i64 0, .int .i64 0, .int .i64 0], born := 0 }, { key := .int .i64 2, val := .agg #[.int .i64 7, .int .i64 7, .int .i64 16, .int .i64 0], born := 1 }, { key := .int .i64 3, val := .agg #[.int .i64 7, .int .i64 0, .int .i64 16, .int .i64 0], born := 2 }, { key := .int .i64 4, val := .agg #[.int .i64 0, .int .i64 0, .int .i64 0, .int .i64 4], born := 3 }, { key := .int .i64 5, val := .agg #[.int .i64 7, .int .i64 0, .int .i64 1, .int .i64 4], born := 4 }] 5 6 (.agg #[.int .i64 0, .int .i64 0, .int .i64 0, .int .i64 1]) rfl
  go_enter Try.func32, Try.ntmps32
  go_wp2
  go_ret
  exact ⟨rfl, rfl⟩

/-- what the map holds for a kind -/
def kA (k : Int) : Int := if k = 2 ∨ k = 3 ∨ k = 5 then 7 else 0
def kB (k : Int) : Int := if k = 2 then 7 else 0
def kU (k : Int) : Int := if k = 2 ∨ k = 3 then 16 else if k = 5 then 1 else 0
def kN (k : Int) : Int := if k = 4 ∨ k = 5 then 4 else if k = 6 then 1 else 0
def kK (k : Int) : Bool := decide (1 ≤ k ∧ k ≤ 6)

theorem find_forms (k : Int) : Instr.findNow (.int .i64) (.int .i64 k) formsM.toList 0 = some (if 1 ≤ k ∧ k ≤ 6 then some ((k - 1).toNat, .agg #[.int .i64 (kA k), .int .i64 (kB k), .int .i64 (kU k), .int .i64 (kN k)]) else none) := by
  by_cases h : 1 ≤ k ∧ k ≤ 6
  · rw [if_pos h]
    obtain rfl | rfl | rfl | rfl | rfl | rfl : k = 1 ∨ k = 2 ∨ k = 3 ∨ k = 4 ∨ k = 5 ∨ k = 6 := by omega
    all_goals rfl
  · rw [if_neg h]
    have e1 : (k == 1) = false := by simp; omega
    have e2 : (k == 2) = false := by simp; omega
    have e3 : (k == 3) = false := by simp; omega
    have e4 : (k == 4) = false := by simp; omega
    have e5 : (k == 5) = false := by simp; omega
    have e6 : (k == 6) = false := by simp; omega
    simp [formsM, ent, Instr.findNow, Instr.sameNow, e1, e2, e3, e4, e5, e6]

theorem zero_form (w : World) : (zeroValue 57).run Try.prog w = .ok (.agg #[.int .i64 0, .int .i64 0, .int .i64 0, .int .i64 0]) w := by kernel_rfl

theorem look_forms (w : World) (k : Int) :
    (Instr.lookup 65 (.map (some w.heap.size)) (.int .i64 k) true).run Try.prog (w.alloc (.map formsM 6)) = .ok (.tuple #[.agg #[.int .i64 (kA k), .int .i64 (kB k), .int .i64 (kU k), .int .i64 (kN k)], .bool (kK k)]) (w.alloc (.map formsM 6)) := by
  have hb : (w.alloc (.map formsM 6)).heap[w.heap.size]? = some (.map formsM 6) := heap_alloc_new w _
  have hk : MapKept.IsKey (.int .i64) (.int .i64 k) := rfl
  have hf := find_forms k
  by_cases h : 1 ≤ k ∧ k ≤ 6
  · rw [if_pos h] at hf
    simp [Instr.lookup, run_underlying Try.underlying65, MapKept.run_getObj_map hb, MapKept.run_checkKey Try.underlying3 hk, MapKept.run_findKey Try.underlying3 hf, Result.andThen, kK, h]
  · rw [if_neg h] at hf
    have hz : kA k = 0 ∧ kB k = 0 ∧ kU k = 0 ∧ kN k = 0 := by
      unfold kA kB kU kN
      rw [if_neg (by omega), if_neg (by omega), if_neg (by omega), if_neg (by omega), if_neg (by omega), if_neg (by omega)]
      exact ⟨rfl, rfl, rfl, rfl⟩
    have hK : kK k = false := decide_eq_false h
    simp [Instr.lookup, run_underlying Try.underlying65, MapKept.run_getObj_map hb, MapKept.run_checkKey Try.underlying3 hk, MapKept.run_findKey Try.underlying3 hf, Result.andThen, hK, hz]

theorem kd_form (op : Int) : kA (kd op) = fA op ∧ kB (kd op) = fB op ∧ kU (kd op) = fU op ∧ kN (kd op) = fN op ∧ kK (kd op) = fK op := by
  by_cases h : 0 ≤ op ∧ op ≤ 23
  · obtain ⟨n, rfl⟩ : ∃ n : Nat, op = n := ⟨op.toNat, by omega⟩
    have hn : n < 24 := by omega
    clear h
    revert n
    decide
  · have hd : kd op = 0 := by
      unfold kd
      rw [if_neg (by omega), if_neg (by omega), if_neg (by omega), if_neg (by omega), if_neg (by omega), if_neg (by omega)]
    have hk : fK op = false := decide_eq_false h
    rw [hd, hk]
    unfold fA fB fU fN
    rw [if_neg (by omega), if_neg (by omega), if_neg (by omega), if_neg (by omega), if_neg (by omega), if_neg (by omega)]
    decide

theorem formOf_k (op k a b u n : Int) (ok : Bool) (c : ∀ w, Calls Try.prog 33 #[.int .i64 op] w fun e w' => e = .returned (.int .i64 k) ∧ w = w')
    (hl : ∀ w : World, (Instr.lookup 65 (.map (some w.heap.size)) (.int .i64 k) true).run Try.prog (w.alloc (.map formsM 6)) = .ok (.tuple #[.agg #[.int .i64 a, .int .i64 b, .int .i64 u, .int .i64 n], .bool ok]) (w.alloc (.map formsM 6))) (w : World) :
    Calls Try.prog 25 #[.int .i64 op] w fun e w' => e = .returned (.tuple #[.agg #[.int .i64 a, .int .i64 b, .int .i64 u, .int .i64 n], .bool ok]) ∧ Below w.heap.size w w' := by
  have C := Lib.hid c; clear c
  have hl1 := hl (w.alloc (.cells #[.int .i64 0, .int .i64 0, .int .i64 0, .int .i64 0] 57))
  rw [show (w.alloc (.cells #[.int .i64 0, .int .i64 0, .int .i64 0, .int .i64 0] 57)).heap.size = w.heap.size + 1 by simp] at hl1
  clear hl
  go_enter Try.func25, Try.ntmps25
  go_wp2_with fail
  refine (forms_any _).mono ?_; rintro e w' ⟨rfl, rfl⟩
  go_wp2_with fail
  refine (C.out _).mono ?_; rintro e w' ⟨rfl, rfl⟩
  go_wp2_with fail
  refine bodyPost_ret (v := .tuple #[.agg #[.int .i64 a, .int .i64 b, .int .i64 u, .int .i64 n], .bool ok]) (by simp [results, Try.results25, go_sem]) rfl ⟨rfl, ?_⟩
  exact bel_al (bel_al (bel_al (Below.refl _ _) _) _) _

/-- what formOf answers -/
theorem formOf_any (op : Int) (w : World) :
    Calls Try.prog 25 #[.int .i64 op] w fun e w' => e = .returned (.tuple #[.agg #[.int .i64 (fA op), .int .i64 (fB op), .int .i64 (fU op), .int .i64 (fN op)], .bool (fK op)]) ∧ Below w.heap.size w w' := by
  obtain ⟨e1, e2, e3, e4, e5⟩ := kd_form op
  have h := fun w => look_forms w (kd op)
  rw [e1, e2, e3, e4, e5] at h
  exact formOf_k op _ _ _ _ _ _ (kindOf_any op) h w

theorem size_any (a b u n : Int) (h0 : 0 ≤ n) (h1 : n ≤ 4) (w : World) :
    Calls Try.prog 36 #[.agg #[.int .i64 a, .int .i64 b, .int .i64 u, .int .i64 n]] w fun e w' => e = .returned (.int .i64 (szV u n)) ∧ Below w.heap.size w w' := by
  by_cases hu : 0 < u
  · have e : szV u n = 2 + n := if_pos hu
    rw [e]; clear e
    go_enter Try.func36, Try.ntmps36
    go_wp2
    go_ret
    exact ⟨rfl, bel_al (Below.refl _ _) _⟩
  · have e : szV u n = 1 + n := if_neg hu
    rw [e]; clear e
    go_enter Try.func36, Try.ntmps36
    go_wp2
    go_ret
    exact ⟨rfl, bel_al (Below.refl _ _) _⟩

def fitsM (fa fb m a b imm : Int) : Bool := decide (0 ≤ a ∧ a ≤ fa ∧ 0 ≤ b ∧ b ≤ fb ∧ imm < m)

theorem fits_n (n : Nat) (m fa fb op a b imm : Int) (hm : (n = 0 ∧ m = 1) ∨ (n = 1 ∧ m = 256) ∨ (n = 4 ∧ m = 4294967296)) (u : Int) (h0 : 0 ≤ imm) (h1 : imm < 4294967296) (w : World) :
    Calls Try.prog 26 #[.agg #[.int .i64 fa, .int .i64 fb, .int .i64 u, .int .i64 n], .agg #[.int .i64 op, .int .i64 a, .int .i64 b, .int .u32 imm]] w
      fun e w' => e = .returned (.bool (fitsM fa fb m a b imm)) ∧ Below w.heap.size w w' := by
  have hc : (0 ≤ a ∧ a ≤ fa ∧ 0 ≤ b ∧ b ≤ fb) ∨ (0 ≤ a ∧ a ≤ fa ∧ 0 ≤ b ∧ ¬ b ≤ fb) ∨ (0 ≤ a ∧ a ≤ fa ∧ ¬ 0 ≤ b) ∨ (0 ≤ a ∧ ¬ a ≤ fa) ∨ ¬ 0 ≤ a := by omega
  rcases hm with ⟨rfl, rfl⟩ | ⟨rfl, rfl⟩ | ⟨rfl, rfl⟩ <;> rcases hc with ⟨c1, c2, c3, c4⟩ | ⟨c1, c2, c3, c4⟩ | ⟨c1, c2, c3⟩ | ⟨c1, c2⟩ | c1
  all_goals
    go_enter Try.func26, Try.ntmps26
    go_wp2
    go_ret
    exact ⟨ret_bool (by unfold fitsM; first | (rw [Bool.eq_iff_iff, decide_eq_true_iff, decide_eq_true_iff]; omega) | (symm; rw [decide_eq_false_iff_not]; omega)), bel_al (bel_al (Below.refl _ _) _) _⟩

theorem fits_any (fa fb fu fn op a b imm : Int) (F : Form fa fb fu fn) (h0 : 0 ≤ imm) (h1 : imm < 4294967296) (w : World) :
    Calls Try.prog 26 #[.agg #[.int .i64 fa, .int .i64 fb, .int .i64 fu, .int .i64 fn], .agg #[.int .i64 op, .int .i64 a, .int .i64 b, .int .u32 imm]] w
      fun e w' => e = .returned (.bool (fitsB fa fb fn a b imm)) ∧ Below w.heap.size w w' := by
  have hn : fn = 0 ∨ fn = 1 ∨ fn = 4 := by unfold Form at F; omega
  rcases hn with rfl | rfl | rfl
  · exact fits_n 0 1 fa fb op a b imm (by omega) fu h0 h1 w
  · exact fits_n 1 256 fa fb op a b imm (by omega) fu h0 h1 w
  · exact fits_n 4 4294967296 fa fb op a b imm (by omega) fu h0 h1 w

theorem Right_any (op a b imm : Int) (h0 : 0 ≤ imm) (h1 : imm < 4294967296) (w : World) :
    Calls Try.prog 23 #[.agg #[.int .i64 op, .int .i64 a, .int .i64 b, .int .u32 imm]] w fun e w' => e = .returned (.bool (rightB op a b imm)) ∧ Below w.heap.size w w' := by
  have hf := formOf_any op
  cases hk : fK op
  · rw [show rightB op a b imm = false by unfold rightB; rw [hk]; rfl]
    rw [hk] at hf
    have C := Lib.hid hf; clear hf hk
    go_enter Try.func23, Try.ntmps23
    go_wp2_with fail
    refine (C.out _).mono ?_; rintro e w1 ⟨rfl, hb1⟩
    go_wp2_with fail
    go_ret
    exact ⟨rfl, bel_al (bel_then (bel_al (Below.refl _ _) _) hb1) _⟩
  · rw [show rightB op a b imm = fitsB (fA op) (fB op) (fN op) a b imm by unfold rightB; rw [hk]; rfl]
    rw [hk] at hf
    have D := Lib.hid (fits_any (fA op) (fB op) (fU op) (fN op) op a b imm (form_of op) h0 h1)
    have C := Lib.hid hf; clear hf hk
    go_enter Try.func23, Try.ntmps23
    go_wp2_with fail
    refine (C.out _).mono ?_; rintro e w1 ⟨rfl, hb1⟩
    obtain ⟨hc, hf⟩ := bcell hb1
    have hz : w.heap.size < w1.heap.size := by have := hb1.size; simp at this; omega
    go_wp2_with fail
    refine (D.out _).mono ?_; rintro e w2 ⟨rfl, hb2⟩
    go_wp2_with fail
    go_ret
    exact ⟨rfl, bel_then (bel_al (bel_then (bel_al (Below.refl _ _) _) hb1) _) hb2⟩
end Go.Proofs.Ytojpcijfipdiaaa
