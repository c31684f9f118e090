/- Processors compared with '==', as statements do. -/
import Derived.Test.YthmcddecgdegdaaStepLaw
import Derived.ChangeKeysEq
namespace Go.Proofs.Ythmcddecgdegdaa.Mm
open Go.ChangeShapes Go.WideShapes Go.ChangeAt Go.RowKit
set_option linter.unusedVariables false

theorem part_u32 (xs : Array Value) (i : Nat) (v : Int) (h : xs[i]? = some (.int .u32 v)) (w : World) : (part 35 xs i).run Try.prog w = .ok (.int .u32 v) w := by
  simp [part, isAgg, run_underlying Try.underlying35, h]
theorem eq_item (xs ys : Array Value) (i : Nat) (is : List Nat) (a b : Int) (hx : xs[i]? = some (.int .u32 a)) (hy : ys[i]? = some (.int .u32 b)) (w : World) :
    (Op.eqItems 9998 35 1 xs ys (i :: is)).run Try.prog w = (if a = b then (Op.eqItems 9998 35 1 xs ys is).run Try.prog w else .ok false w) := by
  simp only [Op.eqItems, Sem.run_bind, Nat.mul_one, part_u32 xs i a hx w, part_u32 ys i b hy w, Result.andThen_ok, run_equalIn_int w 9997 35 .u32 .u32 a b Try.underlying35]
  by_cases h : a = b
  · subst h; simp
  · simp [h]
theorem eq8 (t0 t1 t2 t3 t4 t5 t6 t7 : Int) (w : World) :
    (Op.equalIn 9999 52 (.agg #[.int .u32 t0, .int .u32 t1, .int .u32 t2, .int .u32 t3, .int .u32 t4, .int .u32 t5, .int .u32 t6, .int .u32 t7]) (.agg #[.int .u32 t0, .int .u32 t1, .int .u32 t2, .int .u32 t3, .int .u32 t4, .int .u32 t5, .int .u32 t6, .int .u32 t7])).run Try.prog w = .ok true w := by
  obtain ⟨i, hi⟩ : ∃ i, Try.prog.info? 35 = some i := Option.isSome_iff_exists.1 (by kernel_rfl)
  have hc : Try.prog.cellsOf 35 = 1 := by kernel_rfl
  rw [run_equalIn_array w 9998 _ _ Try.underlying52 hi, hc]
  rw [show List.range 8 = [0, 1, 2, 3, 4, 5, 6, 7] from rfl]
  rw [eq_item _ _ 0 _ t0 t0 rfl rfl, if_pos rfl, eq_item _ _ 1 _ t1 t1 rfl rfl, if_pos rfl, eq_item _ _ 2 _ t2 t2 rfl rfl, if_pos rfl, eq_item _ _ 3 _ t3 t3 rfl rfl, if_pos rfl, eq_item _ _ 4 _ t4 t4 rfl rfl, if_pos rfl, eq_item _ _ 5 _ t5 t5 rfl rfl, if_pos rfl, eq_item _ _ 6 _ t6 t6 rfl rfl, if_pos rfl, eq_item _ _ 7 _ t7 t7 rfl rfl, if_pos rfl]
  rfl
end Go.Proofs.Ythmcddecgdegdaa.Mm
