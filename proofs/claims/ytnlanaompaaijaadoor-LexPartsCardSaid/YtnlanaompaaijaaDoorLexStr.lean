/- Texts put together; what Read answers, in the forms that the statements use. -/
import Derived.Test.YtnlanaompaaijaaDoorLexAwake
namespace Go.Proofs.YtnlanaompaaijaaDoor.Mm
open Go.ChangeShapes Go.WideShapes Go.ChangeAt Go.RowKit
set_option linter.unusedVariables false

theorem strB_app (a b : Bs) : strB a ++ strB b = strB (a ++ b) := by
  apply ByteArray.ext
  simp [strB, ByteArray.data_append]
theorem strB_one (s : ByteArray) (k : Nat) (h : k < s.size) : s.extract k (k + 1) = strB [s[k]] := by
  apply ByteArray.ext
  apply Array.toList_inj.1
  have h2 : k < s.data.toList.length := by rw [size_list]; exact h
  have e : s.data.toList[k] = s[k] := by rw [Array.getElem_toList]; rfl
  show (s.extract k (k + 1)).data.toList = [s[k]]
  simp only [ByteArray.data_extract, Array.toList_extract, List.extract_eq_take_drop]
  rw [show k + 1 - k = 1 by omega, List.take_one, List.head?_drop, List.getElem?_eq_getElem h2, e]
  rfl
theorem take_one_more (s : ByteArray) (k : Nat) (h : k < s.size) : s.data.toList.take (k + 1) = s.data.toList.take k ++ [s[k]] := by
  have h2 : k < s.data.toList.length := by rw [size_list]; exact h
  have e : s.data.toList[k] = s[k] := by rw [Array.getElem_toList]; rfl
  rw [List.take_succ_eq_append_getElem h2, e]
theorem readE_few {l : Bs} (h : l.length ≤ 4000) : readE l = match readL l with | .ok ps => .ok ps | .error k => .error (k, 2) := by
  unfold readE; rw [if_neg (by omega)]; cases readL l <;> rfl
/-- Read of a text of at most 4000 bytes -/
def ReadQ (w : World) (l : Bs) (e : Ending) (w' : World) : Prop :=
  match readL l with
  | .ok ps => ∃ A cap, e = .returned (.tuple #[.slice A ps.length cap, .int .i64 0, .int .i64 0]) ∧ PcRow w' A cap ps ∧ Below w.heap.size w w'
  | .error k => e = .returned (.tuple #[.slice none 0 0, .int .i64 k, .int .i64 2]) ∧ Below w.heap.size w w'
theorem read_few (s : ByteArray) (hs : s.size ≤ 4000) (w : World) (hE : ErrV w) : Calls Tryd.prog 8 #[.string s] w (ReadQ w s.data.toList) := by
  refine (read_any s (by omega) w hE).mono fun e w' h => ?_
  unfold ReadP at h
  unfold ReadQ
  rw [readE_few (by rw [size_list]; exact hs)] at h
  revert h
  cases readL s.data.toList <;> exact id
theorem quiet_eqL {P : Program} {f : FuncId} {args : Array Value} {w : World} {n : Nat} {v : Value}
    (h : Calls P f args (w.drewN n) fun e w' => e = .returned v ∧ w.drewN n = w') : Calls P f args (w.drewN n) fun e w'' => e = .returned v ∧ ∃ m, w'' = w.drewN m :=
  h.mono fun _ _ ⟨he, hm⟩ => ⟨he, n, hm.symm⟩
end Go.Proofs.YtnlanaompaaijaaDoor.Mm
