/- What Text of the document's own answers comes to: the number in decimal. -/
import Derived.Test.YtjfhoaahohinhaaWordWalks
import Derived.Test.YtjfhoaahohinhaaDec
import Derived.Lib.Hide
namespace Go.Proofs.Ytjfhoaahohinhaa
open Go.ChangeShapes Go.WideShapes Go.ChangeAt Go.RowKit
set_option linter.unusedVariables false

def RTextRel (w : World) (N : Nat) (a b : Value) (w' : World) : Prop :=
  ∃ (m : Nat) (L : List Int), a = .int .i64 (m : Int) ∧ m ≤ N ∧ b = .string (strOfNums L) ∧ L.length + m ≤ N ∧ decL N = decL m ++ L ∧ Below w.heap.size w w'

theorem v_int'' {k : IntKind} {a b : Int} (h : a = b) : Value.int k a = .int k b := by rw [h]
theorem one_conv (W : World) (x : Int) :
    (convert 26 9 (.slice (some ⟨W.heap.size, 0, none⟩) 1 1)).run Try.prog (W.alloc (.cells #[.int .u8 x] 5)) = .ok (.string (strOfNums [x])) (W.alloc (.cells #[.int .u8 x] 5)) := by
  refine run_convert_bytes_arg _ 26 5 Try.underlying26 Try.underlying5 W.heap.size 0 1 1 [x] rfl (fun i hi => ?_) _ Try.underlying9
  obtain rfl : i = 0 := by omega
  simp [go_sem]
theorem str_app (xs ys : List Int) : strOfNums xs ++ strOfNums ys = strOfNums (xs ++ ys) := by
  unfold strOfNums
  rw [ByteArray.mk_append_mk, List.map_append]
theorem ret_str {a b : List Int} (h : a = b) : Ending.returned (.string (strOfNums a)) = .returned (.string (strOfNums b)) := by rw [h]
theorem ret_str2 {a : List Int} {b : ByteArray} (h : b = strOfNums a) : Ending.returned (.string b) = .returned (.string (strOfNums a)) := by rw [h]
theorem v_str {a b : ByteArray} (h : a = b) : Value.string a = .string b := by rw [h]

theorem rtext_pos (N : Nat) (hN : N ≤ 4294967296) (w : World) :
    Calls Try.prog 29 #[.int .i64 N] w fun e w' => e = .returned (.string (strOfNums (decL N))) ∧ Below w.heap.size w w' := by
  have hd : decide ((N : Int) < 0) = false := decide_eq_false (by omega)
  go_enter Try.func29, Try.ntmps29
  go_wp2_with fail
  go_loopw [0, 3] (fun a b w' => RTextRel w N a b w') (fun a _ _ => (intOf a).toNat)
  case atStart => exact ⟨N, [], rfl, Nat.le_refl _, rfl, by simp, by simp, Below.refl _ _⟩
  case round =>
    obtain ⟨m, L, rfl, hm, rfl, hL, hD, hB⟩ := hrel
    have hsz : (strOfNums L).size ≤ 4294967296 := by rw [strOfNums_size]; omega
    have hs1 : ∀ x : Int, (strOfNums [x]).size = 1 := fun x => by rw [strOfNums_size]; rfl
    by_cases hc : 9 < m
    · have hcv := one_conv wr (48 + (m : Int) % 10)
      have hdec := decL_big m (by omega)
      rw [hdec] at hD
      have HD := Lib.hid hD; clear hD hdec
      have h9 : decide (9 < (m : Int)) = true := decide_eq_true (by omega)
      have hs1' := hs1 (48 + (m : Int) % 10)
      clear hs1
      go_wp2
      go_roundw
      case rel =>
        refine ⟨m / 10, (48 + ((m % 10 : Nat) : Int)) :: L, v_int'' (by omega), by omega, v_str ?_, by simp; omega, ?_, hB.trans (((Below.refl _ _).alloc (Nat.le_refl _) _).mono hB.size)⟩
        · rw [str_app]; rfl
        · rw [HD.out]; simp
      case measure => simp [intOf]; omega
    · have hcv := one_conv wr (48 + (m : Int))
      have hdec := decL_small m (by omega)
      rw [hdec] at hD
      have HD := Lib.hid hD; clear hD hdec
      have h9 : decide (9 < (m : Int)) = false := decide_eq_false (by omega)
      have hs1' := hs1 (48 + (m : Int))
      clear hs1
      go_wp2
      go_ret
      exact ⟨ret_str2 (by rw [HD.out, str_app]), hB.trans (((Below.refl _ _).alloc (Nat.le_refl _) _).mono hB.size)⟩

theorem rtext_any (n : Int) (h : -2147483648 ≤ n ∧ n ≤ 2147483647) (w : World) :
    Calls Try.prog 29 #[.int .i64 n] w fun e w' => e = .returned (.string (strOfNums (txtL n))) ∧ Below w.heap.size w w' := by
  by_cases hn : n < 0
  · have e2 : txtL n = 45 :: decL n.natAbs := by unfold txtL; rw [if_pos hn]
    have c := rtext_pos n.natAbs (by omega)
    have e : ((n.natAbs : Nat) : Int) = -n := by omega
    rw [e] at c
    rw [e2]
    have C := Lib.hid c; clear c
    have hlen := decL_len n.natAbs 9 (by omega)
    have hsz : (strOfNums (decL n.natAbs)).size ≤ 4294967296 := by rw [strOfNums_size]; omega
    clear e e2
    have hN : Hid (strOfNums [45] ++ strOfNums (decL n.natAbs) = strOfNums (45 :: decL n.natAbs)) := str_app _ _
    generalize decL n.natAbs = D at *
    go_enter Try.func29, Try.ntmps29
    go_wp2_with fail
    refine (C.out _).mono ?_; rintro e w' ⟨rfl, hB⟩
    go_wp2_with fail
    go_ret
    exact ⟨ret_str2 hN.out, hB⟩
  · have e2 : txtL n = decL n.natAbs := by unfold txtL; rw [if_neg hn]
    have e : ((n.natAbs : Nat) : Int) = n := by omega
    have c := rtext_pos n.natAbs (by omega) w
    rw [e] at c
    rw [e2]; exact c
end Go.Proofs.Ytjfhoaahohinhaa
