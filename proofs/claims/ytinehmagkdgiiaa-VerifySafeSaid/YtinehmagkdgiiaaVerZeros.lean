/- append(x, make([]byte, k)...) onto a row of the call's own: as a string of k bytes 0. -/
import Derived.Test.YtinehmagkdgiiaaScP
import Derived.Lib.AppendZeros
import Derived.Lib.AppendStr
namespace Go.Proofs.Ytinehmagkdgiiaa.Mm
open Go.ChangeShapes Go.WideShapes Go.ChangeAt Go.RowKit
set_option linter.unusedVariables false

theorem zero_cells (k : Nat) : Builtin.zeroCells #[Value.int .u8 0] k = (List.replicate k (Value.int .u8 0)).toArray := by
  unfold Builtin.zeroCells
  apply Array.ext
  · simp
  · intro i h1 h2
    simp [Nat.mod_one]
theorem next_le {n o : Nat} (h : o < n) (hn : n ≤ 1000000) : Builtin.nextslicecap n o ≤ 281474976710656 := by
  unfold Builtin.nextslicecap
  split
  · omega
  · split
    · omega
    · simp only [Builtin.growBy]
      repeat' split
      all_goals omega
section
variable {P : Program} (w : World)
theorem run_zeros (t u tn ty e : TypeId) (i : TypeInfo) (kn : IntKind) (ht : P.underlying t = some (.slice e)) (hu : P.underlying u = some .string) (htn : P.underlying tn = some (.int kn)) (hi : P.info? e = some i) (hz : i.zero = some (.int .u8 0)) (hsize : i.size = 1) (hby : i.bytes = 1)
    (base : Option Addr) (sLen sCap k : Nat) (h0 : 0 < k) (hlen : sLen + k ≤ 1000000) (S : ByteArray) (hS : S = strOfNums (List.replicate k 0)) :
    (Builtin.append_ #[t, tn] ty #[.slice base sLen sCap, .int .i64 k]).run P w = (Builtin.append_ #[t, u] ty #[.slice base sLen sCap, .string S]).run P w := by
  have hsz : S.size = k := by rw [hS, strOfNums_size, List.length_replicate]
  have hcs : Lib.strCells S = List.replicate k (Value.int .u8 0) := by
    rw [hS, str_cells, Go.Proofs.Ytinehmagkdgiiaa.nums_str _ (fun x hx => by rw [List.eq_of_mem_replicate hx]; decide), List.map_replicate]
  have hf : ∀ w, (Builtin.firstCells 1 k (.string S)).run P w = .ok (List.replicate k (Value.int .u8 0)).toArray w := fun w => by
    have := Lib.run_firstCells_string (P := P) w 1 S
    rwa [hsz, hcs] at this
  have hw : IntKind.i64.wrap (k : Int) = k := IntWalk.i64_in _ (by omega)
  have hneg : ¬ ((k : Int) < 0) := by omega
  have h48i : ¬ (281474976710656 < (k : Int)) := by omega
  have h63 : ¬ (9223372036854775807 < ((sLen : Int) + (k : Int))) := by omega
  have hc : (Value.int .u8 0).cells = #[Value.int .u8 0] := rfl
  have hk : k ≠ 0 := by omega
  by_cases hroom : sLen + k ≤ sCap
  · simp [Builtin.append_, run_underlying ht, run_underlying hu, run_underlying htn, sizeOf, typeInfo, zeroValue, hi, hz, hsize, hby, asInt, asIntOf, Builtin.lenOf, hroom, hf, hsz, hw, hneg, h48i, hk, zero_cells, hc]
  · have hnx : ¬ (281474976710656 < Builtin.nextslicecap (sLen + k) sCap) := by have := next_le (n := sLen + k) (o := sCap) (by omega) hlen; omega
    simp [Builtin.append_, run_underlying ht, run_underlying hu, run_underlying htn, sizeOf, typeInfo, zeroValue, hi, hz, hsize, hby, asInt, asIntOf, Builtin.lenOf, hroom, hf, hsz, hw, hneg, h48i, h63, hnx, hk, zero_cells, hc]
end
theorem append_zeros {w : World} {ops : Array Oper} {rest : List Oper} {o : Oper} {a : Act} {Q : Exit → Act → World → Prop} (hgd : o.guard = none) (s x : Operand)
    (ho : o.op = .call { callee := .builtin .append, args := #[s, x], argTypes := #[22, 3] })
    (base : Nat) (v : Value) (n : Nat) (L : List Int) (hs : a.eval s = v) (hown : w.ownsRow base 5 1 v n (L.map (Value.int .u8))) (hL : Bytes L)
    (k : Nat) (hx : a.eval x = .int .i64 k) (h0 : 0 < k) (n' : Nat) (hn' : n' = n + k) (hlen : n + k ≤ 1000000) (hbase : base ≤ w.heap.size)
    (h : ∀ A' cap' w', w'.ownsRow base 5 1 (.slice A' n' cap') n' ((L ++ List.replicate k 0).map (Value.int .u8)) → RowAt w' A' cap' (L ++ List.replicate k 0) → Below base w w' → wpList Try.prog ops Q rest (a.put o.dst (.slice A' n' cap')) w') :
    wpList Try.prog ops Q (o :: rest) a w := by
  subst hn'
  obtain ⟨u0, hu0, hz0, hz1, hz2⟩ := info_parts u8_info
  have hM : Bytes (List.replicate k (0 : Int)) := fun x hx => by rw [List.eq_of_mem_replicate hx]; decide
  have hz : (strOfNums (List.replicate k 0)).size = k := by rw [strOfNums_size, List.length_replicate]
  obtain ⟨A1, c1, rfl, _, _⟩ := row_of_own hown hL
  obtain ⟨v', w', hr, hown', hg, _⟩ := Lib.run_append_own_string (P := Try.prog) w base 22 9 o.type 5 u0 Try.underlying22 Try.underlying9 hu0 hz0 hz1 hz2 (.slice A1 n c1) n (L.map (Value.int .u8)) hown (strOfNums (List.replicate k 0)) (by rw [hz]; unfold maxLen; omega) (by rw [hz]; omega) hbase
  rw [← run_zeros w 22 9 3 o.type 5 u0 .i64 Try.underlying22 Try.underlying9 Try.underlying3 hu0 hz0 hz1 hz2 A1 n c1 k h0 (by omega) _ rfl] at hr
  rw [str_cells, Go.Proofs.Ytinehmagkdgiiaa.nums_str _ hM, ← List.map_append, hz] at hown'
  obtain ⟨A', cap', rfl, _, hrow⟩ := row_of_own hown' (app_byte hL hM)
  exact Lib.wpList_append_run w hgd s x 22 3 ho _ _ hs hx _ w' hr (h A' cap' w' hown' hrow ((Below.refl base w).grown hg hbase (fun k hk => (hown.lt k hk).1)))
end Go.Proofs.Ytinehmagkdgiiaa.Mm
