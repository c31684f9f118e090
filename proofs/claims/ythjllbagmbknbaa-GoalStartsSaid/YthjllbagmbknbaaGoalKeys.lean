/- The sorted keys of a map of places: a new slice that holds them, rising. -/
import Derived.Test.YthjllbagmbknbaaGoalLay
import Derived.Test.YthjllbagmbknbaaRuA
import Derived.Lib.SlKeysI
namespace Go.Proofs.Ythjllbagmbknbaa.Mm
open Go.ChangeShapes Go.WideShapes Go.ChangeAt Go.RowKit
set_option linter.unusedVariables false

theorem insert_perm {H : Type} (x : Lit × DataW H) (l : List (Lit × DataW H)) : (DataW.insert x l).Perm (x :: l) := by
  induction l with
  | nil => exact List.Perm.refl _
  | cons y t ih =>
    unfold DataW.insert
    split
    · exact List.Perm.refl _
    · exact (List.Perm.cons y ih).trans (List.Perm.swap x y t)
theorem sorted_perm {H : Type} (l : List (Lit × DataW H)) : (l.foldr DataW.insert []).Perm l := by
  induction l with
  | nil => exact List.Perm.refl _
  | cons x t ih => exact (insert_perm x _).trans (List.Perm.cons x ih)

/-- what each entry's value reads as: nothing is asked of it -/
def anyR : Value → Option (DataW Unit × List MemPlace) := fun _ => some (.nil, [])
theorem key_of {P : Program} {kt : TypeId} (hk : P.underlying kt = some (.int .i64)) (k : Nat) (h : k ≤ 100000) : keyOf P kt (.int .i64 (k : Int)) = some (.int .i64 (k : Int)) := by
  have : (Lit.int .i64 (k : Int)).wf = true := by simp only [Lit.wf, show IntKind.i64.min = -9223372036854775808 by decide, show IntKind.i64.max = 9223372036854775807 by decide, Bool.and_eq_true, decide_eq_true_eq]; omega
  simp [keyOf, hk, mapKey, this]
theorem SetAt.owns {P : Program} {kt : TypeId} {w : World} {b : Nat} {K : List Nat} (h : SetAt w b K) (hk : P.underlying kt = some (.int .i64)) (hK : ∀ k ∈ K, k ≤ 100000) (hl : K.length ≤ 100000) :
    ∃ D : DataW Unit, w.ownsMap P kt anyR b K.length D ∧ Maps.size D = K.length ∧ (intKeys D).Perm (K.map fun k : Nat => (k : Int)) := by
  obtain ⟨es, c, h1, h2, hst⟩ := h
  have hlen : es.size = K.length := by
    have := congrArg List.length h2
    simpa using this
  have hrd : ∀ x ∈ es.toList, ∃ k ∈ K, WideElems.rd P kt anyR x = some (.int .i64 (k : Int), .nil) := fun x hx => by
    have : (x.key, x.val) ∈ es.toList.map (fun e => (e.key, e.val)) := List.mem_map.2 ⟨x, hx, rfl⟩
    rw [h2] at this
    obtain ⟨k, hk1, hk2⟩ := List.mem_map.1 this
    refine ⟨k, hk1, ?_⟩
    have hkey : x.key = .int .i64 (k : Int) := by have := congrArg Prod.fst hk2; simpa using this.symm
    unfold WideElems.rd
    rw [hkey, key_of hk k (hK k hk1)]
    rfl
  have hmap : (es.toList.map (WideElems.rg P kt anyR)).map (fun p => Go.intOf p.1) = K.map fun k : Nat => (k : Int) := by
    have h3 : es.toList.map (·.key) = K.map fun k : Nat => Value.int .i64 (k : Int) := by
      have := congrArg (List.map Prod.fst) h2
      simpa [List.map_map, Function.comp_def] using this
    have h4 := congrArg (List.map fun v => match v with | Value.int _ a => a | _ => (0 : Int)) h3
    rw [List.map_map, List.map_map] at h4
    rw [List.map_map]
    refine Eq.trans (List.map_congr_left fun x hx => ?_) (h4.trans (List.map_congr_left fun k _ => rfl))
    obtain ⟨k, _, hr⟩ := hrd x hx
    have hkey := WideElems.rd_key hr
    show Go.intOf (WideElems.rg P kt anyR x).1 = _
    rw [WideElems.rg_of hr]
    have : (x.key, x.val) ∈ es.toList.map (fun e => (e.key, e.val)) := List.mem_map.2 ⟨x, hx, rfl⟩
    rw [h2] at this
    obtain ⟨k2, hk1, hk2⟩ := List.mem_map.1 this
    have hkey2 : x.key = .int .i64 (k2 : Int) := by have := congrArg Prod.fst hk2; simpa using this.symm
    rw [hkey2, key_of hk k2 (hK k2 hk1)] at hkey
    show (k : Int) = (match x.key with | Value.int _ a => a | _ => 0)
    rw [hkey2]
    injection hkey with hkey
    injection hkey with _ hkey
    exact hkey.symm
  refine ⟨_, ⟨es, c, h1, ⟨by rw [hlen]; unfold maxLen; omega, hst, fun x hx => ?_⟩, by omega, rfl⟩, ?_, ?_⟩
  · obtain ⟨k, _, hr⟩ := hrd x hx
    exact ⟨_, hr⟩
  · show ((es.toList.map (WideElems.rg P kt anyR)).foldr DataW.insert []).length = _
    rw [(sorted_perm _).length_eq, List.length_map]
    simpa using hlen
  · show (((es.toList.map (WideElems.rg P kt anyR)).foldr DataW.insert []).map fun p => Go.intOf p.1).Perm _
    rw [← hmap]
    exact (sorted_perm _).map _

/-- slices.Sort's two contracts, at the fence that asks nothing -/
theorem sorts_in (m : Nat) : AnyZI.SortsIn Try.prog sortedL_ren Fence.wide m :=
  ⟨fun blk off cap ss W hH hblk hsz => callsIn_wide.2 (AnyM.slices_Sort_int sortL blk off cap ss W hH hblk hsz),
   fun p cap W => callsIn_wide.2 (AnyM.slices_Sort_int_none sortL p cap W)⟩
theorem Keys_any (mb : Option Nat) (W : World) : Calls Try.prog 34 #[.map mb] W fun e w' => e = .returned (.func (.func 48) #[] #[.pointer (some ⟨W.heap.size, 0, none⟩)]) ∧ w' = W.alloc (.cells #[.map mb] 65) :=
  callsIn_wide.1 (AnyZI.keys_in keysL Fence.wide 5 trivial rfl mb W)
/-- the keys, rising -/
def Keyed (K : List Nat) (l : List Int) : Prop := l.length = K.length ∧ l.Pairwise (· ≤ ·) ∧ ∀ x : Int, x ∈ l ↔ ∃ k ∈ K, (k : Int) = x
set_option maxHeartbeats 1000000 in
theorem Sorted_any (b : Nat) (K : List Nat) (w : World) (h : SetAt w b K) (hK : ∀ k ∈ K, k ≤ 100000) (hl : K.length ≤ 100000) :
    Calls Try.prog 33 #[.func (.func 48) #[] #[.pointer (some ⟨w.heap.size, 0, none⟩)]] (w.alloc (.cells #[.map (some b)] 65)) fun e w' =>
      ∃ A c l, e = .returned (.slice A K.length c) ∧ Keyed K l ∧ IntRow w' A c l ∧ Below w.heap.size w w' := by
  obtain ⟨D, hown, hsz, hperm⟩ := h.owns Try.underlying3 hK hl
  have hbl := h.lt
  have hseq : SeqGives Fence.wide 2 Try.prog 48 #[.pointer (some ⟨w.heap.size, 0, none⟩)] encZ (fun ss => ss.Perm (intKeys D)) (Maps.size D) (w.alloc (.cells #[.map (some b)] 65)) :=
    AnyZI.keys_gives (ρ := keysL_ren) { keysL with } Fence.wide _ trivial rfl (by omega) w.heap.size b K.length D _ (by simp) (by simp) (by
      obtain ⟨es, clock, hb, Ft, hs, hD⟩ := hown
      exact ⟨es, clock, (Below.heap_alloc _ _ b hbl).trans hb, Ft, hs, hD⟩)
  have cS := AnyZI.sorted_in sortedL Fence.wide 5 trivial trivial trivial trivial rfl (by omega) (sorts_in _) (enters_of Try.func47 (by kernel_rfl) rfl) 48 #[.pointer (some ⟨w.heap.size, 0, none⟩)] trivial (enters_of Try.func48 (by kernel_rfl) rfl) _ _ (by rw [hsz]; unfold maxLen; omega) (by rw [hsz]; omega) _ hseq
  change CallsIn _ _ Try.prog 33 _ _ _ at cS
  refine (callsIn_wide.1 cS).mono ?_
  rintro e w' ⟨v, ss, rfl, hS, hrow, hnil, hb⟩
  have hp : (ss.mergeSort (fun x y => decide (x ≤ y))).Perm (K.map fun k : Nat => (k : Int)) := ((List.mergeSort_perm ss _).trans hS).trans hperm
  have hlen : ss.length = K.length := by have := (hS.trans hperm).length_eq; simpa using this
  rw [hlen] at hrow
  generalize hq : ss.mergeSort (fun x y => decide (x ≤ y)) = l at hp hrow
  have hll : l.length = K.length := by have := hp.length_eq; simpa using this
  obtain ⟨A, c, rfl, _, r⟩ := int_of_own hrow
  refine ⟨A, c, l, rfl, ⟨hll, ?_, fun x => ?_⟩, r, ((Below.refl _ w).alloc (Nat.le_refl _) _).trans (hb.mono (by simp))⟩
  · rw [← hq]
    have tr : ∀ a b c : Int, leI a b = true → leI b c = true → leI a c = true := fun a b c h1 h2 => by simp only [leI, decide_eq_true_eq] at *; exact Int.le_trans h1 h2
    have to : ∀ a b : Int, (leI a b || leI b a) = true := fun a b => by simp only [leI, Bool.or_eq_true, decide_eq_true_eq]; exact Int.le_total a b
    exact (List.pairwise_mergeSort tr to ss).imp fun h => by simpa [leI] using h
  · rw [hp.mem_iff, List.mem_map]
end Go.Proofs.Ythjllbagmbknbaa.Mm
