/- Reading an image: the function's ways. -/
import Derived.Test.YtokibkemolmgcaaImgRead
import Derived.Deep.DeepCutAuto
namespace Go.Proofs.Ytokibkemolmgcaa.Mm
open Go.ChangeShapes Go.WideShapes Go.ChangeAt Go.RowKit
set_option linter.unusedVariables false

theorem row_take {w : World} {A : Option Addr} {cap : Nat} {l : List Int} (r : RowAt w A cap l) (m : Nat) : RowAt w A cap (l.take m) := by
  obtain ⟨h1, h2, h3, h4⟩ := r
  have hl : (l.take m).length ≤ l.length := by rw [List.length_take]; omega
  refine ⟨by omega, h2, take_byte h3 _, fun hne => ?_⟩
  obtain ⟨x, hx, hb, hc⟩ := h4 (by intro e; subst e; simp at hne)
  exact ⟨x, hx, hb, fun i hi => by rw [hc i (by omega), getD_take' _ _ _ _ (by rw [List.length_take] at hi; omega)]⟩
theorem row_drop {w : World} {x : Addr} {cap : Nat} {l : List Int} (r : RowAt w (some x) cap l) (m : Nat) : RowAt w (some (x.add m)) (cap - m) (l.drop m) := by
  obtain ⟨h1, h2, h3, h4⟩ := r
  refine ⟨by rw [List.length_drop]; omega, by omega, drop_byte h3 _, fun hne => ?_⟩
  obtain ⟨y, hy, hb, hc⟩ := h4 (by intro e; subst e; simp at hne)
  injection hy with hy; subst hy
  exact ⟨_, rfl, by rw [block_add]; exact hb, fun i hi => by rw [List.length_drop] at hi; rw [add_add, hc _ (by omega), getD_drop']⟩
theorem row_nil (w : World) (A : Option Addr) (cap : Nat) (h : cap ≤ maxLen) : RowAt w A cap [] := ⟨Nat.zero_le _, h, fun x hx => by simp at hx, fun h => absurd rfl h⟩
theorem u8_sz (w : World) : (sizeOf (Try.prog.elem 22)).run Try.prog w = .ok 1 w := by kernel_rfl
theorem u8_el : Try.prog.underlying 22 = some (.slice (Try.prog.elem 22)) := by kernel_rfl
/-- where a part of a slice begins -/
def cutA (A : Option Addr) (cap k : Nat) : Option Addr := if cap = k then A else A.map (·.add (k * 1))
theorem row_cut {w : World} {A : Option Addr} {cap : Nat} {l : List Int} (r : RowAt w A cap l) (k : Nat) (hk : k ≤ l.length) : RowAt w (cutA A cap k) (cap - k) (l.drop k) := by
  have hm := r.2.1
  have hc := r.1
  unfold cutA
  by_cases h : k = l.length
  · subst h; rw [List.drop_length]; exact row_nil _ _ _ (by omega)
  · rw [if_neg (by omega)]
    cases A with
    | none =>
      obtain ⟨x, hx, _⟩ := r.2.2.2 (by intro e; subst e; simp at h hk; omega)
      cases hx
    | some x => rw [Option.map_some, Nat.mul_one]; exact row_drop r k
/-- b[:k] -/
theorem cut_to {w0 : World} {A : Option Addr} {cap : Nat} {l : List Int} (r : RowAt w0 A cap l) (n : Nat) (hn : l.length = n) (k : Nat) (I : Int) (hI : I = k) (hk : k ≤ n) :
    ∃ A1 c1, (∀ w, (Instr.slice 22 (.slice A n cap) none (some (.int .i64 I)) none).run Try.prog w = .ok (.slice A1 k c1) w) ∧ ∀ w', RowAt w' A cap l → RowAt w' A1 c1 (l.take k) := by
  have hc := r.1
  refine ⟨if cap = 0 then A else A.map (·.add (0 * 1)), cap, fun w => ?_, fun w' r' => ?_⟩
  · rw [run_slice_h w 22 A n cap u8_el .i64 I (by omega) (by omega), u8_sz]
    simp [Result.andThen, sliced, hI]
  · have e : (if cap = 0 then A else A.map (·.add (0 * 1))) = A := by
      split
      · rfl
      · cases A <;> rfl
    rw [e]
    exact row_take r' k
/-- b[k:] -/
theorem cut_from {w0 : World} {A : Option Addr} {cap : Nat} {l : List Int} (r : RowAt w0 A cap l) (n : Nat) (hn : l.length = n) (k m : Nat) (I : Int) (hI : I = k) (hm : k + m = n) :
    ∃ A1 c1, (∀ w, (Instr.slice 22 (.slice A n cap) (some (.int .i64 I)) none none).run Try.prog w = .ok (.slice A1 m c1) w) ∧ ∀ w', RowAt w' A cap l → RowAt w' A1 c1 (l.drop k) := by
  have hc := r.1
  refine ⟨cutA A cap k, cap - k, fun w => ?_, fun w' r' => row_cut r' k (by omega)⟩
  rw [run_slice_l w 22 A n cap u8_el .i64 I (by omega) (by omega), u8_sz]
  simp [Result.andThen, sliced, cutA, hI, show n - k = m by omega]
/-- b[k:j] -/
theorem cut_mid {w0 : World} {A : Option Addr} {cap : Nat} {l : List Int} (r : RowAt w0 A cap l) (n : Nat) (hn : l.length = n) (k m : Nat) (I J : Int) (hI : I = k) (hJ : J = (k + m : Nat)) (hm : k + m ≤ n) :
    ∃ A1 c1, (∀ w, (Instr.slice 22 (.slice A n cap) (some (.int .i64 I)) (some (.int .i64 J)) none).run Try.prog w = .ok (.slice A1 m c1) w) ∧ ∀ w', RowAt w' A cap l → RowAt w' A1 c1 ((l.drop k).take m) := by
  have hc := r.1
  refine ⟨cutA A cap k, cap - k, fun w => ?_, fun w' r' => row_take (row_cut r' k (by omega)) m⟩
  rw [run_slice_lh w 22 A n cap u8_el .i64 .i64 I J (by omega) (by omega) (by omega), u8_sz]
  subst hI
  subst hJ
  simp [Result.andThen, sliced, cutA]
  omega
theorem str_eq (L M : List Int) (hL : Bytes L) (hM : Bytes M) : (strOfNums L).toList = (strOfNums M).toList ↔ L = M :=
  ⟨fun e => by
    rw [ByteArray.toList_eq, ByteArray.toList_eq] at e
    rw [← nums_str L hL, ← nums_str M hM]
    unfold nums
    rw [e], fun e => by rw [e]⟩
theorem str_beq (L M : List Int) (hL : Bytes L) (hM : Bytes M) : ((strOfNums L).toList == (strOfNums M).toList) = decide (L = M) := by
  rw [Bool.eq_iff_iff, beq_iff_eq, decide_eq_true_iff]; exact str_eq L M hL hM
theorem head_beq (L : List Int) (hL : Bytes L) : ((strOfNums L).toList == [86, 51, 50, 49]) = decide (L = headL) := by
  rw [← str_beq L headL hL headL_byte]
  have : (strOfNums headL).toList = [86, 51, 50, 49] := by rw [ByteArray.toList_eq]; rfl
  rw [this]

/-- behind the sum -/
def RS (W w' : World) : Prop := Below W.heap.size W w'
theorem RS.s {W w' : World} {v : Value} {s : ByteArray} (h : ∀ w' : World, Below W.heap.size W w' → (convert 22 9 v).run Try.prog w' = .ok (.string s) w') (b : Below W.heap.size W w') :
    ((convert 22 9 v).run Try.prog w' = .ok (.string s) w') ∧ RS W w' := ⟨h w' b, b⟩

theorem HasB.al {w : World} {g : Nat} {t : TypeId} {cs : List Value} (h : HasB w g t cs) (o : Obj) : HasB (w.alloc o) g t cs := h.below (bel_al (Below.refl _ _) _)
theorem HasB.dr {w : World} {g : Nat} {t : TypeId} {cs : List Value} (h : HasB w g t cs) : HasB w.drew g t cs := h
theorem HasB.newAt (w : World) (g : Nat) (t : TypeId) (cs : List Value) (hg : g = w.heap.size) : HasB (w.alloc (.cells cs.toArray t)) g t cs := by
  subst hg
  exact HasB.new w t cs
/-- nothing of before has changed, and there is more -/
def QS (w w' : World) : Prop := Below w.heap.size w w' ∧ w.heap.size < w'.heap.size
theorem QS.dr {w a : World} (h : QS w a) : QS w a.drew := ⟨h.1.drew, h.2⟩
theorem QS.al {w a : World} (h : QS w a) (o : Obj) : QS w (a.alloc o) := ⟨bel_al h.1 o, by have := h.2; simp; omega⟩
theorem QS.call {w a b : World} (h : QS w a) (k : Below a.heap.size a b) : QS w b := ⟨bel_then h.1 k, Nat.lt_of_lt_of_le h.2 k.size⟩
theorem QS.st {w a : World} (h : QS w a) (i j : Nat) (u v : Value) : QS w ((a.setCell ⟨w.heap.size, i, none⟩ u).setCell ⟨w.heap.size, j, none⟩ v) := by
  have b := (h.1.setCell (p := ⟨w.heap.size, i, none⟩) (Nat.le_refl _) u).setCell (p := ⟨w.heap.size, j, none⟩) (Nat.le_refl _) v
  exact ⟨b, by have := h.2; simp; omega⟩
theorem Own.dr {B : Nat} {w : World} {A : Option Addr} {cap : Nat} {L : List Int} (h : Own B w A cap L) : Own B w.drew A cap L := ⟨h.own.drew, h.byte⟩
theorem Own.al {B : Nat} {w : World} {A : Option Addr} {cap : Nat} {L : List Int} (h : Own B w A cap L) (o : Obj) : Own B (w.alloc o) A cap L := h.below (bel_al (Below.refl _ _) o)
/-- an image that is read: memory of its own -/
def ReadY (w : World) (l : List Int) (e : Ending) (w' : World) : Prop :=
  ∃ A5 c5 A6 c6, e = .returned (.tuple #[.agg #[.slice A5 (codeL l).length c5, .slice A6 (dataL l).length c6], .int .i64 0]) ∧ Own w.heap.size w' A5 c5 (codeL l) ∧ Own w.heap.size w' A6 c6 (dataL l) ∧ Below w.heap.size w w'
theorem readY_end {w w' : World} {l : List Int} {n c d : Nat} {B5 B6 : Option Addr} {cb5 cb6 : Nat} (hn : l.length = n) (hc : lenAt l 4 = c) (hd : lenAt l 6 = d) (hz : (8 : Int) + c + d = (n : Int) - 4)
    (o5 : Own (w.heap.size + 1) w' B5 cb5 ((l.drop 8).take c)) (o6 : Own (w.heap.size + 1) w' B6 cb6 ((l.drop (8 + c)).take d)) (u v : Value)
    (q : QS w ((w'.setCell ⟨w.heap.size, 0, none⟩ u).setCell ⟨w.heap.size, 1, none⟩ v)) :
    ReadY w l (.returned (.tuple #[.agg #[.slice B5 c cb5, .slice B6 d cb6], .int .i64 0])) ((w'.setCell ⟨w.heap.size, 0, none⟩ u).setCell ⟨w.heap.size, 1, none⟩ v) := by
  have e1 : codeL l = (l.drop 8).take c := by unfold codeL; rw [hc]; rfl
  have e2 : dataL l = (l.drop (8 + c)).take d := by unfold dataL; rw [hc, hd]; rfl
  have l1 : (codeL l).length = c := by rw [e1, List.length_take, List.length_drop, hn]; omega
  have l2 : (dataL l).length = d := by rw [e2, List.length_take, List.length_drop, hn]; omega
  refine ⟨B5, cb5, B6, cb6, by rw [l1, l2], ?_, ?_, q.1⟩
  · rw [e1]; exact ((o5.kept (Nat.lt_succ_self _) _).kept (Nat.lt_succ_self _) _).mono (Nat.le_succ _)
  · rw [e2]; exact ((o6.kept (Nat.lt_succ_self _) _).kept (Nat.lt_succ_self _) _).mono (Nat.le_succ _)
def JoinN (w : World) (n : Nat) (L : List Int) (e : Ending) (w' : World) : Prop := ∃ A cap, e = .returned (.slice A n cap) ∧ Own w.heap.size w' A cap L ∧ Below w.heap.size w w'
theorem joined_one (A : Option Addr) (cap : Nat) (L : List Int) (n : Nat) (hn : L.length = n) (g : Nat) (w : World) (h : HasB w g 22 [.slice A n cap]) (r : RowAt w A cap L) (hl : n ≤ 100000) :
    Calls Try.prog 15 #[.slice (some ⟨g, 0, none⟩) 1 1] w (JoinN w n L) := by
  subst hn
  have e : flat [⟨A, cap, L⟩] = L := by simp [flat]
  have := joined_any [⟨A, cap, L⟩] g 1 w rfl ⟨h, fun p hp => by simp at hp; subst hp; exact r⟩ (by rw [e]; exact hl) (by simp)
  rw [e] at this
  exact this
end Go.Proofs.Ytokibkemolmgcaa.Mm
