/- Room in a bundle; bundles filled; a string's bytes behind a row; the sums of Pad. -/
import Derived.Test.YtojpcijfipdiaaaScanTops
import Derived.Test.YtojpcijfipdiaaaIsaLay
import Derived.Test.YtojpcijfipdiaaaIsaBase
import Derived.Lib.AppendStr
namespace Go.Proofs.Ytojpcijfipdiaaa.Mm
open Go.ChangeShapes Go.WideShapes Go.ChangeAt Go.RowKit
set_option linter.unusedVariables false

theorem room_any (A : Option Addr) (cap n : Nat) (hn : n ≤ 100000) (w : World) : Calls Try.prog 19 #[.slice A n cap] w fun e w' => e = .returned (.int .i64 (fillN n)) ∧ w = w' := by
  have hv : (32 - (n : Int) % 32) % 32 = (fillN n : Int) := by unfold fillN; omega
  go_enter Try.func19, Try.ntmps19
  go_wp2
  go_ret
  refine ⟨ret_int ?_, rfl⟩
  first | exact hv | (unfold fillN; omega) | (simp; unfold fillN; omega)

/-- a row of the call's own, whatever it is given -/
def FillP (w : World) (base : Nat) (L : List Int) (m : Nat) (e : Ending) (w' : World) : Prop :=
  ∃ A c, e = .returned (.slice A m c) ∧ w'.ownsRow base 5 1 (.slice A m c) m (L.map (Value.int .u8)) ∧ Below base w w'
theorem own_below' {A B : World} {base size n : Nat} {e : TypeId} {v : Value} {xs : List Value} (h : A.ownsRow base e size v n xs) (b : Below A.heap.size A B) : B.ownsRow base e size v n xs := own_kept h (grown_below b) (fun r e => by cases e)
theorem own_al' {A : World} {base size n : Nat} {e : TypeId} {v : Value} {xs : List Value} (h : A.ownsRow base e size v n xs) (o : Obj) : (A.alloc o).ownsRow base e size v n xs := own_below' h ((Below.refl _ _).alloc (Nat.le_refl _) o)
theorem rep_snoc (L : List Int) (k : Nat) : (L ++ List.replicate k 23) ++ [23] = L ++ List.replicate (k + 1) 23 := by rw [List.append_assoc, List.replicate_succ']
theorem byte_rep {L : List Int} (h : Bytes L) (k : Nat) : Bytes (L ++ List.replicate k 23) := fun x hx => by
  rcases List.mem_append.1 hx with hx | hx
  · exact h x hx
  · rw [List.eq_of_mem_replicate hx]; decide
theorem one_row (w : World) (x : Int) (h0 : 0 ≤ x) (h1 : x ≤ 255) : RowAt (w.alloc (.cells #[.int .u8 x] 5)) (some ⟨w.heap.size, 0, none⟩) 1 [x] := by
  obtain ⟨A, c, hv, _, hr⟩ := row_of_own (own_one w x) (fun z hz => by simp at hz; subst hz; exact ⟨h0, h1⟩)
  injection hv with e1 e2 e3
  subst e1 e3
  exact hr
theorem filled_any (A : Option Addr) (c n m : Nat) (L : List Int) (hL : Bytes L) (hl : L.length = n) (hn : n ≤ 90000) (hm : m = n + fillN n) (base : Nat) (w : World) (hb : base ≤ w.heap.size)
    (ho : w.ownsRow base 5 1 (.slice A n c) n (L.map (Value.int .u8))) :
    Calls Try.prog 20 #[.slice A n c] w (FillP w base (L ++ List.replicate (fillN n) 23) m) := by
  have O := Lib.hid ho
  have HL := Lib.hid hL
  have HB := Lib.hid hb
  have C := Lib.hid (room_any A c n (by omega))
  have hf : fillN n ≤ 31 := by unfold fillN; omega
  have HM := Lib.hid hm
  clear ho hL hl hb hm
  generalize fillN n = f at *
  go_enter Try.func20, Try.ntmps20
  go_wp2_with fail
  refine (C.out _).mono ?_; rintro e w1 ⟨rfl, rfl⟩
  clear C
  go_wp2
  go_loopw [0, 5] (fun v i wr => ∃ (k : Nat) (A' : Option Addr) (c' : Nat), k ≤ f ∧ i = .int .i64 k ∧ v = .slice A' (n + k) c' ∧ Hid (wr.ownsRow base 5 1 (.slice A' (n + k) c') (n + k) ((L ++ List.replicate k 23).map (Value.int .u8))) ∧ Hid (Below base w wr)) (fun _ i _ => f - (intOf i).toNat)
  case atStart => exact ⟨0, A, c, Nat.zero_le _, rfl, rfl, Lib.hid (by simpa using O.out), Lib.hid (Below.refl _ _)⟩
  case round =>
    obtain ⟨k, A', c', hk, rfl, rfl, O1, B1⟩ := hrel
    by_cases hlt : k < f
    · go_wp2_with (first
        | (at_builtin
           refine append_row rfl (.tmp 7) (.tmp 8) rfl base (.slice A' (n + k) c') (n + k) (L ++ List.replicate k 23) rfl (own_below' O1.out ((Below.refl _ _).alloc (Nat.le_refl _) _)) (byte_rep HL.out k) (some ⟨wr.heap.size, 0, none⟩) 1 1 [23] rfl rfl 1 (one_row wr 23 (by decide) (by decide)) (n + (k + 1)) (by omega) (by omega) (by have := B1.out.size; have := HB.out; simp; omega) ?_
           intro A6 c6 w6 own6 row6 bel6
           have O6 := Lib.hid own6
           have B6 := Lib.hid ((B1.out.alloc (Nat.le_trans HB.out B1.out.size) (.cells #[.int .u8 23] 5)).trans bel6)
           clear own6 row6 bel6))
      go_roundw
      case rel => exact ⟨k + 1, A6, c6, by omega, by go_num, rfl, Lib.hid (by rw [← rep_snoc]; exact O6.out), B6⟩
      case measure => simp [intOf]; omega
    · obtain rfl : k = f := by omega
      have HF : Hid (FillP w base (L ++ List.replicate k 23) m (.returned (.slice A' (n + k) c')) wr) := Lib.hid (by rw [HM.out]; exact ⟨A', c', rfl, O1.out, B1.out⟩)
      go_wp2
      go_ret
      exact HF.out

/-- what Pad answers -/
def allR (l : List InsV) : Bool := l.all InsV.right
def padR (l : List InsV) : List Int := if allR l = true then padL l else []
def PadP (w : World) (l : List InsV) (e : Ending) (w' : World) : Prop :=
  ∃ A c, e = .returned (.slice A (padR l).length c) ∧ RowAt w' A c (padR l) ∧ Below w.heap.size w w'
theorem allR_iff (l : List InsV) : allR l = true ↔ ∀ x ∈ l, x.right = true := by unfold allR; rw [List.all_eq_true]
theorem mem_getD (l : List InsV) (k : Nat) (h : k < l.length) : l.getD k insD ∈ l := by
  simp [List.getD, List.getElem?_eq_getElem h]
theorem allR_getD (l : List InsV) : allR l = true ↔ ∀ k, k < l.length → (l.getD k insD).right = true := by
  rw [allR_iff]
  constructor
  · intro h k hk; exact h _ (mem_getD l k hk)
  · intro h x hx
    obtain ⟨k, hk, rfl⟩ := List.mem_iff_getElem.1 hx
    have := h k hk
    simpa [List.getD, List.getElem?_eq_getElem hk] using this
theorem drop_getD (l : List InsV) (k : Nat) (hk : k < l.length) : l.drop k = l.getD k insD :: l.drop (k + 1) := by
  rw [List.drop_eq_getElem_cons hk]
  simp [List.getD, List.getElem?_eq_getElem hk]
theorem pad_step {l : List InsV} {B : List Int} {k : Nat} (hk : k < l.length) (h : B ++ flatI (padI B.length (l.drop k)) = padL l) (g : Nat) (hg : gapN B.length (l.getD k insD).lay.length = g) :
    (B ++ List.replicate g 23 ++ (l.getD k insD).lay) ++ flatI (padI (B ++ List.replicate g 23 ++ (l.getD k insD).lay).length (l.drop (k + 1))) = padL l := by
  subst hg
  rw [← h, drop_getD l k hk]
  generalize l.getD k insD = x
  show _ = B ++ flatI (List.replicate (gapN B.length x.lay.length) nopI ++ x :: padI (B.length + gapN B.length x.lay.length + x.lay.length) (l.drop (k + 1)))
  rw [flatI_app, flat_nops, flatI_cons, List.length_append, List.length_append, List.length_replicate]
  simp only [List.append_assoc]
theorem gap_fill {s t : Nat} (h : fillN s < t) (h6 : t ≤ 6) : gapN s t = fillN s := by
  unfold gapN fillN at *
  by_cases h1 : s % 32 + t ≤ 32
  · rw [if_pos h1]; omega
  · rw [if_neg h1]; omega
theorem gap_no {s t : Nat} (h : t ≤ fillN s) : gapN s t = 0 := by
  unfold gapN fillN at *
  rw [if_pos (by omega)]
theorem pad_last {l : List InsV} {B : List Int} (h : B ++ flatI (padI B.length (l.drop l.length)) = padL l) : B ++ List.replicate (fillN B.length) 23 = padL l := by
  rw [← h, List.drop_length]
  show _ = B ++ flatI (List.replicate (fillN _) nopI)
  rw [flat_nops]
theorem app_byte {L M : List Int} (h : Bytes L) (k : Bytes M) : Bytes (L ++ M) := fun x hx => (List.mem_append.1 hx).elim (h x) (k x)
theorem str_cells (S : ByteArray) : Lib.strCells S = (Go.Proofs.Ytojpcijfipdiaaa.nums S).map (Value.int .u8) := by
  unfold Lib.strCells Go.Proofs.Ytojpcijfipdiaaa.nums
  rw [List.map_map]
  rfl
theorem str_size {M : List Int} (h : Bytes M) : (strOfNums M).size = M.length := by rw [← Go.Proofs.Ytojpcijfipdiaaa.nums_len, Go.Proofs.Ytojpcijfipdiaaa.nums_str M h]

/-- a string's bytes behind a row of the call's own -/
theorem append_str {w : World} {ops : Array Oper} {rest : List Oper} {o : Oper} {a : Act} {Q : Exit → Act → World → Prop} (hgd : o.guard = none) (s x : Operand)
    (ho : o.op = .call { callee := .builtin .append, args := #[s, x], argTypes := #[22, 9] })
    (base : Nat) (v : Value) (n : Nat) (L : List Int) (hs : a.eval s = v) (hown : w.ownsRow base 5 1 v n (L.map (Value.int .u8))) (hL : Bytes L)
    (S : ByteArray) (M : List Int) (hS : S = strOfNums M) (hM : Bytes M) (hx : a.eval x = .string S) (n' : Nat) (hn' : n' = n + M.length) (hlen : n + M.length ≤ 1000000) (hbase : base ≤ w.heap.size)
    (h : ∀ A' cap' w', w'.ownsRow base 5 1 (.slice A' n' cap') n' ((L ++ M).map (Value.int .u8)) → Below base w w' → wpList Try.prog ops Q rest (a.put o.dst (.slice A' n' cap')) w') :
    wpList Try.prog ops Q (o :: rest) a w := by
  subst hn' hS
  obtain ⟨u0, hu0, hz0, hz1, hz2⟩ := info_parts u8_info
  have hz := str_size hM
  refine Lib.wpList_append_own_string w hgd s x 22 9 ho base 5 u0 Try.underlying22 Try.underlying9 hu0 hz0 hz1 hz2 v n (L.map (Value.int .u8)) hs hown (strOfNums M) hx (by rw [hz]; unfold maxLen; omega) (by rw [hz]; omega) hbase ?_
  intro v' w' hown' hg _
  rw [str_cells, Go.Proofs.Ytojpcijfipdiaaa.nums_str M hM, ← List.map_append, hz] at hown'
  obtain ⟨A', cap', rfl, _, _⟩ := row_of_own hown' (app_byte hL hM)
  exact h A' cap' w' hown' ((Below.refl base w).grown hg hbase (fun k hk => (hown.lt k hk).1))
end Go.Proofs.Ytojpcijfipdiaaa.Mm
