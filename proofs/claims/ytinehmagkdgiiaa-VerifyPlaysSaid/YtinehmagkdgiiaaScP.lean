/- Merged by wip/tools/regroup: ScanPadW, ScanPad2, ScanOpen, ScanFits, ScanTwice, ScanParts. -/
import Derived.Test.YtinehmagkdgiiaaScB
import Derived.Test.YtinehmagkdgiiaaIsA
import Derived.Test.YtinehmagkdgiiaaIsB
import Derived.Lib.AppendStr
import Derived.Test.YtinehmagkdgiiaaScA
import Derived.Deep.Slices
import Derived.Deep.Fields
import Derived.ChangeSame
namespace Go.Proofs.Ytinehmagkdgiiaa.Mm
open Go.ChangeShapes Go.WideShapes Go.ChangeAt Go.RowKit
set_option linter.unusedVariables false
set_option maxRecDepth 10000

/-- a row of the call's own, whatever it is given -/
def FillP (w : World) (base : Nat) (L : List Int) (m : Nat) (e : Ending) (w' : World) : Prop :=
  ∃ A c, e = .returned (.slice A m c) ∧ w'.ownsRow base 5 1 (.slice A m c) m (L.map (Value.int .u8)) ∧ Below base w w'
theorem own_below' {A B : World} {base size n : Nat} {e : TypeId} {v : Value} {xs : List Value} (h : A.ownsRow base e size v n xs) (b : Below A.heap.size A B) : B.ownsRow base e size v n xs := own_kept h (grown_below b) (fun r e => by cases e)
theorem own_al' {A : World} {base size n : Nat} {e : TypeId} {v : Value} {xs : List Value} (h : A.ownsRow base e size v n xs) (o : Obj) : (A.alloc o).ownsRow base e size v n xs := own_below' h ((Below.refl _ _).alloc (Nat.le_refl _) o)
theorem rep_snoc (L : List Int) (k : Nat) : (L ++ List.replicate k 23) ++ [23] = L ++ List.replicate (k + 1) 23 := by rw [List.append_assoc, List.replicate_succ']
theorem byte_rep {L : List Int} (h : Bytes L) (k : Nat) : Bytes (L ++ List.replicate k 23) := fun x hx => by
  rcases List.mem_append.1 hx with hx | hx
  · exact h x hx
  · rw [List.eq_of_mem_replicate hx]; decide
theorem one_row (w : World) (x : Int) (h0 : 0 ≤ x) (h1 : x ≤ 255) : RowAt (w.alloc (.cells #[.int .u8 x] 5)) (some ⟨w.heap.size, 0, none⟩) 1 [x] := by
  obtain ⟨A, c, hv, _, hr⟩ := row_of_own (own_one w x) (fun z hz => by simp at hz; subst hz; exact ⟨h0, h1⟩)
  injection hv with e1 e2 e3
  subst e1 e3
  exact hr
/-- what Pad answers -/
def allR (l : List InsV) : Bool := l.all InsV.right
def padR (l : List InsV) : List Int := if allR l = true then padL l else []
def PadP (w : World) (l : List InsV) (e : Ending) (w' : World) : Prop :=
  ∃ A c, e = .returned (.slice A (padR l).length c) ∧ RowAt w' A c (padR l) ∧ Below w.heap.size w w'
theorem allR_iff (l : List InsV) : allR l = true ↔ ∀ x ∈ l, x.right = true := by unfold allR; rw [List.all_eq_true]
theorem mem_getD (l : List InsV) (k : Nat) (h : k < l.length) : l.getD k insD ∈ l := by
  simp [List.getD, List.getElem?_eq_getElem h]
theorem allR_getD (l : List InsV) : allR l = true ↔ ∀ k, k < l.length → (l.getD k insD).right = true := by
  rw [allR_iff]
  constructor
  · intro h k hk; exact h _ (mem_getD l k hk)
  · intro h x hx
    obtain ⟨k, hk, rfl⟩ := List.mem_iff_getElem.1 hx
    have := h k hk
    simpa [List.getD, List.getElem?_eq_getElem hk] using this
theorem drop_getD (l : List InsV) (k : Nat) (hk : k < l.length) : l.drop k = l.getD k insD :: l.drop (k + 1) := by
  rw [List.drop_eq_getElem_cons hk]
  simp [List.getD, List.getElem?_eq_getElem hk]
theorem pad_step {l : List InsV} {B : List Int} {k : Nat} (hk : k < l.length) (h : B ++ flatI (padI B.length (l.drop k)) = padL l) (g : Nat) (hg : gapN B.length (l.getD k insD).lay.length = g) :
    (B ++ List.replicate g 23 ++ (l.getD k insD).lay) ++ flatI (padI (B ++ List.replicate g 23 ++ (l.getD k insD).lay).length (l.drop (k + 1))) = padL l := by
  subst hg
  rw [← h, drop_getD l k hk]
  generalize l.getD k insD = x
  show _ = B ++ flatI (List.replicate (gapN B.length x.lay.length) nopI ++ x :: padI (B.length + gapN B.length x.lay.length + x.lay.length) (l.drop (k + 1)))
  rw [flatI_app, flat_nops, flatI_cons, List.length_append, List.length_append, List.length_replicate]
  simp only [List.append_assoc]
theorem gap_fill {s t : Nat} (h : fillN s < t) (h6 : t ≤ 6) : gapN s t = fillN s := by
  unfold gapN fillN at *
  by_cases h1 : s % 32 + t ≤ 32
  · rw [if_pos h1]; omega
  · rw [if_neg h1]; omega
theorem gap_no {s t : Nat} (h : t ≤ fillN s) : gapN s t = 0 := by
  unfold gapN fillN at *
  rw [if_pos (by omega)]
theorem pad_last {l : List InsV} {B : List Int} (h : B ++ flatI (padI B.length (l.drop l.length)) = padL l) : B ++ List.replicate (fillN B.length) 23 = padL l := by
  rw [← h, List.drop_length]
  show _ = B ++ flatI (List.replicate (fillN _) nopI)
  rw [flat_nops]
theorem app_byte {L M : List Int} (h : Bytes L) (k : Bytes M) : Bytes (L ++ M) := fun x hx => (List.mem_append.1 hx).elim (h x) (k x)
theorem str_cells (S : ByteArray) : Lib.strCells S = (Go.Proofs.Ytinehmagkdgiiaa.nums S).map (Value.int .u8) := by
  unfold Lib.strCells Go.Proofs.Ytinehmagkdgiiaa.nums
  rw [List.map_map]
  rfl
theorem str_size {M : List Int} (h : Bytes M) : (strOfNums M).size = M.length := by rw [← Go.Proofs.Ytinehmagkdgiiaa.nums_len, Go.Proofs.Ytinehmagkdgiiaa.nums_str M h]

/-- a string's bytes behind a row of the call's own -/
theorem append_str {w : World} {ops : Array Oper} {rest : List Oper} {o : Oper} {a : Act} {Q : Exit → Act → World → Prop} (hgd : o.guard = none) (s x : Operand)
    (ho : o.op = .call { callee := .builtin .append, args := #[s, x], argTypes := #[22, 9] })
    (base : Nat) (v : Value) (n : Nat) (L : List Int) (hs : a.eval s = v) (hown : w.ownsRow base 5 1 v n (L.map (Value.int .u8))) (hL : Bytes L)
    (S : ByteArray) (M : List Int) (hS : S = strOfNums M) (hM : Bytes M) (hx : a.eval x = .string S) (n' : Nat) (hn' : n' = n + M.length) (hlen : n + M.length ≤ 1000000) (hbase : base ≤ w.heap.size)
    (h : ∀ A' cap' w', w'.ownsRow base 5 1 (.slice A' n' cap') n' ((L ++ M).map (Value.int .u8)) → Below base w w' → wpList Try.prog ops Q rest (a.put o.dst (.slice A' n' cap')) w') :
    wpList Try.prog ops Q (o :: rest) a w := by
  subst hn' hS
  obtain ⟨u0, hu0, hz0, hz1, hz2⟩ := info_parts u8_info
  have hz := str_size hM
  refine Lib.wpList_append_own_string w hgd s x 22 9 ho base 5 u0 Try.underlying22 Try.underlying9 hu0 hz0 hz1 hz2 v n (L.map (Value.int .u8)) hs hown (strOfNums M) hx (by rw [hz]; unfold maxLen; omega) (by rw [hz]; omega) hbase ?_
  intro v' w' hown' hg _
  rw [str_cells, Go.Proofs.Ytinehmagkdgiiaa.nums_str M hM, ← List.map_append, hz] at hown'
  obtain ⟨A', cap', rfl, _, _⟩ := row_of_own hown' (app_byte hL hM)
  exact h A' cap' w' hown' ((Below.refl base w).grown hg hbase (fun k hk => (hown.lt k hk).1))
end Go.Proofs.Ytinehmagkdgiiaa.Mm

namespace Go.Proofs.Ytinehmagkdgiiaa.Mm
open Go.ChangeShapes Go.WideShapes Go.ChangeAt Go.RowKit
set_option linter.unusedVariables false
set_option maxRecDepth 10000

theorem lay_right {x : InsV} (hx : x.Wf) (h : x.right = true) : x.Ok := ⟨h, hx.2.2.2.1, hx.2.2.2.2⟩
theorem lay_wrong {x : InsV} (h : x.right = false) : x.lay = [] := Go.Proofs.Ytinehmagkdgiiaa.layL_no h
theorem str_nil {M : List Int} (h : Bytes M) : (strOfNums M).toList = [] ↔ M = [] := by
  rw [Go.Proofs.Ytinehmagkdgiiaa.toList_data]
  have := str_size h
  constructor
  · intro e
    have h2 : (strOfNums M).size = 0 := by show (strOfNums M).data.size = 0; rw [← Array.length_toList, e]; rfl
    rw [this] at h2
    exact List.eq_nil_of_length_eq_zero h2
  · rintro rfl; rfl
/-- what holds ahead of instruction k -/
def PadI (l : List InsV) (k : Nat) (B : List Int) : Prop := (∀ j, j < k → (l.getD j insD).right = true) ∧ Bytes B ∧ B ++ flatI (padI B.length (l.drop k)) = padL l
theorem padI_0 (l : List InsV) : PadI l 0 [] := ⟨fun j h => by omega, fun x h => (by cases h), by simp [padL]⟩
theorem padI_next {l : List InsV} {k : Nat} {B : List Int} (h : PadI l k B) (hk : k < l.length) (hr : (l.getD k insD).right = true) (g : Nat) (hg : gapN B.length (l.getD k insD).lay.length = g) :
    PadI l (k + 1) (B ++ List.replicate g 23 ++ (l.getD k insD).lay) := by
  obtain ⟨h1, h2, h3⟩ := h
  refine ⟨fun j hj => ?_, app_byte (byte_rep h2 g) (lay_byte _), pad_step hk h3 g hg⟩
  rcases Nat.lt_or_ge j k with h | h
  · exact h1 j h
  · obtain rfl : j = k := by omega
    exact hr
theorem padI_end {l : List InsV} {B : List Int} (h : PadI l l.length B) : padR l = B ++ List.replicate (fillN B.length) 23 := by
  unfold padR
  rw [if_pos ((allR_getD l).2 h.1), pad_last h.2.2]
theorem padI_no {l : List InsV} {k : Nat} (hk : k < l.length) (hr : (l.getD k insD).right = false) : padR l = [] := by
  unfold padR
  rw [if_neg]
  intro h
  rw [(allR_getD l).1 h k hk] at hr
  cases hr

end Go.Proofs.Ytinehmagkdgiiaa.Mm

namespace Go.Proofs.Ytinehmagkdgiiaa.Mm
open Go.ChangeShapes Go.WideShapes Go.ChangeAt Go.RowKit
set_option linter.unusedVariables false
set_option maxRecDepth 10000

theorem u32_bd {n : Int} (h : (Lit.int .u32 n).wf = true) : 0 ≤ n ∧ n < 4294967296 := by
  have := bounds_u32 h
  omega
/-- one function of many choices -/
theorem row_made {w : World} {x : Addr} {len cap : Nat} (hl : len ≤ cap) (hm : cap ≤ maxLen) (key : ∀ i, i < len → ∃ t : InsV, t.Wf ∧ InsAt w (x.add (i * 4)) t) : ∃ l : List InsV, len = l.length ∧ InsRow w (some x) cap l := by
  classical
  obtain ⟨f, hf⟩ : ∃ f : Nat → InsV, ∀ i, i < len → (f i).Wf ∧ InsAt w (x.add (i * 4)) (f i) := by
    refine ⟨fun i => if h : i < len then Classical.choose (key i h) else insD, fun i hi => ?_⟩
    simp only [dif_pos hi]
    exact Classical.choose_spec (key i hi)
  refine ⟨(List.range len).map f, by simp, by simpa using hl, hm, fun y hy => ?_, fun hn => ⟨x, rfl, ?_, fun i hi => ?_⟩⟩
  · obtain ⟨i, hi, rfl⟩ := List.mem_map.1 hy
    exact (hf i (List.mem_range.1 hi)).1
  · have h0 : 0 < len := by
      rcases Nat.eq_zero_or_pos len with h | h
      · subst h; exact absurd rfl hn
      · exact h
    have := block_of_cell (hf 0 h0).2.c0
    rwa [block_add] at this
  · have hi' : i < len := by simpa using hi
    have e : ((List.range len).map f).getD i insD = f i := by simp [List.getD, hi']
    rw [e]
    exact (hf i hi').2

set_option maxRecDepth 100000 in
theorem insrow_of {H : Type} {enc : TypeId × Value → H} {w : World} {base : Nat} {spare : Nat → Bool} {held : Bool} {a : Option Addr} {len cap : Nat} {d : DataW H} {ps : List MemPlace}
    (h : DataW.Trod enc Try.prog w base spare held 68 (.slice a len cap) d ps) : ∃ l : List InsV, len = l.length ∧ InsRow w a cap l := by
  obtain ⟨fuel, hf⟩ := h
  have hC : Try.prog.cellsOf 73 = 4 := by kernel_rfl
  have k3 : Try.prog.cellsOf 3 = 1 := by kernel_rfl
  have k4 : Try.prog.cellsOf 36 = 1 := by kernel_rfl
  rcases Go.Deep.open_slice Try.underlying68 hf with ⟨hcs, _⟩ | ⟨x, len', cap', m, n, D, Pl, hcs, hb, hl, hm, hmm, _, hi⟩
  · simp [Value.cells] at hcs
    obtain ⟨rfl, rfl, rfl⟩ := hcs
    exact ⟨[], rfl, insRow_nil w⟩
  · simp [Value.cells] at hcs
    obtain ⟨rfl, rfl, rfl⟩ := hcs
    have hlm : len ≤ m := by rw [hmm]; split <;> omega
    rw [hC] at hi
    refine row_made hl hm (fun i hil => ?_)
    obtain ⟨cs', hc, ht⟩ := hi i (by omega)
    obtain ⟨_, hcl, hat⟩ := World.cells?_some hc
    obtain ⟨xs, n', _, _, _, _, hfs⟩ := DataW.trod_struct Try.underlying73 ht
    match cs', hcl with
    | [y0, y1, y2, y3], _ =>
      have f0 : DataW.trod enc Try.prog w base spare held n' 3 (([y0, y1, y2, y3].drop 0).take (Try.prog.cellsOf 3)) = xs[0]? := hfs 0 _ rfl
      have f1 : DataW.trod enc Try.prog w base spare held n' 3 (([y0, y1, y2, y3].drop 1).take (Try.prog.cellsOf 3)) = xs[1]? := hfs 1 _ rfl
      have f2 : DataW.trod enc Try.prog w base spare held n' 3 (([y0, y1, y2, y3].drop 2).take (Try.prog.cellsOf 3)) = xs[2]? := hfs 2 _ rfl
      have f3 : DataW.trod enc Try.prog w base spare held n' 36 (([y0, y1, y2, y3].drop 3).take (Try.prog.cellsOf 36)) = xs[3]? := hfs 3 _ rfl
      simp only [k3, k4, List.drop_zero, List.drop_succ_cons, List.take_succ_cons, List.take_zero] at f0 f1 f2 f3
      have some_of : ∀ j, j < 4 → ∃ y, xs[j]? = some y := fun j hj => ⟨xs[j]'(by simp_all), List.getElem?_eq_getElem _⟩
      obtain ⟨r0, q0⟩ := some_of 0 (by decide)
      obtain ⟨r1, q1⟩ := some_of 1 (by decide)
      obtain ⟨r2, q2⟩ := some_of 2 (by decide)
      obtain ⟨r3, q3⟩ := some_of 3 (by decide)
      obtain ⟨v0, e0, _, g0⟩ := DataW.trod_int Try.underlying3 (f0.trans q0)
      obtain ⟨v1, e1, _, g1⟩ := DataW.trod_int Try.underlying3 (f1.trans q1)
      obtain ⟨v2, e2, _, g2⟩ := DataW.trod_int Try.underlying3 (f2.trans q2)
      obtain ⟨v3, e3, _, g3⟩ := DataW.trod_int Try.underlying36 (f3.trans q3)
      simp only [List.cons.injEq, and_true] at e0 e1 e2 e3
      subst e0 e1 e2 e3
      have h0 := hat 0 (by decide)
      have h1 := hat 1 (by decide)
      have h2 := hat 2 (by decide)
      have h3 := hat 3 (by decide)
      simp only [List.getElem?_cons_succ, List.getElem?_cons_zero] at h0 h1 h2 h3
      have ad : ∀ n, (x.add (i * 4)).add (n + 1) = ⟨(x.add (i * 4)).block, (x.add (i * 4)).off + (n + 1), none⟩ := fun n => by generalize x.add (i * 4) = y; unfold Addr.add; simp
      rw [ad 0] at h1
      rw [ad 1] at h2
      rw [ad 2] at h3
      have e00 : (x.add (i * 4)).add 0 = x.add (i * 4) := by simp [Addr.add]
      rw [e00] at h0
      exact ⟨⟨v0, v1, v2, v3⟩, ⟨bounds_i64 g0, bounds_i64 g1, bounds_i64 g2, u32_bd g3⟩, ⟨h0, h1, h2, h3⟩⟩
end Go.Proofs.Ytinehmagkdgiiaa.Mm

namespace Go.Proofs.Ytinehmagkdgiiaa.Mm
open Go.ChangeShapes Go.WideShapes Go.ChangeAt Go.RowKit
set_option linter.unusedVariables false
set_option maxRecDepth 10000

theorem take_snoc (l : List InsV) (k : Nat) (hk : k < l.length) : l.take (k + 1) = l.take k ++ [l.getD k insD] := by
  rw [List.take_succ_eq_append_getElem hk]
  simp [List.getD, List.getElem?_eq_getElem hk]
/-- the first k are right, and so long -/
def FitI (l : List InsV) (k s : Nat) : Prop := (∀ j, j < k → (l.getD j insD).right = true) ∧ (flatI (l.take k)).length = s
theorem fitI_0 (l : List InsV) : FitI l 0 0 := ⟨fun j h => by omega, rfl⟩
theorem fitI_next {l : List InsV} {k s : Nat} (h : FitI l k s) (hk : k < l.length) (hr : (l.getD k insD).right = true) (t : Nat) (ht : (l.getD k insD).lay.length = t) : FitI l (k + 1) (s + t) := by
  obtain ⟨h1, h2⟩ := h
  refine ⟨fun j hj => ?_, ?_⟩
  · rcases Nat.lt_or_ge j k with h | h
    · exact h1 j h
    · obtain rfl : j = k := by omega
      exact hr
  · rw [take_snoc l k hk, flatI_app, List.length_append, h2, flatI_cons, List.length_append, ht]
    rfl
theorem row_ok {w : World} {A : Option Addr} {cap : Nat} {l : List InsV} (r : InsRow w A cap l) (h : ∀ j, j < l.length → (l.getD j insD).right = true) : ∀ x ∈ l, x.Ok := fun x hx => by
  obtain ⟨k, hk, rfl⟩ := List.mem_iff_getElem.1 hx
  have h1 := h k hk
  have h2 := r.2.2.1 _ hx
  simp [List.getD, List.getElem?_eq_getElem hk] at h1
  exact lay_right h2 h1
theorem fitI_end {w : World} {A : Option Addr} {cap : Nat} {l : List InsV} {s : Nat} (r : InsRow w A cap l) (h : FitI l l.length s) : (padR l).length % 32 = 0 ∧ s ≤ (padR l).length ∧ (padR l).length ≤ s + 5 * l.length + 31 := by
  obtain ⟨h1, h2⟩ := h
  have hok := row_ok r h1
  rw [List.take_length] at h2
  have hb := pad_bd l 0 hok
  have h3 := pad_len32 l hok
  unfold padR
  rw [if_pos ((allR_getD l).2 h1)]
  rw [h2] at hb
  exact ⟨h3, hb⟩
end Go.Proofs.Ytinehmagkdgiiaa.Mm

namespace Go.Proofs.Ytinehmagkdgiiaa.Mm
open Go.ChangeShapes Go.WideShapes Go.ChangeAt Go.RowKit
set_option linter.unusedVariables false
set_option maxRecDepth 10000

theorem row_all {w : World} {A : Option Addr} {cap : Nat} {l : List InsV} (r : InsRow w A cap l) (h : allR l = true) : ∀ x ∈ l, x.Ok := fun x hx => lay_right (r.2.2.1 x hx) ((allR_iff l).1 h x hx)
theorem ok_all {l : List InsV} (h : ∀ x ∈ l, x.Ok) : allR l = true := (allR_iff l).2 fun x hx => (h x hx).1
/-- what is padded, scanned, and padded again -/
theorem padR_scan {w : World} {A : Option Addr} {cap : Nat} {l : List InsV} (r : InsRow w A cap l) (h0 : (padR l).length ≠ 0) (h4 : (padR l).length ≤ 4096) :
    padR l = padL l ∧ scanE (padR l) = 0 ∧ insI (scanL (padR l)) = padI 0 l ∧ padR (padI 0 l) = padR l ∧ (padR l).length % 32 = 0 := by
  cases ha : allR l with
  | false => exact absurd (by unfold padR; rw [ha]; rfl) h0
  | true =>
    have hok := row_all r ha
    have e : padR l = padL l := by unfold padR; rw [if_pos ha]
    have h32 := pad_len32 l hok
    rw [e] at h0 h4 ⊢
    have hs : sizeB (padL l).length = true := (sizeB_iff _).2 ⟨by omega, h4, h32⟩
    obtain ⟨e1, e2⟩ := scanE_0 hs (pad_scan l hok)
    refine ⟨rfl, e1, ?_, ?_, h32⟩
    · rw [e2]; exact withPos_ins _ _
    · unfold padR
      rw [if_pos (ok_all (pad_ok l 0 hok)), pad_twice l hok]

end Go.Proofs.Ytinehmagkdgiiaa.Mm

namespace Go.Proofs.Ytinehmagkdgiiaa.Mm
open Go.ChangeShapes Go.WideShapes Go.ChangeAt Go.RowKit
set_option linter.unusedVariables false
set_option maxRecDepth 10000

theorem add_4 (p : Addr) (i j : Nat) : p.add (i * 4 + (j + 1)) = ⟨(p.add (i * 4)).block, (p.add (i * 4)).off + (j + 1), none⟩ := by
  have e : p.add (i * 4 + (j + 1)) = (p.add (i * 4)).add (j + 1) := by
    unfold Addr.add
    by_cases h : i = 0
    · subst h; simp
    · have h4 : ¬ i * 4 = 0 := by omega
      simp [h4, Nat.add_assoc]
  rw [e]
  generalize p.add (i * 4) = y
  unfold Addr.add
  simp
/-- a row's cells, one by one -/
theorem ins_cells {w : World} {p : Addr} {M : List InsV} (h : ∀ i, i < M.length → InsAt w (p.add (i * 4)) (M.getD i insD)) : ∀ j u, (M.flatMap insC)[j]? = some u → w.cell? (p.add j) = some u := by
  intro j u hj
  have hjl : j < M.length * 4 := by
    rcases Nat.lt_or_ge j (M.length * 4) with h | h
    · exact h
    · rw [List.getElem?_eq_none (by rw [flatC_len]; exact h)] at hj; cases hj
  obtain ⟨q, r, hr4, rfl⟩ : ∃ q r, r < 4 ∧ j = q * 4 + r := ⟨j / 4, j % 4, by omega, by omega⟩
  have hi : q < M.length := by omega
  obtain ⟨k0, k1, k2, k3⟩ := h q hi
  have e := flatC_get M q hi r hr4
  rw [hj] at e
  generalize M.getD q insD = y at *
  have hr : r = 0 ∨ r = 1 ∨ r = 2 ∨ r = 3 := by omega
  rcases hr with rfl | rfl | rfl | rfl <;> simp [insC] at e <;> subst e
  · exact k0
  · rw [show q * 4 + 1 = q * 4 + (0 + 1) from rfl, add_4]; exact k1
  · rw [show q * 4 + 2 = q * 4 + (1 + 1) from rfl, add_4]; exact k2
  · rw [show q * 4 + 3 = q * 4 + (2 + 1) from rfl, add_4]; exact k3
/-- a guarded operation that is wanted goes as one without a guard -/
theorem wpList_unguard {P : Program} {w : World} {ops : Array Oper} {rest : List Oper} {o : Oper} {a : Act} {Q : Exit → Act → World → Prop} (hw : Region.wanted o (yielded ops a.tmps) = true) (h : wpList P ops Q ({ o with guard := none } :: rest) a w) : wpList P ops Q (o :: rest) a w := by
  unfold wpList at h ⊢
  rw [if_pos (by simp [Region.wanted])] at h
  rw [if_pos hw]
  exact h
theorem flatC_one' (L : List InsV) : ∀ u ∈ L.flatMap insC, u.oneCell' = true := by
  intro u hu
  obtain ⟨x, _, h⟩ := List.mem_flatMap.1 hu
  exact insC_one x u h
theorem append_nil_ins {w : World} {base : Nat} {ty : TypeId} {v : Value} {n : Nat} {xs : List Value} (hown : w.ownsRow base 73 4 v n xs) (c : Nat) :
    (Builtin.append_ #[68, 68] ty #[v, .slice none 0 c]).run Try.prog w = .ok v w := by
  obtain ⟨u0, hu0, hz0, hz1, hz2⟩ := info_parts ins_info
  rcases hown.2 with ⟨rfl, rfl⟩ | ⟨g, cap, cur, rfl, _, _, hnc, _⟩
  · simp [Builtin.append_, run_underlying Try.underlying68, sizeOf, typeInfo, hu0, Builtin.lenOf, Builtin.firstCells]
  · simp [Builtin.append_, run_underlying Try.underlying68, sizeOf, typeInfo, hu0, Builtin.lenOf, Builtin.firstCells, hnc, storeCells]
/-- instructions that read as a list, put behind a row of the call's own -/
theorem append_insrow {w : World} {ops : Array Oper} {rest : List Oper} {o : Oper} {a : Act} {Q : Exit → Act → World → Prop} (hgd' : o.guard = none) (s x : Operand)
    (ho : o.op = .call { callee := .builtin .append, args := #[s, x], argTypes := #[68, 68] })
    (base : Nat) (v : Value) (n : Nat) (L : List InsV) (hs : a.eval s = v) (hown : w.ownsRow base 73 4 v n (L.flatMap insC)) (hW : ∀ y ∈ L, y.Wf)
    (A : Option Addr) (m c : Nat) (M : List InsV) (hx : a.eval x = .slice A m c) (hm : m = M.length) (cap : Nat) (hr : InsRow w A cap M) (n' : Nat) (hn' : n' = n + m) (hlen : n + m ≤ 100000) (hbase : base ≤ w.heap.size)
    (h : ∀ A' cap' w', w'.ownsRow base 73 4 (.slice A' n' cap') n' ((L ++ M).flatMap insC) → InsRow w' A' cap' (L ++ M) → Below base w w' → wpList Try.prog ops Q rest (a.put o.dst (.slice A' n' cap')) w') :
    wpList Try.prog ops Q (o :: rest) a w := by
  subst hn'
  obtain ⟨u0, hu0, hz0, hz1, hz2⟩ := info_parts ins_info
  have hLM : ∀ y ∈ L ++ M, y.Wf := fun z hz => (List.mem_append.1 hz).elim (hW z) (hr.2.2.1 z)
  cases A with
  | none =>
    have hM : M = [] := by
      by_cases hne : M = []
      · exact hne
      · obtain ⟨ad, h, _⟩ := hr.2.2.2 hne; cases h
    subst hM
    subst hm
    refine wpList_plain hgd' fun K hK => ?_
    unfold Oper.wp execOp
    simp only [ho, resolve, invoke, builtin, Sem.run_bind, Sem.run_pure, Result.andThen_ok, List.map_toArray, List.map_cons, List.map_nil, hs, hx, List.length_nil, append_nil_ins hown c]
    have hown' : w.ownsRow base 73 4 v (n + 0) ((L ++ []).flatMap insC) := by simpa using hown
    obtain ⟨A', cap', rfl, _, hrow⟩ := ins_of_own hown' hLM
    exact hK _ _ (h A' cap' w hown' hrow (Below.refl _ _))
  | some ad =>
    have hcs : ∀ j u, (M.flatMap insC)[j]? = some u → w.cell? (ad.add j) = some u := by
      by_cases hne : M = []
      · subst hne; intro j u hj; simp at hj
      · obtain ⟨ad', e, _, hc⟩ := hr.2.2.2 hne
        injection e with e; subst e
        exact ins_cells hc
    refine wpList_append_own_at w hgd' s x 68 ho base 73 u0 _ 4 32 Try.underlying68 hu0 hz0 hz1 hz2 rfl (by decide) v n (L.flatMap insC) hs hown ad m c (M.flatMap insC) hx (by rw [flatC_len, hm])
      hcs (flatC_one' M) (by unfold maxLen; omega) (by omega) hbase ?_
    intro v' w' hown' hg _ _
    rw [← flatC_app] at hown'
    obtain ⟨A', cap', rfl, _, hrow⟩ := ins_of_own hown' hLM
    exact h A' cap' w' hown' hrow ((Below.refl base w).grown hg hbase (fun k hk => (hown.lt k hk).1))
theorem ins_new0 (w : World) : (w.alloc (.cells #[] 73)).ownsRow w.heap.size 73 4 (.slice (some ⟨w.heap.size, 0, none⟩) 0 0) 0 (([] : List InsV).flatMap insC) :=
  World.ownsRow_lit (size := 4) (base := w.heap.size) (e := 73) w #[] 0 (by simp) (by unfold maxLen; omega) rfl

/-- what is scanned of two parts -/
theorem part_size {a b : List Int} (h1 : a.length ≤ 2000) (h2 : b.length ≤ 2000) (h3 : a.length % 32 = 0) (h4 : b.length % 32 = 0) (h5 : a.length ≠ 0) (h6 : b.length ≠ 0) :
    sizeB a.length = true ∧ sizeB b.length = true ∧ sizeB (a ++ b).length = true := by
  simp only [sizeB_iff, List.length_append]
  omega
theorem part_scan {a b : List Int} (ha : Go.Proofs.Ytinehmagkdgiiaa.Bytes a) (hb : Go.Proofs.Ytinehmagkdgiiaa.Bytes b) (h3 : a.length % 32 = 0) (s1 : sizeB a.length = true) (s2 : sizeB b.length = true) (s3 : sizeB (a ++ b).length = true) :
    (scanE a = 2 ∧ scanE (a ++ b) = 2 ∧ (scanL (a ++ b)).length = 0) ∨ (scanE a = 0 ∧ scanE b = 2 ∧ scanE (a ++ b) = 2 ∧ (scanL (a ++ b)).length = 0) ∨
      (scanE a = 0 ∧ scanE b = 0 ∧ scanE (a ++ b) = 0 ∧ insI (scanL (a ++ b)) = insI (scanL a) ++ insI (scanL b)) := by
  cases h1 : scanAt a 0 with
  | none =>
    obtain ⟨e1, e2⟩ := scanE_2 s3 (parts_no ha hb h3 (.inl h1))
    exact .inl ⟨(scanE_2 s1 h1).1, e1, by rw [e2]; rfl⟩
  | some L =>
    cases h2 : scanAt b 0 with
    | none =>
      obtain ⟨e1, e2⟩ := scanE_2 s3 (parts_no ha hb h3 (.inr h2))
      exact .inr (.inl ⟨(scanE_0 s1 h1).1, (scanE_2 s2 h2).1, e1, by rw [e2]; rfl⟩)
    | some M =>
      obtain ⟨K, hK, hm⟩ := parts_yes ha hb h3 h1 h2
      obtain ⟨e1, e2⟩ := scanE_0 s3 hK
      refine .inr (.inr ⟨(scanE_0 s1 h1).1, (scanE_0 s2 h2).1, e1, ?_⟩)
      rw [e2, (scanE_0 s1 h1).2, (scanE_0 s2 h2).2]
      exact hm
end Go.Proofs.Ytinehmagkdgiiaa.Mm
