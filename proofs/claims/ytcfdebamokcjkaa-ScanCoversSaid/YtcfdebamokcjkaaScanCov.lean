/- The statement ScanCovers, walked. -/
import Derived.Test.YtcfdebamokcjkaaScanTops
import Derived.Test.YtcfdebamokcjkaaScanPadW
import Derived.Test.YtcfdebamokcjkaaIsaForms
import Derived.Test.YtcfdebamokcjkaaIsaLay
namespace Go.Proofs.Ytcfdebamokcjkaa.Mm
open Go.ChangeShapes Go.WideShapes Go.ChangeAt Go.RowKit
set_option linter.unusedVariables false

/-- a part of a slice, as a string -/
theorem conv_some (w : World) (a : Addr) (cap : Nat) (L : List Int) (hc : ∀ i, i < L.length → w.cell? (a.add i) = some (.int .u8 (L.getD i 0))) :
    (convert 22 9 (.slice (some a) L.length cap)).run Try.prog w = .ok (.string (strOfNums L)) w := by
  have hl : (loadCells a L.length).run Try.prog w = .ok (L.map (Value.int .u8)).toArray w := by
    have := run_loadCells_list (P := Try.prog) w a (L.map (Value.int .u8)) (fun j v hj => by
      have hjl : j < L.length := by
        rcases Nat.lt_or_ge j L.length with h | h
        · exact h
        · rw [List.getElem?_eq_none (by simpa using h)] at hj; cases hj
      rw [hc j hjl]
      simp [List.getElem?_eq_getElem hjl] at hj
      subst hj
      simp [List.getD, List.getElem?_eq_getElem hjl])
    simpa using this
  rw [run_convert_bytes_string w 22 9 5 _ L.length cap Try.underlying22 Try.underlying5 Try.underlying9, run_bytesToString w _ L.length cap L hl, foldl_push_bytes]
  simp [strOfNums, ByteArray.empty, ByteArray.emptyWithCapacity]
  rfl
theorem part_conv {w : World} {x : Addr} {cap : Nat} {l : List Int} (h : RowAt w (some x) cap l) (k m c : Nat) (hk : k + m ≤ l.length) (hm : 1 ≤ m) :
    (convert 22 9 (.slice (some (x.add k)) m c)).run Try.prog w = .ok (.string (strOfNums ((l.drop k).take m))) w := by
  obtain ⟨h1, h2, h3, h4⟩ := h
  obtain ⟨y, hy, hx, hc⟩ := h4 (by intro h; subst h; simp at hk; omega)
  injection hy with hy; subst hy
  have hlen : ((l.drop k).take m).length = m := by rw [List.length_take, List.length_drop]; omega
  have := conv_some w (x.add k) c ((l.drop k).take m) (fun i hi => by
    rw [hlen] at hi
    have e : (x.add k).add i = x.add (k + i) := by unfold Addr.add; by_cases h : k = 0 <;> by_cases h' : i = 0 <;> simp [h, h', Nat.add_assoc]
    rw [e, hc _ (by omega)]
    simp [List.getD, hi])
  rw [hlen] at this
  exact this

/-- the world of a round's test: a place, an instruction, the code's bytes as a string -/
def CovR (w : World) (ps : Addr) (v : Int) (pi : Addr) (y : InsV) (sl : Value) (S : ByteArray) (w' : World) : Prop :=
  w'.cell? ps = some (.int .i64 v) ∧ InsAt w' pi y ∧ (convert 22 9 sl).run Try.prog w' = .ok (.string S) w' ∧ Below w.heap.size w w'
def CovS (w : World) (ps : Addr) (v : Int) (pi : Addr) (y : InsV) (sl : Value) (S : ByteArray) (w' : World) : Prop :=
  ((w'.cell? ps = some (.int .i64 v) ∧ w'.cell? pi = some (.int .i64 y.op) ∧ w'.cell? ⟨pi.block, pi.off + 1, none⟩ = some (.int .i64 y.a) ∧ w'.cell? ⟨pi.block, pi.off + 2, none⟩ = some (.int .i64 y.b) ∧ w'.cell? ⟨pi.block, pi.off + 3, none⟩ = some (.int .u32 y.imm)) ∧
    (convert 22 9 sl).run Try.prog w' = .ok (.string S) w') ∧ CovR w ps v pi y sl S w'
theorem CovR.s {w : World} {ps pi : Addr} {v : Int} {y : InsV} {sl : Value} {S : ByteArray} {w' : World} (k : CovR w ps v pi y sl S w') : CovS w ps v pi y sl S w' :=
  ⟨⟨⟨k.1, k.2.1.c0, k.2.1.c1, k.2.1.c2, k.2.1.c3⟩, k.2.2.1⟩, k⟩
theorem CovR.below {w : World} {ps pi : Addr} {v : Int} {y : InsV} {sl : Value} {S : ByteArray} {u w' : World} (cv : (ps.block < w.heap.size ∧ pi.block < w.heap.size) ∧ ∀ w1, Below w.heap.size w w1 → (convert 22 9 sl).run Try.prog w1 = .ok (.string S) w1)
    (k : CovR w ps v pi y sl S u) (hb : Below u.heap.size u w') : CovR w ps v pi y sl S w' :=
  ⟨by rw [hb.cell (Nat.lt_of_lt_of_le cv.1.1 k.2.2.2.size)]; exact k.1, k.2.1.below (Nat.lt_of_lt_of_le cv.1.2 k.2.2.2.size) hb, cv.2 _ (bel_then k.2.2.2 hb), bel_then k.2.2.2 hb⟩
theorem cov_keep {w : World} {ps pi : Addr} {v : Int} {y : InsV} {sl : Value} {S : ByteArray} {u w' : World} {P : Prop} (cv : (ps.block < w.heap.size ∧ pi.block < w.heap.size) ∧ ∀ w1, Below w.heap.size w w1 → (convert 22 9 sl).run Try.prog w1 = .ok (.string S) w1)
    (k : P ∧ CovR w ps v pi y sl S u) (hb : Below u.heap.size u w') : CovS w ps v pi y sl S w' := (k.2.below cv hb).s

/-- what is covered, up to instruction i -/
def CovI (code : List Int) (L : List (Nat × InsV)) (i b : Nat) : Prop := Covers code b (L.drop i) ∧ b ≤ code.length
theorem covI_0 {code : List Int} (hb : Go.Proofs.Ytcfdebamokcjkaa.Bytes code) {L : List (Nat × InsV)} (h : scanAt code 0 = some L) : CovI code L 0 0 := ⟨scan_covers hb _ 0 L (Nat.le_refl _) h, Nat.zero_le _⟩
theorem covI_end {code : List Int} {L : List (Nat × InsV)} {b : Nat} (h : CovI code L L.length b) : b = code.length := by
  obtain ⟨h1, h2⟩ := h
  rw [List.drop_length] at h1
  have : code.length ≤ b := h1
  omega
theorem covI_step {code : List Int} {L : List (Nat × InsV)} {i b : Nat} (h : CovI code L i b) (hi : i < L.length) :
    (posI L).getD i 0 = b ∧ ((insI L).getD i insD).Ok ∧ b % 32 + ((insI L).getD i insD).lay.length ≤ 32 ∧ (code.drop b).take ((insI L).getD i insD).lay.length = ((insI L).getD i insD).lay ∧
      b + ((insI L).getD i insD).lay.length ≤ code.length ∧ CovI code L (i + 1) (b + ((insI L).getD i insD).lay.length) := by
  obtain ⟨h1, h2⟩ := h
  rw [List.drop_eq_getElem_cons hi] at h1
  have e1 : (posI L).getD i 0 = ((L[i]).1 : Int) := by simp [posI, List.getD, hi]
  have e2 : (insI L).getD i insD = (L[i]).2 := by simp [insI, List.getD, hi]
  rw [e1, e2]
  generalize L[i] = p at h1
  obtain ⟨j, x⟩ := p
  obtain ⟨rfl, k1, k2, k3, k4, k5⟩ := h1
  have hx := lay_len k2
  have k6 : j + x.lay.length ≤ code.length := by
    have := congrArg List.length k4
    rw [List.length_take, List.length_drop] at this
    omega
  exact ⟨rfl, k2, k3, k4, k6, k5, k6⟩
theorem ok_size {x : InsV} (h : x.Ok) : Go.Proofs.Ytcfdebamokcjkaa.szO x.op = (x.lay.length : Int) := (Go.Proofs.Ytcfdebamokcjkaa.layL_len h.1).symm
end Go.Proofs.Ytcfdebamokcjkaa.Mm
