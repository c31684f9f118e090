/- Words of a text: the program's Read. -/
import Derived.Test.YtkacplcilkogpaaGreatDoorQBaM
import Derived.Test.YtkacplcilkogpaaGreatDoorQLxA
import Derived.Test.YtkacplcilkogpaaGreatDoorQLexLay
import Derived.Test.YtkacplcilkogpaaGreatDoorQJumps
import Derived.Deep.Slices
import Derived.Deep.Fields
import Derived.ChangeSame
import Derived.Lib.Walk
import Derived.WalkMore
namespace Go.Proofs.YtkacplcilkogpaaGreatDoor.Mm
open Go.ChangeShapes Go.WideShapes Go.ChangeAt Go.RowKit
set_option linter.unusedVariables false

def strB (l : Bs) : ByteArray := ⟨l.toArray⟩
theorem strB_toList (l : Bs) : (strB l).data.toList = l := rfl
theorem strB_size (l : Bs) : (strB l).size = l.length := by show (l.toArray).size = _; simp
theorem strB_of (s : ByteArray) : strB s.data.toList = s := by unfold strB; simp
def pcC (x : Pc) : List Value := [.int .u8 x.1, .string (strB x.2.1), .int .u32 x.2.2]
structure PcAt (w : World) (p : Addr) (x : Pc) : Prop where
  c0 : w.cell? p = some (.int .u8 x.1)
  c1 : w.cell? ⟨p.block, p.off + 1, none⟩ = some (.string (strB x.2.1))
  c2 : w.cell? ⟨p.block, p.off + 2, none⟩ = some (.int .u32 x.2.2)
def pc0 : Pc := (0, [], 0)
/-- a slice that reads as words -/
def PcRow (w : World) (A : Option Addr) (cap : Nat) (l : List Pc) : Prop :=
  l.length ≤ cap ∧ cap ≤ maxLen ∧ (∀ x ∈ l, WordOk x) ∧ (l ≠ [] → ∃ p, A = some p ∧ p.block < w.heap.size ∧ ∀ i, i < l.length → PcAt w (p.add (i * 3)) (l.getD i pc0))
theorem PcAt.below {w w' : World} {p : Addr} {x : Pc} (h : PcAt w p x) (hp : p.block < w.heap.size) (b : Below w.heap.size w w') : PcAt w' p x :=
  ⟨by rw [b.cell hp]; exact h.c0, (b.cell (p := ⟨p.block, p.off + 1, none⟩) hp).trans h.c1, (b.cell (p := ⟨p.block, p.off + 2, none⟩) hp).trans h.c2⟩
theorem pcRow_nil (w : World) : PcRow w none 0 [] := ⟨Nat.le_refl _, Nat.zero_le _, fun x hx => (by cases hx), fun h => absurd rfl h⟩
theorem flatP_len (L : List Pc) : (L.flatMap pcC).length = L.length * 3 := by
  induction L with
  | nil => rfl
  | cons x t ih => rw [List.flatMap_cons, List.length_append, ih, List.length_cons]; show 3 + _ = _; omega
theorem flatP_get (L : List Pc) : ∀ i, i < L.length → ∀ j, j < 3 → (L.flatMap pcC)[i * 3 + j]? = (pcC (L.getD i pc0))[j]? := by
  induction L with
  | nil => intro i hi; simp at hi
  | cons x t ih =>
    intro i hi j hj
    rw [List.flatMap_cons]
    cases i with
    | zero => rw [List.getElem?_append_left (by show _ < 3; omega)]; simp
    | succ i =>
      rw [List.getElem?_append_right (by show 3 ≤ _; omega)]
      rw [show (i + 1) * 3 + j - (pcC x).length = i * 3 + j by show (i + 1) * 3 + j - 3 = _; omega, ih i (by simp at hi; omega) j hj]
      simp
theorem flatP_app (L M : List Pc) : (L ++ M).flatMap pcC = L.flatMap pcC ++ M.flatMap pcC := by simp
theorem flatP_one (x : Pc) : [x].flatMap pcC = pcC x := by simp
theorem pcC_one (x : Pc) : ∀ u ∈ pcC x, u.oneCell' = true := by
  intro u hu
  simp only [pcC, List.mem_cons, List.not_mem_nil, or_false] at hu
  rcases hu with rfl | rfl | rfl <;> rfl
theorem pc_info : (Tryz.prog.info? 63).map (fun i => (i.zero, i.size, i.bytes)) = some (some (.agg #[.int .u8 0, .string ⟨#[]⟩, .int .u32 0]), 3, 32) := by kernel_rfl
theorem addr0P (g k : Nat) : (⟨g, 0, none⟩ : Addr).add k = ⟨g, k, none⟩ := by
  unfold Addr.add
  by_cases h0 : k = 0
  · subst h0; rfl
  · rw [if_neg h0]; simp
theorem pc_of_own {T : TypeId} {w : World} {base n : Nat} {v : Value} {L : List Pc} (h : w.ownsRow base T 3 v n (L.flatMap pcC)) (hw : ∀ x ∈ L, WordOk x) : ∃ A cap, v = .slice A n cap ∧ n = L.length ∧ PcRow w A cap L := by
  have hl : L.length = n := by have := h.1; rw [flatP_len] at this; omega
  rcases h.2 with ⟨rfl, rfl⟩ | ⟨g, cap, cur, rfl, _, hh, hc, hm, _⟩
  · have : L = [] := List.eq_nil_of_length_eq_zero hl
    subst this
    exact ⟨none, 0, rfl, rfl, pcRow_nil w⟩
  · refine ⟨_, cap, rfl, hl.symm, by omega, hm, hw, fun hne => ⟨_, rfl, (h.lt g rfl).2, fun i hi => ?_⟩⟩
    have key : ∀ j, j < 3 → w.cell? ⟨g, i * 3 + j, none⟩ = (pcC (L.getD i pc0))[j]? := fun j hj => by
      have e := flatP_get L i hi j hj
      have hs : ∃ u, (pcC (L.getD i pc0))[j]? = some u := ⟨_, List.getElem?_eq_getElem (show j < (pcC _).length from hj)⟩
      obtain ⟨u, hu⟩ := hs
      rw [hu] at e ⊢
      have := h.cells (g := g) rfl _ u e
      rw [addr0P] at this
      exact this
    rw [addr0P]
    exact ⟨key 0 (by decide), key 1 (by decide), key 2 (by decide)⟩
theorem cells3P {w : World} {p : Addr} {t : Pc} (h : PcAt w p t) (hs : p.spot = none) : ∀ j u, (pcC t)[j]? = some u → w.cell? (p.add j) = some u := by
  obtain ⟨b, o, s⟩ := p
  subst hs
  intro j u hj
  match j, hj with
  | 0, hj => simp [pcC] at hj; subst hj; simpa [Addr.add] using h.c0
  | 1, hj => simp [pcC] at hj; subst hj; simpa [Addr.add] using h.c1
  | 2, hj => simp [pcC] at hj; subst hj; simpa [Addr.add] using h.c2
  | j + 3, hj => simp [pcC] at hj
theorem pcAt_new (w : World) (y : Pc) (T : TypeId) : PcAt (w.alloc (.cells #[.int .u8 y.1, .string (strB y.2.1), .int .u32 y.2.2] T)) ⟨w.heap.size, 0, none⟩ y := by
  have h := HasB.new w T (pcC y)
  exact ⟨h.cell 0, h.cell 1, h.cell 2⟩
theorem below_drewP {B : Nat} {w w' : World} (h : Below B w w') : Below B w w'.drew := ⟨h.os, h.tape, h.output, h.size, h.block⟩
theorem own_belowP {A B : World} {base size n : Nat} {e : TypeId} {v : Value} {xs : List Value} (h : A.ownsRow base e size v n xs) (b : Below A.heap.size A B) : B.ownsRow base e size v n xs := by
  refine h.kept (row := none) ⟨b.os, b.tape, b.output, b.size, fun k hk _ => b.block k hk⟩ ?_
  rcases h.2 with ⟨rfl, _⟩ | ⟨g, cap, cur, rfl, _, hgb, _⟩
  · exact .inl rfl
  · exact .inr (fun e' => by cases e')
theorem below_of_ownP {w w' : World} {base e size n : Nat} {v : Value} {xs : List Value} (h : w.ownsRow base e size v n xs) (hb : base ≤ w.heap.size) (hg : w.grownBy w' v.ownBlock) : Below base w w' :=
  (Below.refl base w).grown hg hb (fun k hk => (h.lt k hk).1)
theorem append_pc {w : World} {ops : Array Oper} {rest : List Oper} {o : Oper} {a : Act} {Q : Exit → Act → World → Prop} (hgd : o.guard = none) (s x : Operand)
    (ho : o.op = .call { callee := .builtin .append, args := #[s, x], argTypes := #[38, 38] })
    (base : Nat) (v : Value) (n : Nat) (L : List Pc) (hs : a.eval s = v) (hown : w.ownsRow base 63 3 v n (L.flatMap pcC)) (hW : ∀ x ∈ L, WordOk x)
    (g c : Nat) (y : Pc) (hx : a.eval x = .slice (some ⟨g, 0, none⟩) 1 c) (hT : PcAt w ⟨g, 0, none⟩ y) (hy : WordOk y) (n' : Nat) (hn' : n' = n + 1) (hlen : n ≤ 100000) (hbase : base ≤ w.heap.size)
    (h : ∀ A' cap' w', w'.ownsRow base 63 3 (.slice A' n' cap') n' ((L ++ [y]).flatMap pcC) → w.grownBy w' v.ownBlock → PcRow w' A' cap' (L ++ [y]) → Below base w w' → wpList Tryz.prog ops Q rest (a.put o.dst (.slice A' n' cap')) w') :
    wpList Tryz.prog ops Q (o :: rest) a w := by
  subst hn'
  obtain ⟨u0, hu0, hz0, hz1, hz2⟩ := info_parts pc_info
  refine wpList_append_own w hgd s x 38 ho base 63 u0 _ 3 32 Tryz.underlying38 hu0 hz0 hz1 hz2 rfl (by decide) v n (L.flatMap pcC) hs hown ⟨g, 0, none⟩ 1 c (pcC y) hx rfl
    (cells3P hT rfl) (pcC_one y) (by unfold maxLen; omega) (by omega) hbase ?_
  intro v' w' hown' hg _
  have hown' : w'.ownsRow base 63 3 v' (n + 1) ((L ++ [y]).flatMap pcC) := by rw [flatP_app, flatP_one]; exact hown'
  obtain ⟨A', cap', rfl, _, hrow⟩ := pc_of_own hown' (fun x hx => by
    rcases List.mem_append.1 hx with k | k
    · exact hW x k
    · simp at k; subst k; exact hy)
  exact h A' cap' w' hown' hg hrow (below_of_ownP hown hbase hg)

/-- the two errors of the library that a number may come to hold what is no nil -/
def ErrV (w : World) : Prop := ∃ t0 p0 t1 p1, w.var? Tryz.prog "strconv.ErrSyntax" = some #[.iface t0 p0] ∧ w.var? Tryz.prog "strconv.ErrRange" = some #[.iface t1 p1]
theorem var_below {w w' : World} {n : String} {cs : Array Value} (h : w.var? Tryz.prog n = some cs) (b : Below w.heap.size w w') : w'.var? Tryz.prog n = some cs := by
  unfold World.var? at h ⊢
  cases hg : Tryz.prog.globalNamed n with
  | none => rw [hg] at h; cases h
  | some g =>
    simp only [hg, Option.bind_some] at h ⊢
    have hlt : g < w.heap.size := by
      rcases Nat.lt_or_ge g w.heap.size with h' | h'
      · exact h'
      · rw [Array.getElem?_eq_none h'] at h; cases h
    rw [b.block g hlt]
    exact h
theorem ErrV.below {w w' : World} (h : ErrV w) (b : Below w.heap.size w w') : ErrV w' := by
  obtain ⟨t0, p0, t1, p1, h0, h1⟩ := h
  exact ⟨t0, p0, t1, p1, var_below h0 b, var_below h1 b⟩
set_option maxHeartbeats 1000000 in
set_option maxRecDepth 100000 in
theorem lindex_any (s : ByteArray) (c : Int) (w : World) : Calls Tryz.prog 48 #[.string s, .int .u8 c] w fun e w' => e = .returned (.int .i64 (Lib.indexByte s.data.toList c.toNat.toUInt8)) ∧ w = w' := by
  go_enter Tryz.func48, Tryz.ntmps48
  go_wp2
  rw [run_callFunc_extern Tryz.func67 (by kernel_rfl) (by kernel_rfl) (by kernel_rfl) (e := Extern.BytealgIndexByte.indexByte) (by kernel_rfl), Lib.run_indexByteString]
  simp only [Result.andThen]
  rw [Oper.upon_value]
  go_wp2
  go_ret
  exact ⟨rfl, rfl⟩
theorem sindex_any (s : ByteArray) (c : Int) (w : World) : Calls Tryz.prog 30 #[.string s, .int .u8 c] w fun e w' => e = .returned (.int .i64 (Lib.indexByte s.data.toList c.toNat.toUInt8)) ∧ w = w' := by
  go_enter Tryz.func30, Tryz.ntmps30
  go_wp2_with fail
  refine (lindex_any _ _ _).mono ?_; rintro e w1 ⟨rfl, rfl⟩
  go_wp2
  go_ret
  exact ⟨rfl, rfl⟩
theorem sclone_any (s : ByteArray) (w : World) (hlim : s.size ≤ 281474976710656) : Calls Tryz.prog 68 #[.string s] w fun e w' => e = .returned (.string s) ∧ Below w.heap.size w w' := by
  have C := Lib.hid (AnyPu.stringslite_Clone cloneL s w hlim)
  go_enter Tryz.func68, Tryz.ntmps68
  go_wp2_with fail
  refine C.out.mono ?_; rintro e w1 ⟨rfl, hb⟩
  have B := Lib.hid hb
  clear hb
  go_wp2
  go_ret
  exact ⟨rfl, B.out⟩
theorem toList_of (s : ByteArray) : s.toList = s.data.toList := Lib.toList_data s
theorem sprefix_any (s : ByteArray) (w : World) : Calls Tryz.prog 47 #[.string s, .string ⟨#[61, 61]⟩] w fun e w' => e = .returned (.bool (Lib.hasPrefix s.data.toList [61, 61])) ∧ w = w' := by
  have HR := Lib.hid (Lib.hasPrefix_raw s ⟨#[61, 61]⟩)
  have e2 : (⟨#[61, 61]⟩ : ByteArray).size = 2 := rfl
  have e3 : (⟨#[61, 61]⟩ : ByteArray).toList = [61, 61] := by rw [toList_of]
  have HS := Lib.hid e2
  have HT := Lib.hid e3
  clear e2 e3
  go_enter Tryz.func47, Tryz.ntmps47
  go_wp2
  · have h2 : 2 ≤ (s.size : Int) := by assumption
    go_ret
    refine ⟨ret_bool ?_, rfl⟩
    have hr := HR.out
    rw [HS.out, HT.out] at hr
    rw [← hr, decide_eq_true (by omega), Bool.true_and]
  · have h2 : (s.size : Int) < 2 := by assumption
    go_ret
    refine ⟨ret_bool ?_, rfl⟩
    have hr := HR.out
    rw [HS.out] at hr
    rw [← hr, decide_eq_false (by omega), Bool.false_and]
theorem hprefix_any (s : ByteArray) (w : World) : Calls Tryz.prog 52 #[.string s, .string ⟨#[61, 61]⟩] w fun e w' => e = .returned (.bool (Lib.hasPrefix s.data.toList [61, 61])) ∧ w = w' := by
  go_enter Tryz.func52, Tryz.ntmps52
  go_wp2_with fail
  refine (sprefix_any _ _).mono ?_; rintro e w1 ⟨rfl, rfl⟩
  go_wp2
  go_ret
  exact ⟨rfl, rfl⟩
set_option maxHeartbeats 1000000 in
theorem key_any (s : ByteArray) (w : World) : Calls Tryz.prog 49 #[.string s] w fun e w' => e = .returned (.bool (isK s.data.toList)) ∧ w = w' := by
  go_enter Tryz.func49, Tryz.ntmps49
  go_wp2
  all_goals
    rw [← toList_of]
    go_ret
    refine ⟨ret_bool ?_, rfl⟩
    unfold isK lkeys
    simp_all
def aggP (x : Pc) : Value := .agg #[.int .u8 x.1, .string (strB x.2.1), .int .u32 x.2.2]
def optP (o : Option Pc) : Value := .tuple #[aggP (o.getD pc0), .bool o.isSome]
theorem nw_cells (w : World) : HasB (w.alloc (.cells #[.int .u8 0, .string ⟨#[]⟩, .int .u32 0] 63)) w.heap.size 63 [.int .u8 0, .string ⟨#[]⟩, .int .u32 0] := HasB.new w _ _
theorem set3_bel {w w' : World} {g : Nat} (hg : w.heap.size ≤ g) (b : Below w.heap.size w w') (u0 u1 u2 : Value) : Below w.heap.size w (((w'.setCell ⟨g, 0, none⟩ u0).setCell ⟨g, 1, none⟩ u1).setCell ⟨g, 2, none⟩ u2) :=
  ((b.setCell hg u0).setCell hg u1).setCell hg u2
theorem piece_any (k v : Int) (t : ByteArray) (ht : t.size ≤ 281474976710656) (w : World) :
    Calls Tryz.prog 50 #[.int .u8 k, .string t, .int .u32 v] w fun e w' => e = .returned (.agg #[.int .u8 k, .string t, .int .u32 v]) ∧ Below w.heap.size w w' := by
  have C := Lib.hid (fun W => sclone_any t W ht)
  have N0 := Lib.hid (nw_cells w)
  have B0 := Lib.hid (bel_al (Below.refl _ w) (.cells #[.int .u8 0, .string ⟨#[]⟩, .int .u32 0] 63))
  go_enter Tryz.func50, Tryz.ntmps50
  go_wp2_with fail
  refine (C.out _).mono ?_; rintro e w1 ⟨rfl, hb⟩
  have B1 := Lib.hid (bel_then B0.out hb)
  have N1 := N0.out.below hb
  clear hb
  have c0 := N1.cell 0
  have c1 := N1.cell 1
  have c2 := N1.cell 2
  have f0 := N1.frozen 0
  have f1 := N1.frozen 1
  have f2 := N1.frozen 2
  simp only [List.getElem?_cons_zero, List.getElem?_cons_succ] at c0 c1 c2
  clear N1
  go_wp2
  exact bodyPost_ret (v := .agg #[.int .u8 k, .string t, .int .u32 v]) (by simp [results, Tryz.results50, go_sem, c0, c1, c2]) rfl ⟨rfl, set3_bel (Nat.le_refl _) B1.out _ _ _⟩
theorem name_any (t : ByteArray) (ht : t.size ≤ 100000) (w : World) :
    Calls Tryz.prog 31 #[.string t] w fun e w' => e = .returned (optP (nameL t.data.toList)) ∧ Below w.heap.size w w' := by
  have hsz : t.size = t.data.toList.length := by show t.data.size = _; simp
  have N0 := Lib.hid (nw_cells w)
  have B0 := Lib.hid (bel_al (Below.refl _ w) (.cells #[.int .u8 0, .string ⟨#[]⟩, .int .u32 0] 63))
  by_cases h8 : 8 < t.size
  · have hv : Hid (optP (nameL t.data.toList) = .tuple #[.agg #[.int .u8 0, .string ⟨#[]⟩, .int .u32 0], .bool false]) := Lib.hid (by unfold nameL; rw [if_pos (by omega)]; rfl)
    have c0 := N0.out.cell 0
    have c1 := N0.out.cell 1
    have c2 := N0.out.cell 2
    have f0 := N0.out.frozen 0
    have f1 := N0.out.frozen 1
    have f2 := N0.out.frozen 2
    simp only [List.getElem?_cons_zero, List.getElem?_cons_succ] at c0 c1 c2
    clear hsz
    go_enter Tryz.func31, Tryz.ntmps31
    go_wp2_with fail
    refine bodyPost_ret (v := .tuple #[.agg #[.int .u8 0, .string ⟨#[]⟩, .int .u32 0], .bool false]) (by simp [results, Tryz.results31, go_sem, c0, c1, c2]) rfl ⟨by rw [hv.out], B0.out⟩
  · have CK := Lib.hid (fun W => key_any t W)
    have h8' : (t.size : Int) ≤ 8 := by omega
    have CP := Lib.hid (fun k W => piece_any k 0 t (by omega) W)
    cases hq : isK t.data.toList
    · have hv : Hid (nameL t.data.toList = _) := Lib.hid (by unfold nameL; rw [if_neg (by omega), hq])
      rw [hq] at CK
      clear hsz h8 hq
      go_enter Tryz.func31, Tryz.ntmps31
      go_wp2_with fail
      refine (CK.out _).mono ?_; rintro e w1 ⟨rfl, rfl⟩
      go_wp2_with fail
      refine (CP.out _ _).mono ?_; rintro e w1 ⟨rfl, hb⟩
      have B1 := Lib.hid (bel_then B0.out hb)
      have N1 := N0.out.below hb
      clear hb CK CP
      have c0 := N1.cell 0
      have c1 := N1.cell 1
      have c2 := N1.cell 2
      have f0 := N1.frozen 0
      have f1 := N1.frozen 1
      have f2 := N1.frozen 2
      simp only [List.getElem?_cons_zero, List.getElem?_cons_succ] at c0 c1 c2
      clear N1
      go_wp2
      exact bodyPost_ret (v := .tuple #[.agg #[.int .u8 110, .string t, .int .u32 0], .bool true]) (by simp [results, Tryz.results31, go_sem, c0, c1, c2]) rfl ⟨by rw [hv.out]; simp [optP, aggP, strB_of], set3_bel (Nat.le_refl _) B1.out _ _ _⟩
    · have hv : Hid (nameL t.data.toList = _) := Lib.hid (by unfold nameL; rw [if_neg (by omega), hq])
      rw [hq] at CK
      clear hsz h8 hq
      go_enter Tryz.func31, Tryz.ntmps31
      go_wp2_with fail
      refine (CK.out _).mono ?_; rintro e w1 ⟨rfl, rfl⟩
      go_wp2_with fail
      refine (CP.out _ _).mono ?_; rintro e w1 ⟨rfl, hb⟩
      have B1 := Lib.hid (bel_then B0.out hb)
      have N1 := N0.out.below hb
      clear hb CK CP
      have c0 := N1.cell 0
      have c1 := N1.cell 1
      have c2 := N1.cell 2
      have f0 := N1.frozen 0
      have f1 := N1.frozen 1
      have f2 := N1.frozen 2
      simp only [List.getElem?_cons_zero, List.getElem?_cons_succ] at c0 c1 c2
      clear N1
      go_wp2
      exact bodyPost_ret (v := .tuple #[.agg #[.int .u8 107, .string t, .int .u32 0], .bool true]) (by simp [results, Tryz.results31, go_sem, c0, c1, c2]) rfl ⟨by rw [hv.out]; simp [optP, aggP, strB_of], set3_bel (Nat.le_refl _) B1.out _ _ _⟩
theorem bel_bytes {w w' : World} {t : TypeId} {s : ByteArray} (h : w' = w ∨ w' = Lib.bytesWorld w t s) : Below w.heap.size w w' := by
  rcases h with rfl | rfl
  · exact Below.refl _ _
  · exact Lib.bytesWorld_below _ _ _
theorem parse_ok (s : ByteArray) (hm : s.size ≤ 100000) (u : Nat) (h : Lib.parseUintB 32 s.data.toList = .ok u) (w : World) :
    Calls Tryz.prog 51 #[.string s, .int .i64 10, .int .i64 32] w fun e w' => e = .returned (.tuple #[.int .u64 u, .nilIface]) ∧ Below w.heap.size w w' :=
  (Any.strconv_ParseUint_10_at32_ok parseL s (by omega) u h w).mono fun _ _ h => ⟨h.1, bel_bytes h.2⟩
theorem parse_no (s : ByteArray) (hm : s.size ≤ 100000) (h : ∀ u, Lib.parseUintB 32 s.data.toList ≠ .ok u) (w : World) (hE : ErrV w) :
    Calls Tryz.prog 51 #[.string s, .int .i64 10, .int .i64 32] w fun e w' => ∃ x N, e = .returned (.tuple #[.int .u64 x, .iface 136 (.pointer (some ⟨N, 0, none⟩))]) ∧ Below w.heap.size w w' := by
  obtain ⟨t0, p0, t1, p1, h0, h1⟩ := hE
  rcases hq : Lib.parseUintB 32 s.data.toList with u | _ | _
  · exact absurd hq (h u)
  · exact (Any.strconv_ParseUint_10_at32_syntax_var parseL s (by omega) hq t0 p0 w h0).mono fun _ _ ⟨N, h1, _, _, h4⟩ => ⟨_, N, h1, h4⟩
  · exact (Any.strconv_ParseUint_10_at32_range_var parseL s (by omega) hq t1 p1 w h1).mono fun _ _ ⟨N, h1, _, _, h4⟩ => ⟨_, N, h1, h4⟩
theorem head_byte (t : ByteArray) (h : 0 < t.size) : t.data.toList.headD 0 = t[0] := by
  obtain ⟨⟨l⟩⟩ := t
  match l, h with
  | c :: l, _ => rfl
set_option maxHeartbeats 1000000 in
theorem num_any (t : ByteArray) (ht : t.size ≤ 100000) (h0 : 0 < t.size) (w : World) (hE : ErrV w) :
    Calls Tryz.prog 33 #[.string t] w fun e w' => e = .returned (optP (numL t.data.toList)) ∧ Below w.heap.size w w' := by
  have hsz : t.size = t.data.toList.length := by show t.data.size = _; simp
  have hh := head_byte t h0
  have N0 := Lib.hid (nw_cells w)
  have B0 := Lib.hid (bel_al (Below.refl _ w) (.cells #[.int .u8 0, .string ⟨#[]⟩, .int .u32 0] 63))
  have E0 := Lib.hid (hE.below B0.out)
  by_cases hp : ∃ u, Lib.parseUintB 32 t.data.toList = .ok u
  · obtain ⟨u, hu⟩ := hp
    have C := Lib.hid (fun W => parse_ok t ht u hu W)
    by_cases hz : t[0] = 48 ∧ 1 < t.size
    · have hv : Hid (numL t.data.toList = none) := Lib.hid (by unfold numL; rw [hu]; simp only; rw [if_pos (by rw [hh]; exact ⟨hz.1, by omega⟩)])
      obtain ⟨z0, z1⟩ := hz
      have z2 : ((t[0].toNat : Int) == 48) = true := by rw [z0]; rfl
      have z3 : decide (1 < t.size) = true := decide_eq_true z1
      have z4 : decide (1 < (t.size : Int)) = true := decide_eq_true (by omega)
      clear hsz hh hE hu z0
      go_enter Tryz.func33, Tryz.ntmps33
      go_wp2_with fail
      refine (C.out _).mono ?_; rintro e w1 ⟨rfl, hb⟩
      have B1 := Lib.hid (bel_then B0.out hb)
      have N1 := N0.out.below hb
      clear hb C
      have c0 := N1.cell 0
      have c1 := N1.cell 1
      have c2 := N1.cell 2
      have f0 := N1.frozen 0
      have f1 := N1.frozen 1
      have f2 := N1.frozen 2
      simp only [List.getElem?_cons_zero, List.getElem?_cons_succ] at c0 c1 c2
      clear N1
      go_wp2
      exact bodyPost_ret (v := .tuple #[.agg #[.int .u8 0, .string ⟨#[]⟩, .int .u32 0], .bool false]) (by simp [results, Tryz.results33, go_sem, c0, c1, c2]) rfl ⟨by rw [hv.out]; rfl, set3_bel (Nat.le_refl _) B1.out _ _ _⟩
    · have hle : u ≤ 4294967295 := (num_len hu (by rw [hh, ← hsz]; exact hz)).2
      have hv : Hid (numL t.data.toList = some (48, t.data.toList, (u : Int))) := Lib.hid (by unfold numL; rw [hu]; simp only; rw [if_neg (by rw [hh, ← hsz]; exact hz)])
      have CP := Lib.hid (fun W => piece_any 48 u t (by omega) W)
      have hz2 : ((t[0].toNat : Int) == 48) = false ∨ (((t[0].toNat : Int) == 48) = true ∧ decide (1 < t.size) = false ∧ decide (1 < (t.size : Int)) = false) := by
        cases hq : ((t[0].toNat : Int) == 48)
        · exact .inl rfl
        · right
          have e : t[0] = 48 := by
            have : (t[0].toNat : Int) = 48 := by simpa using hq
            exact UInt8.toNat_inj.1 (by show t[0].toNat = 48; omega)
          exact ⟨rfl, decide_eq_false (fun h => hz ⟨e, h⟩), decide_eq_false (fun h => hz ⟨e, by omega⟩)⟩
      have hv0 : (0 : Int) ≤ u := by omega
      have hv1 : (u : Int) ≤ 4294967295 := by omega
      clear hsz hh hE hu hz hle
      rcases hz2 with z2 | ⟨z2, z3, z4⟩
      all_goals
        go_enter Tryz.func33, Tryz.ntmps33
        go_wp2_with fail
        refine (C.out _).mono ?_; rintro e w1 ⟨rfl, hb⟩
        have B1 := Lib.hid (bel_then B0.out hb)
        have N1 := Lib.hid (N0.out.below hb)
        clear hb C
        go_wp2_with fail
        refine (CP.out _).mono ?_; rintro e w2 ⟨rfl, hb⟩
        have B2 := Lib.hid (bel_then B1.out hb)
        have N1 := N1.out.below hb
        clear hb CP
        have c0 := N1.cell 0
        have c1 := N1.cell 1
        have c2 := N1.cell 2
        have f0 := N1.frozen 0
        have f1 := N1.frozen 1
        have f2 := N1.frozen 2
        simp only [List.getElem?_cons_zero, List.getElem?_cons_succ] at c0 c1 c2
        clear N1
        go_wp2
        exact bodyPost_ret (v := .tuple #[.agg #[.int .u8 48, .string t, .int .u32 u], .bool true]) (by simp [results, Tryz.results33, go_sem, c0, c1, c2]) rfl ⟨by rw [hv.out]; simp [optP, aggP, strB_of], set3_bel (Nat.le_refl _) B2.out _ _ _⟩
  · have hp' : ∀ u, Lib.parseUintB 32 t.data.toList ≠ .ok u := fun u h => hp ⟨u, h⟩
    have hv : Hid (numL t.data.toList = none) := Lib.hid (by
      unfold numL
      split
      · rename_i u hu; exact absurd hu (hp' u)
      · rfl)
    have C := Lib.hid (parse_no t ht hp' _ E0.out)
    clear hsz hh hE hp hp'
    go_enter Tryz.func33, Tryz.ntmps33
    go_wp2_with fail
    refine C.out.mono ?_; rintro e w1 ⟨x, N, rfl, hb⟩
    have B1 := Lib.hid (bel_then B0.out hb)
    have N1 := N0.out.below hb
    clear hb C
    have c0 := N1.cell 0
    have c1 := N1.cell 1
    have c2 := N1.cell 2
    have f0 := N1.frozen 0
    have f1 := N1.frozen 1
    have f2 := N1.frozen 2
    simp only [List.getElem?_cons_zero, List.getElem?_cons_succ] at c0 c1 c2
    clear N1
    go_wp2
    exact bodyPost_ret (v := .tuple #[.agg #[.int .u8 0, .string ⟨#[]⟩, .int .u32 0], .bool false]) (by simp [results, Tryz.results33, go_sem, c0, c1, c2]) rfl ⟨by rw [hv.out]; rfl, set3_bel (Nat.le_refl _) B1.out _ _ _⟩
theorem sign_any (t : ByteArray) (ht : t.size ≤ 100000) (h0 : 0 < t.size) (w : World) :
    Calls Tryz.prog 34 #[.string t] w fun e w' => e = .returned (aggP (signL t.data.toList)) ∧ Below w.heap.size w w' := by
  have N0 := Lib.hid (nw_cells w)
  have B0 := Lib.hid (bel_al (Below.refl _ w) (.cells #[.int .u8 0, .string ⟨#[]⟩, .int .u32 0] 63))
  have CH := Lib.hid (fun W => hprefix_any t W)
  have h1 : 1 ≤ t.size := h0
  have h1i : (1 : Int) ≤ t.size := by omega
  cases hq : Lib.hasPrefix t.data.toList [61, 61]
  · have hv : Hid (signL t.data.toList = (115, (t.extract 0 1).data.toList, 0)) := Lib.hid (by unfold signL; rw [hq, if_neg (by decide)]; simp)
    have hs1 : (t.extract 0 1).size ≤ 100000 := by simp; omega
    have CP := Lib.hid (fun W => piece_any 115 0 (t.extract 0 1) (by omega) W)
    rw [hq] at CH
    clear hq hs1
    go_enter Tryz.func34, Tryz.ntmps34
    go_wp2_with fail
    refine (CH.out _).mono ?_; rintro e w1 ⟨rfl, rfl⟩
    go_wp2_with fail
    refine (CP.out _).mono ?_; rintro e w2 ⟨rfl, hb⟩
    have B1 := Lib.hid (bel_then B0.out hb)
    have N1 := N0.out.below hb
    clear hb CP CH
    have c0 := N1.cell 0
    have c1 := N1.cell 1
    have c2 := N1.cell 2
    have f0 := N1.frozen 0
    have f1 := N1.frozen 1
    have f2 := N1.frozen 2
    simp only [List.getElem?_cons_zero, List.getElem?_cons_succ] at c0 c1 c2
    clear N1
    go_wp2
    exact bodyPost_ret (v := .agg #[.int .u8 115, .string (t.extract 0 1), .int .u32 0]) (by simp [results, Tryz.results34, go_sem, c0, c1, c2]) rfl ⟨by rw [hv.out]; simp only [aggP, strB_of], set3_bel (Nat.le_refl _) B1.out _ _ _⟩
  · have hv : Hid (signL t.data.toList = (115, [61, 61], 0)) := Lib.hid (by unfold signL; rw [hq, if_pos rfl])
    have CP := Lib.hid (fun W => piece_any 115 0 ⟨#[61, 61]⟩ (by decide) W)
    rw [hq] at CH
    clear hq
    go_enter Tryz.func34, Tryz.ntmps34
    go_wp2_with fail
    refine (CH.out _).mono ?_; rintro e w1 ⟨rfl, rfl⟩
    go_wp2_with fail
    refine (CP.out _).mono ?_; rintro e w2 ⟨rfl, hb⟩
    have B1 := Lib.hid (bel_then B0.out hb)
    have N1 := N0.out.below hb
    clear hb CP CH
    have c0 := N1.cell 0
    have c1 := N1.cell 1
    have c2 := N1.cell 2
    have f0 := N1.frozen 0
    have f1 := N1.frozen 1
    have f2 := N1.frozen 2
    simp only [List.getElem?_cons_zero, List.getElem?_cons_succ] at c0 c1 c2
    clear N1
    go_wp2
    exact bodyPost_ret (v := .agg #[.int .u8 115, .string ⟨#[61, 61]⟩, .int .u32 0]) (by simp [results, Tryz.results34, go_sem, c0, c1, c2]) rfl ⟨by rw [hv.out]; rfl, set3_bel (Nat.le_refl _) B1.out _ _ _⟩
def telF (h : Nat) : Value := .func (.func 29) #[] #[.pointer (some ⟨h, 0, none⟩)]
theorem size_list (s : ByteArray) : s.data.toList.length = s.size := by show _ = s.data.size; simp
theorem list_get (s : ByteArray) (k : Nat) (h : k < s.size) : s.data.toList.getD k 0 = s[k] := by
  have h2 : k < s.data.size := h
  have e : s.data[k]? = some (s.data[k]'h2) := Array.getElem?_eq_getElem h2
  simp only [List.getD, Array.getElem?_toList, e, Option.getD_some]
  rfl
theorem tell_any (s : ByteArray) (h : Nat) (k : Nat) (w : World) (X : HasB w h 9 [.string s]) :
    Calls Tryz.prog 29 #[.int .i64 k, .pointer (some ⟨h, 0, none⟩)] w fun e w' => e = .returned (.int .i64 (tell s.data.toList k)) ∧ w = w' := by
  have d0 := X.cell 0
  simp only [List.getElem?_cons_zero] at d0
  clear X
  by_cases hk : k < s.size
  · have ht := tell_lt (l := s.data.toList) (k := k) (by rw [size_list]; exact hk)
    rw [list_get s k hk] at ht
    have CI := Lib.hid (fun (c : UInt8) W => sindex_any ⟨#[123, 125, 91, 93, 40, 41, 59, 61, 60, 43, 45, 42, 47, 37]⟩ (c.toNat : Int) W)
    have HT := Lib.hid ht
    have hki : (k : Int) < (s.size : Int) := by omega
    clear ht
    go_enter Tryz.func29, Tryz.ntmps29
    go_wp2_with (go_at_call 30; refine (CI.out s[k] _).mono ?_; rintro e w1 ⟨rfl, rfl⟩)
    all_goals
      go_ret
      refine ⟨ret_int ?_, rfl⟩
      rw [HT.out]
      clear HT CI
      generalize s[k] = c at *
      try simp only [beq_iff_eq, beq_eq_false_iff_ne, ne_eq] at *
      unfold cls isL isD isG isM lmarks
      simp only [decide_eq_true_eq]
      split
      · first | rfl | (exfalso; omega)
      · split
        · first | rfl | (exfalso; omega)
        · split
          · first | rfl | (exfalso; omega)
          · first | rfl | (exfalso; omega) | (rw [if_pos (by assumption)]; done) | (rw [if_neg (by omega)]; done)
  · have HT := Lib.hid (tell_ge (l := s.data.toList) (k := k) (by rw [size_list]; omega))
    have hki : (s.size : Int) ≤ (k : Int) := by omega
    go_enter Tryz.func29, Tryz.ntmps29
    go_wp2
    go_ret
    exact ⟨ret_int HT.out.symm, rfl⟩
theorem teller_any (s : ByteArray) (w : World) : Calls Tryz.prog 18 #[.string s] w fun e w' => e = .returned (telF w.heap.size) ∧ w' = w.alloc (.cells #[.string s] 9) := by
  go_enter Tryz.func18, Tryz.ntmps18
  go_wp2
  go_ret
  exact ⟨rfl, rfl⟩
theorem tell_run : ∀ (l : Bs) (j : Nat), (j < (runL l).length → tell l j = 1 ∨ tell l j = 2) ∧ (j = (runL l).length → tell l j ≠ 1 ∧ tell l j ≠ 2) := by
  intro l
  induction l with
  | nil =>
    intro j
    refine ⟨fun h => by simp [runL] at h, fun h => ?_⟩
    rw [tell_ge (by simp)]
    decide
  | cons c r ih =>
    intro j
    cases hc : alnum c
    · have e : runL (c :: r) = [] := by unfold runL; simp [hc]
      rw [e]
      refine ⟨fun h => by simp at h, fun h => ?_⟩
      obtain rfl : j = 0 := h
      rw [tell_0]
      unfold alnum at hc
      simp only [Bool.or_eq_false_iff] at hc
      constructor
      · intro e1; have := cls_1 e1; rw [hc.1] at this; cases this
      · intro e1; have := (cls_2 e1).2; rw [hc.2] at this; cases this
    · rw [head_run hc]
      cases j with
      | zero =>
        refine ⟨fun _ => ?_, fun h => by simp at h⟩
        rw [tell_0]
        unfold alnum at hc
        unfold cls
        cases hL : isL c
        · rw [hL] at hc
          simp only [Bool.false_or] at hc
          rw [hc]
          exact .inr rfl
        · exact .inl rfl
      | succ j =>
        obtain ⟨h1, h2⟩ := ih j
        have e : tell (c :: r) (j + 1) = tell r j := rfl
        rw [e, List.length_cons]
        exact ⟨fun h => h1 (by omega), fun h => h2 (by omega)⟩
set_option maxHeartbeats 1000000 in
theorem behind_any (s : ByteArray) (hs : s.size ≤ 100000) (h : Nat) (k R : Nat) (hk : k ≤ s.size) (hR : R = (runL (s.data.toList.drop k)).length) (w : World) (X : HasB w h 9 [.string s]) :
    Calls Tryz.prog 32 #[.int .i64 k, telF h] w fun e w' => e = .returned (.int .i64 ((k + R : Nat) : Int)) ∧ w = w' := by
  have CT := Lib.hid (fun j => tell_any s h j w X)
  have HT := Lib.hid (fun j => tell_run (s.data.toList.drop k) j)
  have hb : R ≤ s.size - k := by
    have := run_len (s.data.toList.drop k)
    rw [List.length_drop, size_list] at this
    omega
  have HR := Lib.hid hR
  clear X hR
  unfold telF
  go_enter Tryz.func32, Tryz.ntmps32
  go_wp2
  go_loop [0] (fun a => ∃ m : Nat, a = .int .i64 m ∧ k ≤ m ∧ m ≤ k + R) (fun a => (k + R) - (intOf a).toNat)
  case atStart => exact ⟨k, rfl, Nat.le_refl _, by omega⟩
  case round =>
    obtain ⟨m, rfl, hkm, hm⟩ := hrel
    have C1 := Lib.hid (CT.out m)
    have T := HT.out (m - k)
    rw [← HR.out, tell_drop, show k + (m - k) = m by omega] at T
    by_cases hlt : m < k + R
    · rcases T.1 (by omega) with ht | ht
      all_goals
        rw [ht] at C1
        clear T CT HT
        go_wp2_with ((with_reducible refine (C1.out).mono ?_); rintro e w1 ⟨rfl, rfl⟩)
        go_round
        case rel => exact ⟨m + 1, by go_num, by omega, by omega⟩
        case measure => simp [intOf]; omega
    · obtain ⟨t1, t2⟩ := T.2 (by omega)
      have e : (m : Int) = ((k + R : Nat) : Int) := by omega
      have HE := Lib.hid e
      clear e
      generalize tell s.data.toList m = q at *
      have t1 : (q == 1) = false := by simpa using t1
      have t2 : (q == 2) = false := by simpa using t2
      clear T CT HT
      go_wp2_with ((with_reducible refine (C1.out).mono ?_); rintro e w1 ⟨rfl, rfl⟩)
      go_ret
      exact ⟨ret_int HE.out, rfl⟩
theorem ext_run (s : ByteArray) (k R : Nat) (hR : R = (runL (s.data.toList.drop k)).length) : (s.extract k (k + R)).data.toList = runL (s.data.toList.drop k) := by
  rw [run_pre, ← hR]
  simp [List.extract_eq_take_drop]
theorem ext_end (s : ByteArray) (k : Nat) : (s.extract k s.size).data.toList = s.data.toList.drop k := by
  simp [List.extract_eq_take_drop]
  rw [List.take_of_length_le]
  rw [List.length_drop, size_list]
  exact Nat.le_refl _
theorem run_pos {l : Bs} (h : tell l 0 = 1 ∨ tell l 0 = 2) : 0 < (runL l).length := by
  rcases Nat.eq_zero_or_pos (runL l).length with e | e
  · have := (tell_run l 0).2 e.symm
    rcases h with h | h
    · exact absurd h this.1
    · exact absurd h this.2
  · exact e
theorem optP_open (o : Option Pc) : ∃ k T v b, optP o = .tuple #[.agg #[.int .u8 k, .string T, .int .u32 v], .bool b] := ⟨_, _, _, _, rfl⟩
set_option maxHeartbeats 1000000 in
theorem word_any (s : ByteArray) (hs : s.size ≤ 100000) (h : Nat) (k : Nat) (hk : k < s.size) (w : World) (X : HasB w h 9 [.string s]) (hE : ErrV w) :
    Calls Tryz.prog 19 #[.string s, .int .i64 k, telF h] w fun e w' => e = .returned (optP (wordL (s.data.toList.drop k))) ∧ Below w.heap.size w w' := by
  have N0 := Lib.hid (nw_cells w)
  have B0 := Lib.hid (bel_al (Below.refl _ w) (.cells #[.int .u8 0, .string ⟨#[]⟩, .int .u32 0] 63))
  have X0 := X.below B0.out
  have E0 := hE.below B0.out
  have CT := Lib.hid (tell_any s h k _ X0)
  have ht0 : tell (s.data.toList.drop k) 0 = tell s.data.toList k := by rw [tell_drop]; rfl
  have hcases : tell s.data.toList k = 1 ∨ tell s.data.toList k = 2 ∨ tell s.data.toList k = 3 ∨ (tell s.data.toList k ≠ 1 ∧ tell s.data.toList k ≠ 2 ∧ tell s.data.toList k ≠ 3) := by omega
  rcases hcases with hq | hq | hq | ⟨q1, q2, q3⟩
  · obtain ⟨R, hR⟩ : ∃ R, R = (runL (s.data.toList.drop k)).length := ⟨_, rfl⟩
    have hRb : k + R ≤ s.size := by
      have := run_len (s.data.toList.drop k)
      rw [List.length_drop, size_list] at this
      omega
    have CB := behind_any s hs h k R (by omega) hR _ X0
    have hRp : 0 < R := by rw [hR]; exact run_pos (by rw [ht0]; omega)
    have CN := name_any (s.extract k (k + R)) (by simp; omega)
    rw [ext_run s k R hR] at CN
    have hv : Hid (wordL (s.data.toList.drop k) = nameL (runL (s.data.toList.drop k))) := Lib.hid (by unfold wordL; rw [ht0, hq]; rfl)
    rw [hq] at CT
    clear hR ht0 hq
    obtain ⟨m, hm⟩ : ∃ m, m = k + R := ⟨_, rfl⟩
    rw [← hm] at CB CN hRb
    have h1 : (k : Int) ≤ (m : Int) := by omega
    have h2 : (m : Int) ≤ (s.size : Int) := by omega
    clear hRp hm hRb
    generalize nameL (runL (s.data.toList.drop k)) = oo at *
    obtain ⟨qk, qT, qv, qb, ho⟩ := optP_open oo
    rw [ho] at CN
    have HO := Lib.hid ho
    replace CB := Lib.hid CB
    replace CN := Lib.hid CN
    replace E0 := Lib.hid E0
    clear X X0 hE ho
    unfold telF at CB
    unfold telF
    go_enter Tryz.func19, Tryz.ntmps19
    go_wp2_with fail
    refine (CT.out).mono ?_; rintro e w1 ⟨rfl, rfl⟩
    go_wp2_with fail
    refine (CB.out).mono ?_; rintro e w1 ⟨rfl, rfl⟩
    go_wp2_with fail
    refine (CN.out _).mono ?_; rintro e w2 ⟨rfl, hb⟩
    have B1 := Lib.hid (bel_then B0.out hb)
    have N1 := N0.out.below hb
    clear hb CT
    have c0 := N1.cell 0
    have c1 := N1.cell 1
    have c2 := N1.cell 2
    have f0 := N1.frozen 0
    have f1 := N1.frozen 1
    have f2 := N1.frozen 2
    simp only [List.getElem?_cons_zero, List.getElem?_cons_succ] at c0 c1 c2
    clear N1
    go_wp2
    exact bodyPost_ret (v := .tuple #[.agg #[.int .u8 qk, .string qT, .int .u32 qv], .bool qb]) (by simp [results, Tryz.results19, go_sem, c0, c1, c2]) rfl ⟨by rw [hv.out, HO.out], set3_bel (Nat.le_refl _) B1.out _ _ _⟩
  · obtain ⟨R, hR⟩ : ∃ R, R = (runL (s.data.toList.drop k)).length := ⟨_, rfl⟩
    have hRb : k + R ≤ s.size := by
      have := run_len (s.data.toList.drop k)
      rw [List.length_drop, size_list] at this
      omega
    have CB := behind_any s hs h k R (by omega) hR _ X0
    have hRp : 0 < R := by rw [hR]; exact run_pos (by rw [ht0]; omega)
    have CN := num_any (s.extract k (k + R)) (by simp; omega) (by simp; omega)
    rw [ext_run s k R hR] at CN
    have hv : Hid (wordL (s.data.toList.drop k) = numL (runL (s.data.toList.drop k))) := Lib.hid (by unfold wordL; rw [ht0, hq]; rfl)
    rw [hq] at CT
    clear hR ht0 hq
    obtain ⟨m, hm⟩ : ∃ m, m = k + R := ⟨_, rfl⟩
    rw [← hm] at CB CN hRb
    have h1 : (k : Int) ≤ (m : Int) := by omega
    have h2 : (m : Int) ≤ (s.size : Int) := by omega
    clear hRp hm hRb
    generalize numL (runL (s.data.toList.drop k)) = oo at *
    obtain ⟨qk, qT, qv, qb, ho⟩ := optP_open oo
    rw [ho] at CN
    have HO := Lib.hid ho
    replace CB := Lib.hid CB
    replace CN := Lib.hid CN
    replace E0 := Lib.hid E0
    clear X X0 hE ho
    unfold telF at CB
    unfold telF
    go_enter Tryz.func19, Tryz.ntmps19
    go_wp2_with fail
    refine (CT.out).mono ?_; rintro e w1 ⟨rfl, rfl⟩
    go_wp2_with fail
    refine (CB.out).mono ?_; rintro e w1 ⟨rfl, rfl⟩
    go_wp2_with fail
    refine (CN.out _ E0.out).mono ?_; rintro e w2 ⟨rfl, hb⟩
    have B1 := Lib.hid (bel_then B0.out hb)
    have N1 := N0.out.below hb
    clear hb CT
    have c0 := N1.cell 0
    have c1 := N1.cell 1
    have c2 := N1.cell 2
    have f0 := N1.frozen 0
    have f1 := N1.frozen 1
    have f2 := N1.frozen 2
    simp only [List.getElem?_cons_zero, List.getElem?_cons_succ] at c0 c1 c2
    clear N1
    go_wp2
    exact bodyPost_ret (v := .tuple #[.agg #[.int .u8 qk, .string qT, .int .u32 qv], .bool qb]) (by simp [results, Tryz.results19, go_sem, c0, c1, c2]) rfl ⟨by rw [hv.out, HO.out], set3_bel (Nat.le_refl _) B1.out _ _ _⟩
  · have CN := sign_any (s.extract k s.size) (by simp; omega) (by simp; omega)
    rw [ext_end] at CN
    have hv : Hid (wordL (s.data.toList.drop k) = some (signL (s.data.toList.drop k))) := Lib.hid (by unfold wordL; rw [ht0, hq]; rfl)
    rw [hq] at CT
    have h1 : (k : Int) ≤ (s.size : Int) := by omega
    clear ht0 hq
    generalize signL (s.data.toList.drop k) = oo at *
    obtain ⟨qk, qT, qv, ho⟩ : ∃ k T v, aggP oo = .agg #[.int .u8 k, .string T, .int .u32 v] := ⟨_, _, _, rfl⟩
    rw [ho] at CN
    have HO := Lib.hid ho
    replace CN := Lib.hid CN
    clear X X0 hE E0 ho
    unfold telF
    go_enter Tryz.func19, Tryz.ntmps19
    go_wp2_with fail
    refine (CT.out).mono ?_; rintro e w1 ⟨rfl, rfl⟩
    go_wp2_with fail
    refine (CN.out _).mono ?_; rintro e w2 ⟨rfl, hb⟩
    have B1 := Lib.hid (bel_then B0.out hb)
    have N1 := N0.out.below hb
    clear hb CT
    have c0 := N1.cell 0
    have c1 := N1.cell 1
    have c2 := N1.cell 2
    have f0 := N1.frozen 0
    have f1 := N1.frozen 1
    have f2 := N1.frozen 2
    simp only [List.getElem?_cons_zero, List.getElem?_cons_succ] at c0 c1 c2
    clear N1
    go_wp2
    exact bodyPost_ret (v := .tuple #[.agg #[.int .u8 qk, .string qT, .int .u32 qv], .bool true]) (by simp [results, Tryz.results19, go_sem, c0, c1, c2]) rfl ⟨by rw [hv.out]; unfold optP; simp only [Option.getD_some, Option.isSome_some]; rw [HO.out], set3_bel (Nat.le_refl _) B1.out _ _ _⟩
  · have hv : Hid (wordL (s.data.toList.drop k) = none) := Lib.hid (by unfold wordL; rw [ht0, if_neg q1, if_neg q2, if_neg q3])
    have c0 := N0.out.cell 0
    have c1 := N0.out.cell 1
    have c2 := N0.out.cell 2
    have f0 := N0.out.frozen 0
    have f1 := N0.out.frozen 1
    have f2 := N0.out.frozen 2
    simp only [List.getElem?_cons_zero, List.getElem?_cons_succ] at c0 c1 c2
    clear X X0 hE E0 ht0
    generalize tell s.data.toList k = q at *
    have q1 : (q == 1) = false := by simpa using q1
    have q2 : (q == 2) = false := by simpa using q2
    have q3 : (q == 3) = false := by simpa using q3
    unfold telF
    go_enter Tryz.func19, Tryz.ntmps19
    go_wp2_with fail
    refine (CT.out).mono ?_; rintro e w1 ⟨rfl, rfl⟩
    go_wp2
    exact bodyPost_ret (v := .tuple #[.agg #[.int .u8 0, .string ⟨#[]⟩, .int .u32 0], .bool false]) (by simp [results, Tryz.results19, go_sem, c0, c1, c2]) rfl ⟨by rw [hv.out]; rfl, B0.out⟩
def accE (L : List Pc) (k : Nat) (r : Except Nat (List Pc)) : Except Nat (List Pc) := match r with | .ok ps => .ok (L ++ ps) | .error j => .error (k + j)
theorem acc_gap (L : List Pc) (k : Nat) (r : Except Nat (List Pc)) : accE L k (shE 1 r) = accE L (k + 1) r := by cases r <;> simp [accE, shE, Nat.add_assoc]
theorem acc_word (L : List Pc) (k : Nat) (p : Pc) (r : Except Nat (List Pc)) : accE L k (consE p r) = accE (L ++ [p]) (k + p.2.1.length) r := by cases r <;> simp [accE, consE, Nat.add_assoc]
/-- k bytes are read, L are their words -/
structure RdS (l : Bs) (k : Nat) (L : List Pc) : Prop where
  le : k ≤ l.length
  eq : readL l = accE L k (readL (l.drop k))
  ok : ∀ p ∈ L, WordOk p
  few : L.length ≤ k
theorem rdS_0 (l : Bs) : RdS l 0 [] := ⟨Nat.zero_le _, by simp only [List.drop_zero]; cases readL l <;> simp [accE], fun p hp => by simp at hp, Nat.le_refl _⟩
theorem drop_cons' {l : Bs} {k : Nat} (h : k < l.length) : l.drop k = l[k] :: l.drop (k + 1) := List.drop_eq_getElem_cons h
theorem tell_head {l : Bs} {k : Nat} (h : k < l.length) : tell l k = cls l[k] := by rw [tell_lt h]; simp [List.getD, h]
theorem rdS_end {l : Bs} {L : List Pc} (r : RdS l l.length L) : readL l = .ok L := by
  have := r.eq
  rw [List.drop_length, read_nil] at this
  simpa [accE] using this
theorem rdS_gap {l : Bs} {k : Nat} {L : List Pc} (r : RdS l k L) (h : k < l.length) (ht : tell l k = 4) : RdS l (k + 1) L := by
  refine ⟨h, ?_, r.ok, by have := r.few; omega⟩
  rw [r.eq, drop_cons' h, read_gap (by rw [← tell_head h]; exact ht), acc_gap]
theorem rdS_no {l : Bs} {k : Nat} {L : List Pc} (r : RdS l k L) (h : k < l.length) (ht : tell l k ≠ 4) (hw : wordL (l.drop k) = none) : readL l = .error k := by
  rw [r.eq]
  rw [drop_cons' h] at hw ⊢
  rw [read_none (by rw [← tell_head h]; exact ht) hw]; rfl
theorem rdS_word {l : Bs} {k : Nat} {L : List Pc} (r : RdS l k L) (h : k < l.length) (ht : tell l k ≠ 4) {p : Pc} (hw : wordL (l.drop k) = some p) : RdS l (k + p.2.1.length) (L ++ [p]) ∧ WordOk p ∧ 0 < p.2.1.length := by
  obtain ⟨ok, _, hle⟩ := word_ok hw
  have hp := word_pos hw
  rw [List.length_drop] at hle
  refine ⟨⟨by omega, ?_, fun q hq => ?_, by have := r.few; simp; omega⟩, ok, hp⟩
  · rw [r.eq]
    have hw' := hw
    rw [drop_cons' h] at hw'
    conv => lhs; rw [drop_cons' h]
    rw [read_some (by rw [← tell_head h]; exact ht) hw', acc_word, ← drop_cons' h, List.drop_drop]
  · rcases List.mem_append.1 hq with hq | hq
    · exact r.ok q hq
    · simp at hq; subst hq; exact ok

/-- what Read answers -/
def readE (l : Bs) : Except (Nat × Int) (List Pc) := if 4000 < l.length then .error (0, 4) else match readL l with | .ok ps => .ok ps | .error k => .error (k, 2)
def ReadP (w : World) (l : Bs) (e : Ending) (w' : World) : Prop :=
  match readE l with
  | .ok ps => ∃ A cap, e = .returned (.tuple #[.slice A ps.length cap, .int .i64 0, .int .i64 0]) ∧ PcRow w' A cap ps ∧ Below w.heap.size w w'
  | .error (k, x) => e = .returned (.tuple #[.slice none 0 0, .int .i64 k, .int .i64 x]) ∧ Below w.heap.size w w'

theorem has_set {w : World} {g : Nat} {t : TypeId} {cs : List Value} (h : HasB w g t cs) (i : Nat) (u : Value) : HasB (w.setCell ⟨g, i, none⟩ u) g t (cs.set i u) := by
  unfold HasB at h ⊢
  simp [World.setCell, Array.getElem?_modify, h]
theorem HasB.grown {w w' : World} {r : Option Nat} {j : Nat} {t : TypeId} {cs : List Value} (h : HasB w j t cs) (b : w.grownBy w' r) (hj : some j ≠ r) : HasB w' j t cs := (b.block j h.lt hj).trans h
/-- a word laid into a block of its own -/
theorem rd_put (w1 : World) (a b c : Value) : ∃ W2, w1.alloc (.cells #[a, b, c] 63) = W2 ∧ HasB W2 w1.heap.size 63 [a, b, c] ∧ Below w1.heap.size w1 W2 ∧ W2.heap.size = w1.heap.size + 1 :=
  ⟨_, rfl, HasB.new _ _ _, bel_al (Below.refl _ _) _, by simp⟩

set_option maxHeartbeats 2000000 in
theorem read_any (s : ByteArray) (hs : s.size ≤ 100000) (w : World) (hE : ErrV w) : Calls Tryz.prog 11 #[.string s] w (ReadP w s.data.toList) := by
  by_cases hbig : 4000 < s.size
  · have hv : Hid (readE s.data.toList = .error (0, 4)) := Lib.hid (by unfold readE; rw [if_pos (by rw [size_list]; exact hbig)])
    have h4 : (4000 : Int) < s.size := by omega
    go_enter Tryz.func11, Tryz.ntmps11
    go_wp2_with fail
    go_step3
    go_wp2
    rw [Exit.noGoto_ret]
    go_ret3
    unfold ReadP
    rw [hv.out]
    exact ⟨rfl, Below.refl _ _⟩
  · have h4 : (s.size : Int) ≤ 4000 := by omega
    have hsL : s.data.toList.length = s.size := size_list s
    have hv : Hid (readE s.data.toList = match readL s.data.toList with | .ok ps => .ok ps | .error k => .error (k, 2)) := Lib.hid (by unfold readE; rw [if_neg (by omega)])
    have CT := Lib.hid (teller_any s w)
    have X0 := HasB.new w 9 [.string s]
    have B0 := bel_al (Below.refl _ w) (.cells #[.string s] 9)
    have E0 := Lib.hid (hE.below B0)
    replace X0 := Lib.hid X0
    replace B0 := Lib.hid B0
    have Z0 : Hid ((w.alloc (.cells #[.string s] 9)).heap.size = w.heap.size + 1) := Lib.hid (by simp)
    go_enter Tryz.func11, Tryz.ntmps11
    go_wp2_with fail
    refine wp_scope_once 0 (fun a' wr => ∃ (k n cap : Nat) (A : Option Addr) (L : List Pc) (t8 t9 t10 t11 t12 t13 t14 t15 t16 t17 t18 t19 t20 t21 t22 t23 t24 t25 t26 t27 t28 t29 t30 t31 t32 t33 t34 t35 t36 t37 t38 t39 t40 t41 t42 t43 : Value), a' = { tmps := #[.string s, undef, .slice none 0 0, .int .i64 0, .int .i64 0, telF w.heap.size, .slice A n cap, .int .i64 k, t8, t9, t10, t11, t12, t13, t14, t15, t16, t17, t18, t19, t20, t21, t22, t23, t24, t25, t26, t27, t28, t29, t30, t31, t32, t33, t34, t35, t36, t37, t38, t39, t40, t41, t42, t43], defers := [] } ∧
      Hid (RdS s.data.toList k L) ∧ k ≤ s.size ∧ Hid (L.length = n) ∧ Hid (wr.ownsRow (w.heap.size + 1) 63 3 (.slice A n cap) n (L.flatMap pcC)) ∧ Hid (PcRow wr A cap L) ∧ Hid (HasB wr w.heap.size 9 [.string s]) ∧ Hid (Below w.heap.size w wr) ∧ Hid (ErrV wr) ∧ w.heap.size + 1 ≤ wr.heap.size)
      (fun a' _ => s.size - (intOf (a'.tmps.getD 7 undef)).toNat) rfl ?_ ?_
    · intro PASS
      go_wp2_with fail
      refine (CT.out).mono ?_; rintro e w1 ⟨rfl, rfl⟩
      go_wp2_with fail
      go_step3
      rename_i Q9 K9 h9
      exact h9 _ _ (PASS _ _ ⟨0, 0, 0, none, [], _, _, _, _, _, _, _, _, _, _, _, _, _, _, _, _, _, _, _, _, _, _, _, _, _, _, _, _, _, _, _, _, _, _, _, _, rfl, Lib.hid (rdS_0 _), Nat.zero_le _, Lib.hid rfl, Lib.hid (World.ownsRow_nil _ _ _ _), Lib.hid (pcRow_nil _), X0, B0, E0, Nat.le_of_eq Z0.out.symm⟩)
    · rintro a' wr ⟨k, n, cap, A, L, x8, x9, x10, x11, x12, x13, x14, x15, x16, x17, x18, x19, x20, x21, x22, x23, x24, x25, x26, x27, x28, x29, x30, x31, x32, x33, x34, x35, x36, x37, x38, x39, x40, x41, x42, x43, rfl, HR, hk, HL, HO, HP, HX, HB, HE, hz⟩
      have CK := Lib.hid (tell_any s w.heap.size k wr HX.out)
      have hsp : k = s.size ∨ (k < s.size ∧ tell s.data.toList k = 4) ∨ (k < s.size ∧ tell s.data.toList k ≠ 4 ∧ tell s.data.toList k ≠ 5) := by
        rcases Nat.lt_or_ge k s.size with h | h
        · right
          have h5 : tell s.data.toList k ≠ 5 := by
            rw [tell_lt (by rw [size_list]; exact h)]
            have := cls_lt (s.data.toList.getD k 0)
            omega
          by_cases hh : tell s.data.toList k = 4
          · exact .inl ⟨h, hh⟩
          · exact .inr ⟨h, hh, h5⟩
        · left; omega
      unfold telF
      rcases hsp with rfl | ⟨hlt, ht⟩ | ⟨hlt, ht, ht5⟩
      · rw [tell_ge (by rw [size_list]; exact Nat.le_refl _)] at CK
        go_wp2_with fail
        refine (CK.out).mono ?_; rintro e w1 ⟨rfl, rfl⟩
        go_wp2_with fail
        simp only [Exit.jump]
        go_ret3
        have hr := rdS_end (by have := HR.out; rw [← hsL] at this; exact this)
        unfold ReadP
        rw [hv.out, hr]
        exact ⟨A, cap, by rw [HL.out]; rfl, HP.out, HB.out⟩
      · rw [ht] at CK
        have HR2 := Lib.hid (rdS_gap HR.out (by rw [hsL]; exact hlt) ht)
        go_wp2_with fail
        refine (CK.out).mono ?_; rintro e w1 ⟨rfl, rfl⟩
        go_wp2_with fail
        go_step3
        refine ⟨rfl, ⟨k + 1, n, cap, A, L, _, _, _, _, _, _, _, _, _, _, _, _, _, _, _, _, _, _, _, _, _, _, _, _, _, _, _, _, _, _, _, _, _, _, _, _, by first | rfl | (unfold telF; go_num), HR2, hlt, HL, HO, HP, HX, HB, HE, hz⟩, ?_⟩
        simp [intOf]
        omega
      · have CW := word_any s (by omega) w.heap.size k hlt wr HX.out HE.out
        have WN := Lib.hid (fun h => rdS_no HR.out (by rw [hsL]; exact hlt) ht h)
        have WS := Lib.hid (fun p h => rdS_word HR.out (by rw [hsL]; exact hlt) ht (p := p) h)
        generalize wordL (s.data.toList.drop k) = ow at *
        generalize tell s.data.toList k = q at *
        have q4 : (q == 4) = false := by simpa using ht
        have q5 : (q == 5) = false := by simpa using ht5
        clear ht ht5
        cases ow with
        | none =>
          replace CW := Lib.hid CW
          unfold telF at CW
          have HN := Lib.hid (WN.out rfl)
          clear WN WS
          simp only [optP, aggP, Option.getD_none, Option.isSome_none] at CW
          generalize pc0.1 = z0 at *
          generalize strB pc0.2.1 = z1 at *
          generalize pc0.2.2 = z2 at *
          go_wp2_with fail
          refine (CK.out).mono ?_; rintro e w1 ⟨rfl, rfl⟩
          go_wp2_with fail
          refine (CW.out).mono ?_; rintro e w1 ⟨rfl, hb⟩
          have B1 := Lib.hid (bel_then HB.out hb)
          clear hb
          go_wp2_with fail
          simp only [Exit.jump]
          go_ret3
          unfold ReadP
          rw [hv.out, HN.out]
          exact ⟨rfl, bel_al B1.out _⟩
        | some p =>
          obtain ⟨hr2, wok, hpos⟩ := WS.out p rfl
          have wsz : (strB p.2.1).size = p.2.1.length := strB_size _
          have wcs : ∀ (W : World) (T : TypeId), PcAt (W.alloc (.cells #[.int .u8 p.1, .string (strB p.2.1), .int .u32 p.2.2] T)) ⟨W.heap.size, 0, none⟩ p := fun W T => pcAt_new W p T
          have wlen : p.2.1.length ≤ 10 := wok.top
          replace HR2 := Lib.hid hr2
          have HW := Lib.hid wok
          have HRk := hr2.le
          have hfew := HR.out.few
          rw [hsL] at HRk
          clear hr2 wok WN WS
          simp only [optP, aggP, Option.getD_some, Option.isSome_some] at CW
          replace CW := Lib.hid CW
          unfold telF at CW
          have WC := Lib.hid wcs
          clear wcs
          generalize hT : strB p.2.1 = T at *
          have HT := Lib.hid hT
          clear hT
          generalize p.2.1.length = m at *
          generalize hk1 : p.1 = z0 at *
          generalize hk2 : p.2.2 = z2 at *
          clear hk1 hk2
          go_wp2_with fail
          refine (CK.out).mono ?_; rintro e w1 ⟨rfl, rfl⟩
          go_wp2_with fail
          refine (CW.out).mono ?_; rintro e w1 ⟨rfl, hb⟩
          have hz1 := hb.size
          obtain ⟨W2, eW2, X2, B2, S2⟩ := rd_put w1 (.int .u8 z0) (.string T) (.int .u32 z2)
          have d0 := X2.cell 0
          have d1 := X2.cell 1
          have d2 := X2.cell 2
          have f0 := X2.frozen 0
          have f1 := X2.frozen 1
          have f2 := X2.frozen 2
          simp only [List.getElem?_cons_zero, List.getElem?_cons_succ] at d0 d1 d2
          have XN := Lib.hid X2
          have BN := bel_then hb B2
          obtain ⟨W3, eW3, X3, B3, S3⟩ := rd_put W2 (.int .u8 z0) (.string T) (.int .u32 z2)
          have PN := WC.out W2 63
          rw [eW3, S2] at PN
          rw [S2] at X3
          have BN3 := bel_then BN B3
          have ON := own_belowP HO.out BN3
          have X3' := Lib.hid (XN.out.below B3)
          have PN := Lib.hid PN
          have ON := Lib.hid ON
          have BN3 := Lib.hid BN3
          have HLT := Lib.hid (HO.out.lt)
          have HZ := Lib.hid (And.intro S2 S3)
          clear hb X2 B2 CW CK X3 B3 S3 BN
          go_wp2_with (first
            | (at_builtin
               refine append_pc rfl (.tmp 35) (.tmp 37) rfl (w.heap.size + 1) (.slice A n cap) n L rfl ON.out HR.out.ok (w1.heap.size + 1) 1 p rfl PN.out HW.out (n + 1) rfl (by have := HL.out; omega) (by have := BN3.out.size; omega) ?_
               intro A6 c6 w6 own6 grow6 row6 bel6
               have O6 := Lib.hid own6
               have G6 := Lib.hid grow6
               have R6 := Lib.hid row6
               have B6 := Lib.hid bel6
               have X6 := X3'.out.grown grow6 (fun e => by have := (HLT.out _ e.symm).2; omega)
               have x1 := X6.cell 1
               simp only [List.getElem?_cons_zero, List.getElem?_cons_succ] at x1
               clear own6 grow6 row6 bel6 X6))
          have hz6 : w.heap.size + 1 ≤ w6.heap.size := by have := B6.out.size; have := BN3.out.size; omega
          have HX6 : Hid (HasB w6 w.heap.size 9 [.string s]) := Lib.hid ((HX.out.below BN3.out).same (B6.out.block _ (by omega)))
          have HB6 : Below w.heap.size w w6 := (bel_then HB.out BN3.out).trans (B6.out.mono (by omega))
          have HE6 := Lib.hid (hE.below HB6)
          have HL6 : Hid ((L ++ [p]).length = n + 1) := Lib.hid (by rw [List.length_append, HL.out]; rfl)
          have HB6 := Lib.hid HB6
          go_step3
          refine ⟨rfl, ⟨k + m, n + 1, c6, A6, L ++ [p], _, _, _, _, _, _, _, _, _, _, _, _, _, _, _, _, _, _, _, _, _, _, _, _, _, _, _, _, _, _, _, _, _, _, _, _, by first | rfl | (unfold telF; go_num), HR2, HRk, HL6, O6, R6, HX6, HB6, HE6, hz6⟩, ?_⟩
          simp [intOf]
          omega
end Go.Proofs.YtkacplcilkogpaaGreatDoor.Mm
