/- The sums of package step, on a processor that lies in the world. -/
import Derived.Test.YtjcggpaiminecaaStepFetch
import Derived.Test.YtjcggpaiminecaaMemRefWrite
import Derived.RegionTactic
import Derived.ChangeAlike
import Derived.BigRegion
namespace Go.Proofs.Ytjcggpaiminecaa.Mm
open Go.ChangeShapes Go.WideShapes Go.ChangeAt Go.RowKit
set_option linter.unusedVariables false

theorem quiet_w {P : Program} {f : FuncId} {args : Array Value} {w : World} {n : Nat} {v : Value}
    (h : Calls P f args (w.drewN n) fun e w' => e = .returned v ∧ w.drewN n = w') : Calls P f args (w.drewN n) fun e w'' => e = .returned v ∧ ∃ m, w'' = w.drewN m :=
  h.mono fun _ _ ⟨he, hm⟩ => ⟨he, n, hm.symm⟩
theorem chg_new {g h : Nat} {W w : World} (c : Chg g h W w) (b : Nat) (hb : W.heap.size ≤ b) (i : Nat) (u : Value) : Chg g h W (w.setCell ⟨b, i, none⟩ u) :=
  ⟨c.os, c.tape, c.output, by simpa using c.size, fun k hk h1 h2 => (Below.heap_setCell _ _ _ _ (by show k ≠ b; omega)).trans (c.block k hk h1 h2)⟩
/-- the argument and the result, each in a block of its own -/
theorem boxed {w : World} {X : Nat} {t : TypeId} {cs : List Value} (hX : HasB w X t cs) (op a b imm : Int) (n : Nat) :
    ∃ W1, (((w.alloc (.cells #[.int .i64 op, .int .i64 a, .int .i64 b, .int .u32 imm] 73)).alloc (.cells #[.int .i64 0, .int .i64 0] 60)).drewN n) = W1 ∧ HasB W1 X t cs ∧ HasB W1 w.heap.size 73 [.int .i64 op, .int .i64 a, .int .i64 b, .int .u32 imm] ∧ HasB W1 (w.heap.size + 1) 60 [.int .i64 0, .int .i64 0] ∧ Below w.heap.size w W1 :=
  ⟨_, rfl, (hX.al _).al _, (HasB.newAt w _ _ _ rfl).al _, HasB.newAt _ _ _ _ (by simp), below_drewN (bel_al (bel_al (Below.refl _ _) _) _) _⟩
set_option maxHeartbeats 4000000 in
theorem reckon_y {w : World} {X : Nat} {d : Cp} (o : d.Ok) (hX : HasB w X 57 d.cs) (op imm : Int) (a b : Nat) (ha : a < 8) (hb : b < 8) (ho : 3 ≤ op ∧ op ≤ 14) (hk : doK op (d.reg b) = true) :
    Calls Try.prog 43 #[.pointer (some ⟨X, 0, none⟩), .agg #[.int .i64 op, .int .i64 a, .int .i64 b, .int .u32 imm]] w fun e w' => e = .returned (.agg #[.int .i64 0, .int .i64 0]) ∧ HasB w' X 57 (d.setR a (doV op (d.reg a) (d.reg b))).cs ∧ Chg X X w w' := by
  have ca := hX.cell (1 + a)
  have cb := hX.cell (1 + b)
  rw [Cp.cs_reg o a ha] at ca
  rw [Cp.cs_reg o b hb] at cb
  obtain ⟨a0, a1⟩ := o.reg a (by omega) (by omega)
  obtain ⟨b0, b1⟩ := o.reg b (by omega) (by omega)
  have hl := hX.lt
  have HX := Lib.hid hX
  have CD := fun w => do_any op (d.reg a) (d.reg b) a0 a1 b0 b1 w
  replace CD := Lib.hid CD
  clear hX
  have A0 : (0 : Int) ≤ (a : Int) := by omega
  have A1 : (a : Int) < 8 := by omega
  have B0 : (0 : Int) ≤ (b : Int) := by omega
  have B1 : (b : Int) < 8 := by omega
  generalize hra : d.reg a = ra at *
  generalize hrb : d.reg b = rb at *
  go_enter Try.func43, Try.ntmps43
  go_wp2_with fail
  go_quiet ((go_at_call 53; exact quiet_w (CD.out _)))
  obtain ⟨W1, e1, K1, K2, K3, K4⟩ := boxed HX.out op a b imm nq
  rw [e1]
  have c1 := K2.cell 1
  have f1 := K1.frozen (1 + a)
  have s1 := (Cp.cs_reg o a ha)
  have c2 := K1.cell (1 + a)
  rw [s1] at c2
  have o1 := K3.cell 0
  have o2 := K3.cell 1
  have p1 := K3.frozen 0
  have p2 := K3.frozen 1
  simp only [List.getElem?_cons_succ, List.getElem?_cons_zero] at c1 o1 o2
  have K1 := Lib.hid K1
  clear s1 e1
  go_wp2_with fail
  go_region
  all_goals go_wp2_with fail
  have hXO : X ≠ w.heap.size + 1 := by omega
  refine bodyPost_ret (v := .agg #[.int .i64 0, .int .i64 0]) (by simp [results, Try.results43, go_sem, o1, o2]) rfl ⟨rfl, ?_, ?_⟩
  · rw [← Cp.cs_setR o a ha]
    exact drew_has (has_far (has_far (has_set K1.out (1 + a) _) hXO 0 _) hXO 1 _)
  · exact chg_drew (chg_new (chg_new (chg_set (Chg.of K4) X (.inl rfl) _ _) _ (by omega) _ _) _ (by omega) _ _)
set_option maxHeartbeats 4000000 in
theorem reckon_n {w : World} {X : Nat} {d : Cp} (o : d.Ok) (hX : HasB w X 57 d.cs) (op imm : Int) (a b : Nat) (ha : a < 8) (hb : b < 8) (ho : 3 ≤ op ∧ op ≤ 14) (hk : doK op (d.reg b) = false) :
    Calls Try.prog 43 #[.pointer (some ⟨X, 0, none⟩), .agg #[.int .i64 op, .int .i64 a, .int .i64 b, .int .u32 imm]] w fun e w' => e = .returned (.agg #[.int .i64 4, .int .i64 0]) ∧ Below w.heap.size w w' := by
  have ca := hX.cell (1 + a)
  have cb := hX.cell (1 + b)
  rw [Cp.cs_reg o a ha] at ca
  rw [Cp.cs_reg o b hb] at cb
  obtain ⟨a0, a1⟩ := o.reg a (by omega) (by omega)
  obtain ⟨b0, b1⟩ := o.reg b (by omega) (by omega)
  have hl := hX.lt
  have HX := Lib.hid hX
  have CD := fun w => do_any op (d.reg a) (d.reg b) a0 a1 b0 b1 w
  replace CD := Lib.hid CD
  clear hX
  have A0 : (0 : Int) ≤ (a : Int) := by omega
  have A1 : (a : Int) < 8 := by omega
  have B0 : (0 : Int) ≤ (b : Int) := by omega
  have B1 : (b : Int) < 8 := by omega
  generalize hra : d.reg a = ra at *
  generalize hrb : d.reg b = rb at *
  go_enter Try.func43, Try.ntmps43
  go_wp2_with fail
  go_quiet ((go_at_call 53; exact quiet_w (CD.out _)))
  obtain ⟨W1, e1, K1, K2, K3, K4⟩ := boxed HX.out op a b imm nq
  rw [e1]
  have o1 := K3.cell 0
  have o2 := K3.cell 1
  have p1 := K3.frozen 0
  have p2 := K3.frozen 1
  simp only [List.getElem?_cons_succ, List.getElem?_cons_zero] at o1 o2
  clear e1
  go_wp2_with fail
  refine bodyPost_ret (v := .agg #[.int .i64 4, .int .i64 0]) (by simp [results, Try.results43, go_sem, o1, o2]) rfl ⟨rfl, ?_⟩
  exact ((K4.setCell (by simp) _).setCell (by simp) _)

set_option maxHeartbeats 4000000 in
theorem load_y {w : World} {X p g h : Nat} {B : List Int} {T : List Bool} {d : Cp} (m : MemAt w p g h B T) (o : d.Ok) (hX : HasB w X 57 d.cs) (imm : Int) (a b : Nat) (ha : a < 8) (hb : b < 8) (hk : wholeB T (d.reg b) 4 = true) :
    Calls Try.prog 40 #[.pointer (some ⟨X, 0, none⟩), .agg #[.int .i64 15, .int .i64 a, .int .i64 b, .int .u32 imm], .pointer (some ⟨p, 0, none⟩)] w fun e w' => e = .returned (.agg #[.int .i64 0, .int .i64 0]) ∧ HasB w' X 57 (d.setR a (v4 B (d.reg b).toNat)).cs ∧ Chg X X w w' := by
  have cb := hX.cell (1 + b)
  rw [Cp.cs_reg o b hb] at cb
  obtain ⟨b0, b1⟩ := o.reg b (by omega) (by omega)
  have hl := hX.lt
  have HX := Lib.hid hX
  have bel : ∀ n, Below w.heap.size w (((w.alloc (.cells #[.int .i64 15, .int .i64 a, .int .i64 b, .int .u32 imm] 73)).alloc (.cells #[.int .i64 0, .int .i64 0] 60)).drewN n) := fun n => below_drewN (bel_al (bel_al (Below.refl _ _) _) _) n
  have CD := fun n => get_i (m.below (bel n)) (d.reg b) hk
  replace CD := Lib.hid CD
  clear hX bel hk m
  have A0 : (0 : Int) ≤ (a : Int) := by omega
  have A1 : (a : Int) < 8 := by omega
  have B0 : (0 : Int) ≤ (b : Int) := by omega
  have B1 : (b : Int) < 8 := by omega
  generalize hrb : d.reg b = rb at *
  generalize hv : v4 B rb.toNat = v at *
  go_enter Try.func40, Try.ntmps40
  go_wp2_with fail
  go_quiet ((go_at_call 17; exact quiet_w (CD.out _)))
  obtain ⟨W1, e1, K1, K2, K3, K4⟩ := boxed HX.out 15 a b imm nq
  rw [e1]
  have c1 := K2.cell 1
  have f1 := K1.frozen (1 + a)
  have c2 := K1.cell (1 + a)
  rw [Cp.cs_reg o a ha] at c2
  have o1 := K3.cell 0
  have o2 := K3.cell 1
  have p1 := K3.frozen 0
  have p2 := K3.frozen 1
  simp only [List.getElem?_cons_succ, List.getElem?_cons_zero] at c1 o1 o2
  replace K1 := Lib.hid K1
  clear e1
  go_wp2_with fail
  go_region
  all_goals go_wp2_with fail
  have hXO : X ≠ w.heap.size + 1 := by omega
  refine bodyPost_ret (v := .agg #[.int .i64 0, .int .i64 0]) (by simp [results, Try.results40, go_sem, o1, o2]) rfl ⟨rfl, ?_, ?_⟩
  · rw [← Cp.cs_setR o a ha]
    exact drew_has (has_far (has_far (has_set K1.out (1 + a) _) hXO 0 _) hXO 1 _)
  · exact chg_drew (chg_new (chg_new (chg_set (Chg.of K4) X (.inl rfl) _ _) _ (by omega) _ _) _ (by omega) _ _)
set_option maxHeartbeats 4000000 in
theorem load_n {w : World} {X p g h : Nat} {B : List Int} {T : List Bool} {d : Cp} (m : MemAt w p g h B T) (o : d.Ok) (hX : HasB w X 57 d.cs) (imm : Int) (a b : Nat) (ha : a < 8) (hb : b < 8) (hk : wholeB T (d.reg b) 4 = false) :
    Calls Try.prog 40 #[.pointer (some ⟨X, 0, none⟩), .agg #[.int .i64 15, .int .i64 a, .int .i64 b, .int .u32 imm], .pointer (some ⟨p, 0, none⟩)] w fun e w' => e = .returned (.agg #[.int .i64 3, .int .i64 0]) ∧ Below w.heap.size w w' := by
  have cb := hX.cell (1 + b)
  rw [Cp.cs_reg o b hb] at cb
  obtain ⟨b0, b1⟩ := o.reg b (by omega) (by omega)
  have hl := hX.lt
  have HX := Lib.hid hX
  have bel : ∀ n, Below w.heap.size w (((w.alloc (.cells #[.int .i64 15, .int .i64 a, .int .i64 b, .int .u32 imm] 73)).alloc (.cells #[.int .i64 0, .int .i64 0] 60)).drewN n) := fun n => below_drewN (bel_al (bel_al (Below.refl _ _) _) _) n
  have CD := fun n => get_no (m.below (bel n)) (d.reg b) b0 b1 hk
  replace CD := Lib.hid CD
  clear hX bel hk m
  have A0 : (0 : Int) ≤ (a : Int) := by omega
  have A1 : (a : Int) < 8 := by omega
  have B0 : (0 : Int) ≤ (b : Int) := by omega
  have B1 : (b : Int) < 8 := by omega
  generalize hrb : d.reg b = rb at *
  go_enter Try.func40, Try.ntmps40
  go_wp2_with fail
  go_quiet ((go_at_call 17; exact quiet_w (CD.out _)))
  obtain ⟨W1, e1, K1, K2, K3, K4⟩ := boxed HX.out 15 a b imm nq
  rw [e1]
  have o1 := K3.cell 0
  have o2 := K3.cell 1
  have p1 := K3.frozen 0
  have p2 := K3.frozen 1
  simp only [List.getElem?_cons_succ, List.getElem?_cons_zero] at o1 o2
  clear e1
  go_wp2_with fail
  refine bodyPost_ret (v := .agg #[.int .i64 3, .int .i64 0]) (by simp [results, Try.results40, go_sem, o1, o2]) rfl ⟨rfl, ?_⟩
  exact ((K4.setCell (by simp) _).setCell (by simp) _)
/-- the blocks of a call of touch -/
def TS (g X I O : Nat) (cs : List Value) (op a b imm : Int) (w : World) : Prop :=
  HasB w X 57 cs ∧ HasB w I 73 [.int .i64 op, .int .i64 a, .int .i64 b, .int .u32 imm] ∧ HasB w O 60 [.int .i64 0, .int .i64 0] ∧ g ≠ X ∧ g ≠ I ∧ g ≠ O
theorem ts_chg {g X I O : Nat} {cs : List Value} {op a b imm : Int} {w w' : World} (t : TS g X I O cs op a b imm w) (c : Chg g g w w') : TS g X I O cs op a b imm w' :=
  ⟨t.1.chg c t.2.2.2.1.symm t.2.2.2.1.symm, t.2.1.chg c t.2.2.2.2.1.symm t.2.2.2.2.1.symm, t.2.2.1.chg c t.2.2.2.2.2.symm t.2.2.2.2.2.symm, t.2.2.2⟩
theorem ts_drew {g X I O : Nat} {cs : List Value} {op a b imm : Int} {w : World} (t : TS g X I O cs op a b imm w) : TS g X I O cs op a b imm w.drew := t
theorem ts_s {g X I O : Nat} {cs : List Value} {op imm : Int} {a b : Nat} {w : World} (t : TS g X I O cs op a b imm w) {ra rb : Value} (xa : cs[1 + a]? = some ra) (xb : cs[1 + b]? = some rb) :
    (w.cell? ⟨I, 1, none⟩ = some (.int .i64 a) ∧ w.cell? ⟨I, 2, none⟩ = some (.int .i64 b) ∧ w.cell? ⟨X, 1 + a, none⟩ = some ra ∧ w.cell? ⟨X, 1 + b, none⟩ = some rb) ∧ TS g X I O cs op a b imm w :=
  ⟨⟨t.2.1.cell 1, t.2.1.cell 2, (t.1.cell _).trans xa, (t.1.cell _).trans xb⟩, t⟩
theorem ts_keep {g X I O : Nat} {cs : List Value} {op imm : Int} {a b : Nat} {w w' : World} {P : Prop} (k : P ∧ TS g X I O cs op a b imm w) (c : Chg g g w w') {ra rb : Value} (xa : cs[1 + a]? = some ra) (xb : cs[1 + b]? = some rb) :
    (w'.cell? ⟨I, 1, none⟩ = some (.int .i64 a) ∧ w'.cell? ⟨I, 2, none⟩ = some (.int .i64 b) ∧ w'.cell? ⟨X, 1 + a, none⟩ = some ra ∧ w'.cell? ⟨X, 1 + b, none⟩ = some rb) ∧ TS g X I O cs op a b imm w' := ts_s (ts_chg k.2 c) xa xb
set_option maxHeartbeats 4000000 in
theorem store_y {w : World} {X p g h : Nat} {B : List Int} {T : List Bool} {d : Cp} (m : MemAt w p g h B T) (o : d.Ok) (hX : HasB w X 57 d.cs) (imm : Int) (a b : Nat) (ha : a < 8) (hb : b < 8) (hk : wholeB T (d.reg a) 4 = true) :
    Calls Try.prog 40 #[.pointer (some ⟨X, 0, none⟩), .agg #[.int .i64 16, .int .i64 a, .int .i64 b, .int .u32 imm], .pointer (some ⟨p, 0, none⟩)] w fun e w' => e = .returned (.agg #[.int .i64 0, .int .i64 0]) ∧ MemAt w' p g h (splice B (d.reg a).toNat (b4 (d.reg b))) T ∧ Chg g g w w' := by
  have xa := Cp.cs_reg o a ha
  have xb := Cp.cs_reg o b hb
  obtain ⟨a0, a1⟩ := o.reg a (by omega) (by omega)
  obtain ⟨b0, b1⟩ := o.reg b (by omega) (by omega)
  have hl := hX.lt
  have HX := Lib.hid hX
  have HM := Lib.hid m
  have HK := Lib.hid hk
  clear hX hk m
  have A0 : (0 : Int) ≤ (a : Int) := by omega
  have A1 : (a : Int) < 8 := by omega
  have B0 : (0 : Int) ≤ (b : Int) := by omega
  have B1 : (b : Int) < 8 := by omega
  generalize hra : d.reg a = ra at *
  generalize hrb : d.reg b = rb at *
  have XA := Lib.hid xa
  have XB := Lib.hid xb
  clear xa xb
  go_enter Try.func40, Try.ntmps40
  go_wp2_with fail
  obtain ⟨W1, e1, K1, K2, K3, K4⟩ := boxed HX.out 16 a b imm 0
  have e1 : (w.alloc (.cells #[.int .i64 16, .int .i64 a, .int .i64 b, .int .u32 imm] 73)).alloc (.cells #[.int .i64 0, .int .i64 0] 60) = W1 := e1
  rw [e1]
  have TS0 := Lib.hid (show TS g X w.heap.size (w.heap.size + 1) d.cs 16 a b imm W1 from ⟨K1, K2, K3, (HM.out.below K4).bytes.ne K1 (by decide), (HM.out.below K4).bytes.ne K2 (by decide), (HM.out.below K4).bytes.ne K3 (by decide)⟩)
  have M1 := Lib.hid (HM.out.below K4)
  have HK4 := Lib.hid K4
  clear e1 K1 K2 K3 K4
  generalize hI : w.heap.size = I at *
  have HI := Lib.hid hI
  clear hI
  go_region_held3 (fun w' => (w'.cell? ⟨I, 1, none⟩ = some (.int .i64 a) ∧ w'.cell? ⟨I, 2, none⟩ = some (.int .i64 b) ∧ w'.cell? ⟨X, 1 + a, none⟩ = some (.int .u32 ra) ∧ w'.cell? ⟨X, 1 + b, none⟩ = some (.int .u32 rb)) ∧ TS g X I (I + 1) d.cs 16 a b imm w')
    (first | exact ts_s TS0.out XA.out XB.out | exact ts_s (ts_drew TS0.out) XA.out XB.out | exact ts_keep ‹_ ∧ TS _ _ _ _ _ _ _ _ _ _› sc XA.out XB.out)
    (first | (go_at_call 13; (with_reducible refine (put_yes (M1.out.below (Below.refl _ _).drew) ra rb a0 a1 b0 b1 HK.out).mono ?_); rintro e w' ⟨rfl, sm, sc⟩))
  rename_i hh
  have TS2 := Lib.hid hh.2
  have o1 := hh.2.2.2.1.cell 0
  have o2 := hh.2.2.2.1.cell 1
  have p1 := hh.2.2.2.1.frozen 0
  have p2 := hh.2.2.2.1.frozen 1
  simp only [List.getElem?_cons_succ, List.getElem?_cons_zero] at o1 o2
  clear hh
  go_wp2_with fail
  have hXO : X ≠ I + 1 := by omega
  refine bodyPost_ret (v := .agg #[.int .i64 0, .int .i64 0]) (by simp [results, Try.results40, go_sem, o1, o2]) rfl ⟨rfl, ?_⟩
  have c0 : Chg g g w _ := (Chg.of (HI.out.symm ▸ HK4.out)).trans ((Chg.of (Below.refl _ _).drew).trans sc)
  have c1 : Chg (I + 1) (I + 1) w' ((w'.setCell ⟨I + 1, 0, none⟩ (.int .i64 0)).setCell ⟨I + 1, 1, none⟩ (.int .i64 0)) := chg_set (chg_set (Chg.refl _ _ _) _ (.inl rfl) _ _) _ (.inl rfl) _ _
  have n1 := sm.own.ne TS2.out.2.2.1 (by decide)
  have n2 := sm.bytes.ne TS2.out.2.2.1 (by decide)
  have n3 := sm.zones.ne TS2.out.2.2.1 (by decide)
  exact ⟨sm.chg c1 n1 n1 n2 n2 n3 n3, chg_new (chg_new c0 _ (by have := HI.out; omega) _ _) _ (by have := HI.out; omega) _ _⟩
set_option maxHeartbeats 4000000 in
theorem store_n {w : World} {X p g h : Nat} {B : List Int} {T : List Bool} {d : Cp} (m : MemAt w p g h B T) (o : d.Ok) (hX : HasB w X 57 d.cs) (imm : Int) (a b : Nat) (ha : a < 8) (hb : b < 8) (hk : wholeB T (d.reg a) 4 = false) :
    Calls Try.prog 40 #[.pointer (some ⟨X, 0, none⟩), .agg #[.int .i64 16, .int .i64 a, .int .i64 b, .int .u32 imm], .pointer (some ⟨p, 0, none⟩)] w fun e w' => e = .returned (.agg #[.int .i64 3, .int .i64 0]) ∧ Below w.heap.size w w' := by
  have xa := Cp.cs_reg o a ha
  have xb := Cp.cs_reg o b hb
  obtain ⟨a0, a1⟩ := o.reg a (by omega) (by omega)
  obtain ⟨b0, b1⟩ := o.reg b (by omega) (by omega)
  have hl := hX.lt
  have HX := Lib.hid hX
  have HM := Lib.hid m
  have HK := Lib.hid hk
  clear hX hk m
  have A0 : (0 : Int) ≤ (a : Int) := by omega
  have A1 : (a : Int) < 8 := by omega
  have B0 : (0 : Int) ≤ (b : Int) := by omega
  have B1 : (b : Int) < 8 := by omega
  generalize hra : d.reg a = ra at *
  generalize hrb : d.reg b = rb at *
  have XA := Lib.hid xa
  have XB := Lib.hid xb
  clear xa xb
  go_enter Try.func40, Try.ntmps40
  go_wp2_with fail
  obtain ⟨W1, e1, K1, K2, K3, K4⟩ := boxed HX.out 16 a b imm 0
  have e1 : (w.alloc (.cells #[.int .i64 16, .int .i64 a, .int .i64 b, .int .u32 imm] 73)).alloc (.cells #[.int .i64 0, .int .i64 0] 60) = W1 := e1
  rw [e1]
  have TS0 := Lib.hid (show TS g X w.heap.size (w.heap.size + 1) d.cs 16 a b imm W1 from ⟨K1, K2, K3, (HM.out.below K4).bytes.ne K1 (by decide), (HM.out.below K4).bytes.ne K2 (by decide), (HM.out.below K4).bytes.ne K3 (by decide)⟩)
  have M1 := Lib.hid (HM.out.below K4)
  have HK4 := Lib.hid K4
  clear e1 K1 K2 K3 K4
  generalize hI : w.heap.size = I at *
  have HI := Lib.hid hI
  clear hI
  go_region_held3 (fun w' => (w'.cell? ⟨I, 1, none⟩ = some (.int .i64 a) ∧ w'.cell? ⟨I, 2, none⟩ = some (.int .i64 b) ∧ w'.cell? ⟨X, 1 + a, none⟩ = some (.int .u32 ra) ∧ w'.cell? ⟨X, 1 + b, none⟩ = some (.int .u32 rb)) ∧ TS g X I (I + 1) d.cs 16 a b imm w')
    (first | exact ts_s TS0.out XA.out XB.out | exact ts_s (ts_drew TS0.out) XA.out XB.out | exact ts_keep ‹_ ∧ TS _ _ _ _ _ _ _ _ _ _› sc XA.out XB.out)
    (first | (go_at_call 13; (with_reducible refine (put_no (M1.out.below (Below.refl _ _).drew) ra rb a0 a1 b0 b1 HK.out).mono ?_); rintro e w' ⟨rfl, sb⟩; have sc : Chg g g _ w' := Chg.of sb))
  rename_i hh
  have TS2 := Lib.hid hh.2
  have o1 := hh.2.2.2.1.cell 0
  have o2 := hh.2.2.2.1.cell 1
  have p1 := hh.2.2.2.1.frozen 0
  have p2 := hh.2.2.2.1.frozen 1
  simp only [List.getElem?_cons_succ, List.getElem?_cons_zero] at o1 o2
  clear hh
  go_wp2_with fail
  have hXO : X ≠ I + 1 := by omega
  refine bodyPost_ret (v := .agg #[.int .i64 3, .int .i64 0]) (by simp [results, Try.results40, go_sem, o1, o2]) rfl ⟨rfl, ?_⟩
  have c0 : Below w.heap.size w w' := bel_then (HI.out.symm ▸ HK4.out) (bel_then (Below.refl _ _).drew sb)
  exact ((c0.setCell (by have := HI.out; simp; omega) _).setCell (by have := HI.out; simp; omega) _)
end Go.Proofs.Ytjcggpaiminecaa.Mm
