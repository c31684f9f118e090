/- A step of package step: its walks. -/
import Derived.Test.YtbgnkljeodandaaGreatLStA
import Derived.Test.YtbgnkljeodandaaGreatLIsB
import Derived.Deep.RegionLaw
import Derived.Deep.RegionWith
namespace Go.Proofs.YtbgnkljeodandaaGreat.Mm
open Go.ChangeShapes Go.WideShapes Go.ChangeAt Go.RowKit
set_option linter.unusedVariables false
set_option maxRecDepth 10000

def ObP (w : World) (p g h X : Nat) (T : List Bool) (o : Ou) (e : Ending) (w' : World) : Prop :=
 e = .returned (.agg #[.int .i64 o.what, .int .i64 o.gate]) ∧ MemAt w' p g h o.B T ∧ (o.what = 0 ∨ o.what = 2 → HasB w' X 35 o.c.cs) ∧ Chg g X w w'
theorem ob_end {w W1 : World} {p g h X j : Nat} {B : List Int} {T : List Bool} {cs cs' : List Value} {u : Value} {wh ga : Value} (m : MemAt W1 p g h B T) (K1 : HasB W1 X 35 cs) (K3 : HasB W1 (w.heap.size + 1) 103 [.int .i64 0, .int .i64 0]) (K4 : Below w.heap.size w W1) (hl : X < w.heap.size) (hcs : cs.set j u = cs') :
    let w' := (((W1.setCell ⟨X, j, none⟩ u).setCell ⟨w.heap.size + 1, 0, none⟩ wh).setCell ⟨w.heap.size + 1, 1, none⟩ ga)
    MemAt w' p g h B T ∧ HasB w' X 35 cs' ∧ Chg g X w w' := by
  intro w'
  have n1 := m.own.ne K3 (by decide)
  have n2 := m.bytes.ne K3 (by decide)
  have n3 := m.zones.ne K3 (by decide)
  have x1 := m.own.ne K1 (by decide)
  have x2 := m.bytes.ne K1 (by decide)
  have x3 := m.zones.ne K1 (by decide)
  have hXO : X ≠ w.heap.size + 1 := by omega
  have c1 : Chg X (w.heap.size + 1) W1 w' := chg_set (chg_set (chg_set (Chg.refl _ _ _) _ (.inl rfl) _ _) _ (.inr rfl) _ _) _ (.inr rfl) _ _
  refine ⟨m.chg c1 x1 n1 x2 n2 x3 n3, ?_, ?_⟩
  · rw [← hcs]
    exact has_far (has_far (has_set K1 j _) hXO 0 _) hXO 1 _
  · exact chg_new (chg_new (chg_set (Chg.of K4) X (.inr rfl) _ _) _ (by omega) _ _) _ (by omega) _ _
theorem ob_end0 {w W1 : World} {p g h X : Nat} {B : List Int} {T : List Bool} {cs : List Value} {wh ga : Value} (m : MemAt W1 p g h B T) (K1 : HasB W1 X 35 cs) (K3 : HasB W1 (w.heap.size + 1) 103 [.int .i64 0, .int .i64 0]) (K4 : Below w.heap.size w W1) (hl : X < w.heap.size) :
  let w' := ((W1.setCell ⟨w.heap.size + 1, 0, none⟩ wh).setCell ⟨w.heap.size + 1, 1, none⟩ ga)
  MemAt w' p g h B T ∧ HasB w' X 35 cs ∧ Chg g X w w' := by
 intro w'
 have n1 := m.own.ne K3 (by decide)
 have n2 := m.bytes.ne K3 (by decide)
 have n3 := m.zones.ne K3 (by decide)
 have hXO : X ≠ w.heap.size + 1 := by omega
 have c1 : Chg (w.heap.size + 1) (w.heap.size + 1) W1 w' := chg_set (chg_set (Chg.refl _ _ _) _ (.inl rfl) _ _) _ (.inl rfl) _ _
 exact ⟨m.chg c1 n1 n1 n2 n2 n3 n3, has_far (has_far K1 hXO 0 _) hXO 1 _, chg_new (chg_new (Chg.of K4) _ (by omega) _ _) _ (by omega) _ _⟩
theorem ob_end2 {w w2 : World} {p g h X : Nat} {B : List Int} {T : List Bool} {cs : List Value} {wh ga : Value} (m : MemAt w2 p g h B T) (K1 : HasB w2 X 35 cs) (K3 : HasB w2 (w.heap.size + 1) 103 [.int .i64 0, .int .i64 0]) (c : Chg g X w w2) (hl : X < w.heap.size) :
  let w' := ((w2.setCell ⟨w.heap.size + 1, 0, none⟩ wh).setCell ⟨w.heap.size + 1, 1, none⟩ ga)
  MemAt w' p g h B T ∧ HasB w' X 35 cs ∧ Chg g X w w' := by
 intro w'
 have n1 := m.own.ne K3 (by decide)
 have n2 := m.bytes.ne K3 (by decide)
 have n3 := m.zones.ne K3 (by decide)
 have hXO : X ≠ w.heap.size + 1 := by omega
 have c1 : Chg (w.heap.size + 1) (w.heap.size + 1) w2 w' := chg_set (chg_set (Chg.refl _ _ _) _ (.inl rfl) _ _) _ (.inl rfl) _ _
 exact ⟨m.chg c1 n1 n1 n2 n2 n3 n3, has_far (has_far K1 hXO 0 _) hXO 1 _, chg_new (chg_new c _ (by omega) _ _) _ (by omega) _ _⟩
theorem Chg.l {g h : Nat} {w w' : World} (c : Chg g g w w') : Chg g h w w' := ⟨c.os, c.tape, c.output, c.size, fun k hk h1 _ => c.block k hk h1 h1⟩
theorem Chg.r {g h : Nat} {w w' : World} (c : Chg h h w w') : Chg g h w w' := ⟨c.os, c.tape, c.output, c.size, fun k hk _ h1 => c.block k hk h1 h1⟩
set_option maxRecDepth 100000 in
set_option maxHeartbeats 4000000 in
theorem obey_1 {w : World} {X p g h : Nat} {B : List Int} {T : List Bool} {d : Cp} (m : MemAt w p g h B T) (o : d.Ok) (hX : HasB w X 35 d.cs) (imm : Int) (a b : Nat) (ha : a < 8) (hb : b < 8) (hi : U32 imm) :
  Calls Tryz.prog 64 #[.pointer (some ⟨X, 0, none⟩), .agg #[.int .i64 1, .int .i64 a, .int .i64 b, .int .u32 imm], .pointer (some ⟨p, 0, none⟩)] w (ObP w p g h X T ⟨d.setR a imm, B, 0, 0⟩) := by
 have xa := Cp.cs_reg o a ha
 have xb := Cp.cs_reg o b hb
 obtain ⟨a0, a1⟩ := o.reg a (by omega) (by omega)
 obtain ⟨b0, b1⟩ := o.reg b (by omega) (by omega)
 obtain ⟨pc0, pc1⟩ := o.pc
 have hl := hX.lt
 have A0 : (0 : Int) ≤ (a : Int) := by omega
 have A1 : (a : Int) < 8 := by omega
 have B0 : (0 : Int) ≤ (b : Int) := by omega
 have B1 : (b : Int) < 8 := by omega
 obtain ⟨i0, i1⟩ := hi
 obtain ⟨W1, e1, K1, K2, K3, K4⟩ := boxed hX 1 a b imm 0
 have HM := Lib.hid (m.below K4)
 replace e1 : (w.alloc (.cells #[.int .i64 1, .int .i64 a, .int .i64 b, .int .u32 imm] 100)).alloc (.cells #[.int .i64 0, .int .i64 0] 103) = W1 := e1
 have y0 := K2.cell 0
 have y1 := K2.cell 1
 have y2 := K2.cell 2
 have y3 := K2.cell 3
 have fo0 := K3.frozen 0
 have fo1 := K3.frozen 1
 have co0 := K3.cell 0
 have co1 := K3.cell 1
 have fx0 := K1.frozen 0
 have fxa := K1.frozen (1 + a)
 have xpc := (K1.cell 0).trans Cp.cs_pc
 have xca := (K1.cell (1 + a)).trans xa
 have xcb := (K1.cell (1 + b)).trans xb
 simp only [List.getElem?_cons_succ, List.getElem?_cons_zero] at y0 y1 y2 y3 co0 co1
 replace K1 := Lib.hid K1
 replace K3 := Lib.hid K3
 replace K4 := Lib.hid K4
 clear hX m xa xb K2
 go_enter Tryz.func64, Tryz.ntmps64
 go_wp2_with fail
 go_region
 all_goals go_wp2_with fail
 refine bodyPost_ret (v := .agg #[.int .i64 0, .int .i64 0]) (by simp [results, Tryz.results64, go_sem, co0, co1]) rfl ⟨rfl, ?_⟩
 obtain ⟨q1, q2, q3⟩ := ob_end (wh := .int .i64 0) (ga := .int .i64 0) HM.out K1.out K3.out K4.out hl (Cp.cs_setR o a ha imm)
 exact ⟨q1.below (Below.refl _ _).drew, fun _ => drew_has q2, chg_drew q3⟩
set_option maxRecDepth 100000 in
set_option maxHeartbeats 4000000 in
theorem obey_2 {w : World} {X p g h : Nat} {B : List Int} {T : List Bool} {d : Cp} (m : MemAt w p g h B T) (o : d.Ok) (hX : HasB w X 35 d.cs) (imm : Int) (a b : Nat) (ha : a < 8) (hb : b < 8) (hi : U32 imm) :
  Calls Tryz.prog 64 #[.pointer (some ⟨X, 0, none⟩), .agg #[.int .i64 2, .int .i64 a, .int .i64 b, .int .u32 imm], .pointer (some ⟨p, 0, none⟩)] w (ObP w p g h X T ⟨d.setR a (d.reg b), B, 0, 0⟩) := by
 have xa := Cp.cs_reg o a ha
 have xb := Cp.cs_reg o b hb
 obtain ⟨a0, a1⟩ := o.reg a (by omega) (by omega)
 obtain ⟨b0, b1⟩ := o.reg b (by omega) (by omega)
 obtain ⟨pc0, pc1⟩ := o.pc
 have hl := hX.lt
 have A0 : (0 : Int) ≤ (a : Int) := by omega
 have A1 : (a : Int) < 8 := by omega
 have B0 : (0 : Int) ≤ (b : Int) := by omega
 have B1 : (b : Int) < 8 := by omega
 obtain ⟨i0, i1⟩ := hi
 obtain ⟨W1, e1, K1, K2, K3, K4⟩ := boxed hX 2 a b imm 0
 have HM := Lib.hid (m.below K4)
 replace e1 : (w.alloc (.cells #[.int .i64 2, .int .i64 a, .int .i64 b, .int .u32 imm] 100)).alloc (.cells #[.int .i64 0, .int .i64 0] 103) = W1 := e1
 have y0 := K2.cell 0
 have y1 := K2.cell 1
 have y2 := K2.cell 2
 have y3 := K2.cell 3
 have fo0 := K3.frozen 0
 have fo1 := K3.frozen 1
 have co0 := K3.cell 0
 have co1 := K3.cell 1
 have fx0 := K1.frozen 0
 have fxa := K1.frozen (1 + a)
 have xpc := (K1.cell 0).trans Cp.cs_pc
 have xca := (K1.cell (1 + a)).trans xa
 have xcb := (K1.cell (1 + b)).trans xb
 simp only [List.getElem?_cons_succ, List.getElem?_cons_zero] at y0 y1 y2 y3 co0 co1
 replace K1 := Lib.hid K1
 replace K3 := Lib.hid K3
 replace K4 := Lib.hid K4
 generalize d.reg b = rb at *
 clear hX m xa xb K2
 go_enter Tryz.func64, Tryz.ntmps64
 go_wp2_with fail
 go_region
 all_goals go_wp2_with fail
 refine bodyPost_ret (v := .agg #[.int .i64 0, .int .i64 0]) (by simp [results, Tryz.results64, go_sem, co0, co1]) rfl ⟨rfl, ?_⟩
 obtain ⟨q1, q2, q3⟩ := ob_end (wh := .int .i64 0) (ga := .int .i64 0) HM.out K1.out K3.out K4.out hl (Cp.cs_setR o a ha rb)
 exact ⟨q1.below (Below.refl _ _).drew, fun _ => drew_has q2, chg_drew q3⟩
set_option maxRecDepth 100000 in
set_option maxHeartbeats 4000000 in
theorem obey_19 {w : World} {X p g h : Nat} {B : List Int} {T : List Bool} {d : Cp} (m : MemAt w p g h B T) (o : d.Ok) (hX : HasB w X 35 d.cs) (imm : Int) (a b : Nat) (ha : a < 8) (hb : b < 8) (hi : U32 imm) :
  Calls Tryz.prog 64 #[.pointer (some ⟨X, 0, none⟩), .agg #[.int .i64 19, .int .i64 a, .int .i64 b, .int .u32 imm], .pointer (some ⟨p, 0, none⟩)] w (ObP w p g h X T ⟨d.setPc (IntKind.u32.wrap (d.pc + imm)), B, 0, 0⟩) := by
 have xa := Cp.cs_reg o a ha
 have xb := Cp.cs_reg o b hb
 obtain ⟨a0, a1⟩ := o.reg a (by omega) (by omega)
 obtain ⟨b0, b1⟩ := o.reg b (by omega) (by omega)
 obtain ⟨pc0, pc1⟩ := o.pc
 have hl := hX.lt
 have A0 : (0 : Int) ≤ (a : Int) := by omega
 have A1 : (a : Int) < 8 := by omega
 have B0 : (0 : Int) ≤ (b : Int) := by omega
 have B1 : (b : Int) < 8 := by omega
 obtain ⟨i0, i1⟩ := hi
 obtain ⟨W1, e1, K1, K2, K3, K4⟩ := boxed hX 19 a b imm 0
 have HM := Lib.hid (m.below K4)
 replace e1 : (w.alloc (.cells #[.int .i64 19, .int .i64 a, .int .i64 b, .int .u32 imm] 100)).alloc (.cells #[.int .i64 0, .int .i64 0] 103) = W1 := e1
 have y0 := K2.cell 0
 have y1 := K2.cell 1
 have y2 := K2.cell 2
 have y3 := K2.cell 3
 have fo0 := K3.frozen 0
 have fo1 := K3.frozen 1
 have co0 := K3.cell 0
 have co1 := K3.cell 1
 have fx0 := K1.frozen 0
 have fxa := K1.frozen (1 + a)
 have xpc := (K1.cell 0).trans Cp.cs_pc
 have xca := (K1.cell (1 + a)).trans xa
 have xcb := (K1.cell (1 + b)).trans xb
 simp only [List.getElem?_cons_succ, List.getElem?_cons_zero] at y0 y1 y2 y3 co0 co1
 replace K1 := Lib.hid K1
 replace K3 := Lib.hid K3
 replace K4 := Lib.hid K4
 clear hX m xa xb K2
 go_enter Tryz.func64, Tryz.ntmps64
 go_wp2_with fail
 go_region
 all_goals go_wp2_with fail
 refine bodyPost_ret (v := .agg #[.int .i64 0, .int .i64 0]) (by simp [results, Tryz.results64, go_sem, co0, co1]) rfl ⟨rfl, ?_⟩
 obtain ⟨q1, q2, q3⟩ := ob_end (wh := .int .i64 0) (ga := .int .i64 0) HM.out K1.out K3.out K4.out hl (Cp.cs_setPc _)
 exact ⟨q1.below (Below.refl _ _).drew, fun _ => drew_has q2, chg_drew q3⟩
set_option maxRecDepth 100000 in
set_option maxHeartbeats 4000000 in
theorem obey_21 {w : World} {X p g h : Nat} {B : List Int} {T : List Bool} {d : Cp} (m : MemAt w p g h B T) (o : d.Ok) (hX : HasB w X 35 d.cs) (imm : Int) (a b : Nat) (ha : a < 8) (hb : b < 8) (hi : U32 imm) :
  Calls Tryz.prog 64 #[.pointer (some ⟨X, 0, none⟩), .agg #[.int .i64 21, .int .i64 a, .int .i64 b, .int .u32 imm], .pointer (some ⟨p, 0, none⟩)] w (ObP w p g h X T ⟨d.setPc (d.reg a), B, 0, 0⟩) := by
 have xa := Cp.cs_reg o a ha
 have xb := Cp.cs_reg o b hb
 obtain ⟨a0, a1⟩ := o.reg a (by omega) (by omega)
 obtain ⟨b0, b1⟩ := o.reg b (by omega) (by omega)
 obtain ⟨pc0, pc1⟩ := o.pc
 have hl := hX.lt
 have A0 : (0 : Int) ≤ (a : Int) := by omega
 have A1 : (a : Int) < 8 := by omega
 have B0 : (0 : Int) ≤ (b : Int) := by omega
 have B1 : (b : Int) < 8 := by omega
 obtain ⟨i0, i1⟩ := hi
 obtain ⟨W1, e1, K1, K2, K3, K4⟩ := boxed hX 21 a b imm 0
 have HM := Lib.hid (m.below K4)
 replace e1 : (w.alloc (.cells #[.int .i64 21, .int .i64 a, .int .i64 b, .int .u32 imm] 100)).alloc (.cells #[.int .i64 0, .int .i64 0] 103) = W1 := e1
 have y0 := K2.cell 0
 have y1 := K2.cell 1
 have y2 := K2.cell 2
 have y3 := K2.cell 3
 have fo0 := K3.frozen 0
 have fo1 := K3.frozen 1
 have co0 := K3.cell 0
 have co1 := K3.cell 1
 have fx0 := K1.frozen 0
 have fxa := K1.frozen (1 + a)
 have xpc := (K1.cell 0).trans Cp.cs_pc
 have xca := (K1.cell (1 + a)).trans xa
 have xcb := (K1.cell (1 + b)).trans xb
 simp only [List.getElem?_cons_succ, List.getElem?_cons_zero] at y0 y1 y2 y3 co0 co1
 replace K1 := Lib.hid K1
 replace K3 := Lib.hid K3
 replace K4 := Lib.hid K4
 generalize d.reg a = ra at *
 clear hX m xa xb K2
 go_enter Tryz.func64, Tryz.ntmps64
 go_wp2_with fail
 go_region
 all_goals go_wp2_with fail
 refine bodyPost_ret (v := .agg #[.int .i64 0, .int .i64 0]) (by simp [results, Tryz.results64, go_sem, co0, co1]) rfl ⟨rfl, ?_⟩
 obtain ⟨q1, q2, q3⟩ := ob_end (wh := .int .i64 0) (ga := .int .i64 0) HM.out K1.out K3.out K4.out hl (Cp.cs_setPc _)
 exact ⟨q1.below (Below.refl _ _).drew, fun _ => drew_has q2, chg_drew q3⟩
set_option maxRecDepth 100000 in
set_option maxHeartbeats 4000000 in
theorem obey_0 {w : World} {X p g h : Nat} {B : List Int} {T : List Bool} {d : Cp} (m : MemAt w p g h B T) (o : d.Ok) (hX : HasB w X 35 d.cs) (imm : Int) (a b : Nat) (ha : a < 8) (hb : b < 8) (hi : U32 imm) (c : Cp) :
  Calls Tryz.prog 64 #[.pointer (some ⟨X, 0, none⟩), .agg #[.int .i64 0, .int .i64 a, .int .i64 b, .int .u32 imm], .pointer (some ⟨p, 0, none⟩)] w (ObP w p g h X T ⟨c, B, 1, 0⟩) := by
 have xa := Cp.cs_reg o a ha
 have xb := Cp.cs_reg o b hb
 obtain ⟨a0, a1⟩ := o.reg a (by omega) (by omega)
 obtain ⟨b0, b1⟩ := o.reg b (by omega) (by omega)
 obtain ⟨pc0, pc1⟩ := o.pc
 have hl := hX.lt
 have A0 : (0 : Int) ≤ (a : Int) := by omega
 have A1 : (a : Int) < 8 := by omega
 have B0 : (0 : Int) ≤ (b : Int) := by omega
 have B1 : (b : Int) < 8 := by omega
 obtain ⟨i0, i1⟩ := hi
 obtain ⟨W1, e1, K1, K2, K3, K4⟩ := boxed hX 0 a b imm 0
 have HM := Lib.hid (m.below K4)
 replace e1 : (w.alloc (.cells #[.int .i64 0, .int .i64 a, .int .i64 b, .int .u32 imm] 100)).alloc (.cells #[.int .i64 0, .int .i64 0] 103) = W1 := e1
 have y0 := K2.cell 0
 have y1 := K2.cell 1
 have y2 := K2.cell 2
 have y3 := K2.cell 3
 have fo0 := K3.frozen 0
 have fo1 := K3.frozen 1
 have co0 := K3.cell 0
 have co1 := K3.cell 1
 have fx0 := K1.frozen 0
 have fxa := K1.frozen (1 + a)
 have xpc := (K1.cell 0).trans Cp.cs_pc
 have xca := (K1.cell (1 + a)).trans xa
 have xcb := (K1.cell (1 + b)).trans xb
 simp only [List.getElem?_cons_succ, List.getElem?_cons_zero] at y0 y1 y2 y3 co0 co1
 replace K1 := Lib.hid K1
 replace K3 := Lib.hid K3
 replace K4 := Lib.hid K4
 clear hX m xa xb K2
 go_enter Tryz.func64, Tryz.ntmps64
 go_wp2_with fail
 refine bodyPost_ret (v := .agg #[.int .i64 1, .int .i64 0]) (by simp [results, Tryz.results64, go_sem, co0, co1]) rfl ⟨rfl, ?_⟩
 obtain ⟨q1, q2, q3⟩ := ob_end0 (wh := .int .i64 1) (ga := .int .i64 0) HM.out K1.out K3.out K4.out hl
 exact ⟨q1, (by rintro (h | h) <;> cases h), q3⟩
set_option maxRecDepth 100000 in
set_option maxHeartbeats 4000000 in
theorem obey_22 {w : World} {X p g h : Nat} {B : List Int} {T : List Bool} {d : Cp} (m : MemAt w p g h B T) (o : d.Ok) (hX : HasB w X 35 d.cs) (imm : Int) (a b : Nat) (ha : a < 8) (hb : b < 8) (hi : U32 imm) :
  Calls Tryz.prog 64 #[.pointer (some ⟨X, 0, none⟩), .agg #[.int .i64 22, .int .i64 a, .int .i64 b, .int .u32 imm], .pointer (some ⟨p, 0, none⟩)] w (ObP w p g h X T ⟨d, B, 2, imm⟩) := by
 have xa := Cp.cs_reg o a ha
 have xb := Cp.cs_reg o b hb
 obtain ⟨a0, a1⟩ := o.reg a (by omega) (by omega)
 obtain ⟨b0, b1⟩ := o.reg b (by omega) (by omega)
 obtain ⟨pc0, pc1⟩ := o.pc
 have hl := hX.lt
 have A0 : (0 : Int) ≤ (a : Int) := by omega
 have A1 : (a : Int) < 8 := by omega
 have B0 : (0 : Int) ≤ (b : Int) := by omega
 have B1 : (b : Int) < 8 := by omega
 obtain ⟨i0, i1⟩ := hi
 obtain ⟨W1, e1, K1, K2, K3, K4⟩ := boxed hX 22 a b imm 0
 have HM := Lib.hid (m.below K4)
 replace e1 : (w.alloc (.cells #[.int .i64 22, .int .i64 a, .int .i64 b, .int .u32 imm] 100)).alloc (.cells #[.int .i64 0, .int .i64 0] 103) = W1 := e1
 have y0 := K2.cell 0
 have y1 := K2.cell 1
 have y2 := K2.cell 2
 have y3 := K2.cell 3
 have fo0 := K3.frozen 0
 have fo1 := K3.frozen 1
 have co0 := K3.cell 0
 have co1 := K3.cell 1
 have fx0 := K1.frozen 0
 have fxa := K1.frozen (1 + a)
 have xpc := (K1.cell 0).trans Cp.cs_pc
 have xca := (K1.cell (1 + a)).trans xa
 have xcb := (K1.cell (1 + b)).trans xb
 simp only [List.getElem?_cons_succ, List.getElem?_cons_zero] at y0 y1 y2 y3 co0 co1
 replace K1 := Lib.hid K1
 replace K3 := Lib.hid K3
 replace K4 := Lib.hid K4
 clear hX m xa xb K2
 go_enter Tryz.func64, Tryz.ntmps64
 go_wp2_with fail
 refine bodyPost_ret (v := .agg #[.int .i64 2, .int .i64 imm]) (by simp [results, Tryz.results64, go_sem, co0, co1]) rfl ⟨rfl, ?_⟩
 obtain ⟨q1, q2, q3⟩ := ob_end0 (wh := .int .i64 2) (ga := .int .i64 imm) HM.out K1.out K3.out K4.out hl
 exact ⟨q1, fun _ => q2, q3⟩
set_option maxRecDepth 100000 in
set_option maxHeartbeats 4000000 in
theorem obey_23 {w : World} {X p g h : Nat} {B : List Int} {T : List Bool} {d : Cp} (m : MemAt w p g h B T) (o : d.Ok) (hX : HasB w X 35 d.cs) (imm : Int) (a b : Nat) (ha : a < 8) (hb : b < 8) (hi : U32 imm) :
  Calls Tryz.prog 64 #[.pointer (some ⟨X, 0, none⟩), .agg #[.int .i64 23, .int .i64 a, .int .i64 b, .int .u32 imm], .pointer (some ⟨p, 0, none⟩)] w (ObP w p g h X T ⟨d, B, 0, 0⟩) := by
 have xa := Cp.cs_reg o a ha
 have xb := Cp.cs_reg o b hb
 obtain ⟨a0, a1⟩ := o.reg a (by omega) (by omega)
 obtain ⟨b0, b1⟩ := o.reg b (by omega) (by omega)
 obtain ⟨pc0, pc1⟩ := o.pc
 have hl := hX.lt
 have A0 : (0 : Int) ≤ (a : Int) := by omega
 have A1 : (a : Int) < 8 := by omega
 have B0 : (0 : Int) ≤ (b : Int) := by omega
 have B1 : (b : Int) < 8 := by omega
 obtain ⟨i0, i1⟩ := hi
 obtain ⟨W1, e1, K1, K2, K3, K4⟩ := boxed hX 23 a b imm 0
 have HM := Lib.hid (m.below K4)
 replace e1 : (w.alloc (.cells #[.int .i64 23, .int .i64 a, .int .i64 b, .int .u32 imm] 100)).alloc (.cells #[.int .i64 0, .int .i64 0] 103) = W1 := e1
 have y0 := K2.cell 0
 have y1 := K2.cell 1
 have y2 := K2.cell 2
 have y3 := K2.cell 3
 have fo0 := K3.frozen 0
 have fo1 := K3.frozen 1
 have co0 := K3.cell 0
 have co1 := K3.cell 1
 have fx0 := K1.frozen 0
 have fxa := K1.frozen (1 + a)
 have xpc := (K1.cell 0).trans Cp.cs_pc
 have xca := (K1.cell (1 + a)).trans xa
 have xcb := (K1.cell (1 + b)).trans xb
 simp only [List.getElem?_cons_succ, List.getElem?_cons_zero] at y0 y1 y2 y3 co0 co1
 replace K1 := Lib.hid K1
 replace K3 := Lib.hid K3
 replace K4 := Lib.hid K4
 clear hX m xa xb K2
 go_enter Tryz.func64, Tryz.ntmps64
 go_wp2_with fail
 refine bodyPost_ret (v := .agg #[.int .i64 0, .int .i64 0]) (by simp [results, Tryz.results64, go_sem, co0, co1]) rfl ⟨rfl, ?_⟩
 obtain ⟨q1, q2, q3⟩ := ob_end0 (wh := .int .i64 0) (ga := .int .i64 0) HM.out K1.out K3.out K4.out hl
 exact ⟨q1, fun _ => q2, q3⟩
set_option maxRecDepth 100000 in
set_option maxHeartbeats 4000000 in
theorem obey_20y {w : World} {X p g h : Nat} {B : List Int} {T : List Bool} {d : Cp} (m : MemAt w p g h B T) (o : d.Ok) (hX : HasB w X 35 d.cs) (imm : Int) (a b : Nat) (ha : a < 8) (hb : b < 8) (hi : U32 imm) (hz : d.reg a = 0) :
  Calls Tryz.prog 64 #[.pointer (some ⟨X, 0, none⟩), .agg #[.int .i64 20, .int .i64 a, .int .i64 b, .int .u32 imm], .pointer (some ⟨p, 0, none⟩)] w (ObP w p g h X T ⟨d.setPc (IntKind.u32.wrap (d.pc + imm)), B, 0, 0⟩) := by
 have xa := Cp.cs_reg o a ha
 have xb := Cp.cs_reg o b hb
 obtain ⟨a0, a1⟩ := o.reg a (by omega) (by omega)
 obtain ⟨b0, b1⟩ := o.reg b (by omega) (by omega)
 obtain ⟨pc0, pc1⟩ := o.pc
 have hl := hX.lt
 have A0 : (0 : Int) ≤ (a : Int) := by omega
 have A1 : (a : Int) < 8 := by omega
 have B0 : (0 : Int) ≤ (b : Int) := by omega
 have B1 : (b : Int) < 8 := by omega
 obtain ⟨i0, i1⟩ := hi
 obtain ⟨W1, e1, K1, K2, K3, K4⟩ := boxed hX 20 a b imm 0
 have HM := Lib.hid (m.below K4)
 replace e1 : (w.alloc (.cells #[.int .i64 20, .int .i64 a, .int .i64 b, .int .u32 imm] 100)).alloc (.cells #[.int .i64 0, .int .i64 0] 103) = W1 := e1
 have y0 := K2.cell 0
 have y1 := K2.cell 1
 have y2 := K2.cell 2
 have y3 := K2.cell 3
 have fo0 := K3.frozen 0
 have fo1 := K3.frozen 1
 have co0 := K3.cell 0
 have co1 := K3.cell 1
 have fx0 := K1.frozen 0
 have fxa := K1.frozen (1 + a)
 have xpc := (K1.cell 0).trans Cp.cs_pc
 have xca := (K1.cell (1 + a)).trans xa
 have xcb := (K1.cell (1 + b)).trans xb
 simp only [List.getElem?_cons_succ, List.getElem?_cons_zero] at y0 y1 y2 y3 co0 co1
 replace K1 := Lib.hid K1
 replace K3 := Lib.hid K3
 replace K4 := Lib.hid K4
 have zz : (d.reg a == 0) = true := by rw [hz]; rfl
 clear hz
 generalize d.reg a = ra at *
 clear hX m xa xb K2
 go_enter Tryz.func64, Tryz.ntmps64
 go_wp2_with fail
 go_quiet (fail)
 go_wp2_with fail
 go_region
 all_goals go_wp2_with fail
 refine bodyPost_ret (v := .agg #[.int .i64 0, .int .i64 0]) (by simp [results, Tryz.results64, go_sem, co0, co1]) rfl ⟨rfl, ?_⟩
 obtain ⟨q1, q2, q3⟩ := ob_end (W1 := W1.drewN nq) (wh := .int .i64 0) (ga := .int .i64 0) (HM.out.below (below_drewN (Below.refl _ _) nq)) K1.out K3.out (below_drewN K4.out nq) hl (Cp.cs_setPc _)
 exact ⟨q1.below (Below.refl _ _).drew, fun _ => drew_has q2, chg_drew q3⟩
set_option maxRecDepth 100000 in
set_option maxHeartbeats 4000000 in
theorem obey_20n {w : World} {X p g h : Nat} {B : List Int} {T : List Bool} {d : Cp} (m : MemAt w p g h B T) (o : d.Ok) (hX : HasB w X 35 d.cs) (imm : Int) (a b : Nat) (ha : a < 8) (hb : b < 8) (hi : U32 imm) (hz : ¬ d.reg a = 0) :
  Calls Tryz.prog 64 #[.pointer (some ⟨X, 0, none⟩), .agg #[.int .i64 20, .int .i64 a, .int .i64 b, .int .u32 imm], .pointer (some ⟨p, 0, none⟩)] w (ObP w p g h X T ⟨d, B, 0, 0⟩) := by
 have xa := Cp.cs_reg o a ha
 have xb := Cp.cs_reg o b hb
 obtain ⟨a0, a1⟩ := o.reg a (by omega) (by omega)
 obtain ⟨b0, b1⟩ := o.reg b (by omega) (by omega)
 obtain ⟨pc0, pc1⟩ := o.pc
 have hl := hX.lt
 have A0 : (0 : Int) ≤ (a : Int) := by omega
 have A1 : (a : Int) < 8 := by omega
 have B0 : (0 : Int) ≤ (b : Int) := by omega
 have B1 : (b : Int) < 8 := by omega
 obtain ⟨i0, i1⟩ := hi
 obtain ⟨W1, e1, K1, K2, K3, K4⟩ := boxed hX 20 a b imm 0
 have HM := Lib.hid (m.below K4)
 replace e1 : (w.alloc (.cells #[.int .i64 20, .int .i64 a, .int .i64 b, .int .u32 imm] 100)).alloc (.cells #[.int .i64 0, .int .i64 0] 103) = W1 := e1
 have y0 := K2.cell 0
 have y1 := K2.cell 1
 have y2 := K2.cell 2
 have y3 := K2.cell 3
 have fo0 := K3.frozen 0
 have fo1 := K3.frozen 1
 have co0 := K3.cell 0
 have co1 := K3.cell 1
 have fx0 := K1.frozen 0
 have fxa := K1.frozen (1 + a)
 have xpc := (K1.cell 0).trans Cp.cs_pc
 have xca := (K1.cell (1 + a)).trans xa
 have xcb := (K1.cell (1 + b)).trans xb
 simp only [List.getElem?_cons_succ, List.getElem?_cons_zero] at y0 y1 y2 y3 co0 co1
 replace K1 := Lib.hid K1
 replace K3 := Lib.hid K3
 replace K4 := Lib.hid K4
 have zz : (d.reg a == 0) = false := by simpa using hz
 clear hz
 generalize d.reg a = ra at *
 clear hX m xa xb K2
 go_enter Tryz.func64, Tryz.ntmps64
 go_wp2_with fail
 go_quiet (fail)
 go_wp2_with fail
 refine bodyPost_ret (v := .agg #[.int .i64 0, .int .i64 0]) (by simp [results, Tryz.results64, go_sem, co0, co1]) rfl ⟨rfl, ?_⟩
 obtain ⟨q1, q2, q3⟩ := ob_end0 (W1 := W1.drewN nq) (wh := .int .i64 0) (ga := .int .i64 0) (HM.out.below (below_drewN (Below.refl _ _) nq)) K1.out K3.out (below_drewN K4.out nq) hl
 exact ⟨q1, fun _ => q2, q3⟩
set_option maxRecDepth 100000 in
set_option maxHeartbeats 4000000 in
theorem obey_15y {w : World} {X p g h : Nat} {B : List Int} {T : List Bool} {d : Cp} (m : MemAt w p g h B T) (o : d.Ok) (hX : HasB w X 35 d.cs) (imm : Int) (a b : Nat) (ha : a < 8) (hb : b < 8) (hi : U32 imm) (hk : wholeB T (d.reg b) 4 = true) :
  Calls Tryz.prog 64 #[.pointer (some ⟨X, 0, none⟩), .agg #[.int .i64 15, .int .i64 a, .int .i64 b, .int .u32 imm], .pointer (some ⟨p, 0, none⟩)] w (ObP w p g h X T ⟨d.setR a (v4 B (d.reg b).toNat), B, 0, 0⟩) := by
 have xa := Cp.cs_reg o a ha
 have xb := Cp.cs_reg o b hb
 obtain ⟨a0, a1⟩ := o.reg a (by omega) (by omega)
 obtain ⟨b0, b1⟩ := o.reg b (by omega) (by omega)
 obtain ⟨pc0, pc1⟩ := o.pc
 have hl := hX.lt
 have A0 : (0 : Int) ≤ (a : Int) := by omega
 have A1 : (a : Int) < 8 := by omega
 have B0 : (0 : Int) ≤ (b : Int) := by omega
 have B1 : (b : Int) < 8 := by omega
 obtain ⟨i0, i1⟩ := hi
 obtain ⟨W1, e1, K1, K2, K3, K4⟩ := boxed hX 15 a b imm 0
 have HM := Lib.hid (m.below K4)
 replace e1 : (w.alloc (.cells #[.int .i64 15, .int .i64 a, .int .i64 b, .int .u32 imm] 100)).alloc (.cells #[.int .i64 0, .int .i64 0] 103) = W1 := e1
 have y0 := K2.cell 0
 have y1 := K2.cell 1
 have y2 := K2.cell 2
 have y3 := K2.cell 3
 have fo0 := K3.frozen 0
 have fo1 := K3.frozen 1
 have co0 := K3.cell 0
 have co1 := K3.cell 1
 have fx0 := K1.frozen 0
 have fxa := K1.frozen (1 + a)
 have xpc := (K1.cell 0).trans Cp.cs_pc
 have xca := (K1.cell (1 + a)).trans xa
 have xcb := (K1.cell (1 + b)).trans xb
 simp only [List.getElem?_cons_succ, List.getElem?_cons_zero] at y0 y1 y2 y3 co0 co1
 replace K1 := Lib.hid K1
 replace K3 := Lib.hid K3
 replace K4 := Lib.hid K4
 have HK := Lib.hid hk
 clear hk
 clear hX m xa xb K2
 go_enter Tryz.func64, Tryz.ntmps64
 have hXO : X ≠ w.heap.size + 1 := by omega
 have n1 := HM.out.own.ne K1.out (by decide)
 have n2 := HM.out.bytes.ne K1.out (by decide)
 have n3 := HM.out.zones.ne K1.out (by decide)
 have n4 := HM.out.bytes.ne K3.out (by decide)
 go_wp2_with fail
 refine (load_y HM.out o K1.out imm a b ha hb HK.out).mono ?_; rintro e w2 ⟨rfl, r1, r2⟩
 have M2 : MemAt w2 p g h B T := HM.out.chg r2 n1 n1 n2 n2 n3 n3
 have M2 := Lib.hid M2
 have X2 : HasB w2 X 35 (d.setR a (v4 B (d.reg b).toNat)).cs := r1
 have X2 := Lib.hid X2
 have k3 : HasB w2 (w.heap.size + 1) 103 [.int .i64 0, .int .i64 0] := K3.out.chg r2 hXO.symm hXO.symm
 have c4 : Chg g X w w2 := (Chg.of K4.out).trans (Chg.r r2)
 have C4 := Lib.hid c4
 clear c4
 have co0' := k3.cell 0
 have co1' := k3.cell 1
 have fo0' := k3.frozen 0
 have fo1' := k3.frozen 1
 simp only [List.getElem?_cons_succ, List.getElem?_cons_zero] at co0' co1'
 have K32 := Lib.hid k3
 clear k3
 go_wp2_with fail
 refine bodyPost_ret (v := .agg #[.int .i64 0, .int .i64 0]) (by simp [results, Tryz.results64, go_sem, co0', co1']) rfl ⟨rfl, ?_⟩
 obtain ⟨q1, q2, q3⟩ := ob_end2 (wh := .int .i64 0) (ga := .int .i64 0) M2.out X2.out K32.out C4.out hl
 exact ⟨q1, fun _ => q2, q3⟩
set_option maxRecDepth 100000 in
set_option maxHeartbeats 4000000 in
theorem obey_15n {w : World} {X p g h : Nat} {B : List Int} {T : List Bool} {d : Cp} (m : MemAt w p g h B T) (o : d.Ok) (hX : HasB w X 35 d.cs) (imm : Int) (a b : Nat) (ha : a < 8) (hb : b < 8) (hi : U32 imm) (c : Cp) (hk : wholeB T (d.reg b) 4 = false) :
  Calls Tryz.prog 64 #[.pointer (some ⟨X, 0, none⟩), .agg #[.int .i64 15, .int .i64 a, .int .i64 b, .int .u32 imm], .pointer (some ⟨p, 0, none⟩)] w (ObP w p g h X T ⟨c, B, 3, 0⟩) := by
 have xa := Cp.cs_reg o a ha
 have xb := Cp.cs_reg o b hb
 obtain ⟨a0, a1⟩ := o.reg a (by omega) (by omega)
 obtain ⟨b0, b1⟩ := o.reg b (by omega) (by omega)
 obtain ⟨pc0, pc1⟩ := o.pc
 have hl := hX.lt
 have A0 : (0 : Int) ≤ (a : Int) := by omega
 have A1 : (a : Int) < 8 := by omega
 have B0 : (0 : Int) ≤ (b : Int) := by omega
 have B1 : (b : Int) < 8 := by omega
 obtain ⟨i0, i1⟩ := hi
 obtain ⟨W1, e1, K1, K2, K3, K4⟩ := boxed hX 15 a b imm 0
 have HM := Lib.hid (m.below K4)
 replace e1 : (w.alloc (.cells #[.int .i64 15, .int .i64 a, .int .i64 b, .int .u32 imm] 100)).alloc (.cells #[.int .i64 0, .int .i64 0] 103) = W1 := e1
 have y0 := K2.cell 0
 have y1 := K2.cell 1
 have y2 := K2.cell 2
 have y3 := K2.cell 3
 have fo0 := K3.frozen 0
 have fo1 := K3.frozen 1
 have co0 := K3.cell 0
 have co1 := K3.cell 1
 have fx0 := K1.frozen 0
 have fxa := K1.frozen (1 + a)
 have xpc := (K1.cell 0).trans Cp.cs_pc
 have xca := (K1.cell (1 + a)).trans xa
 have xcb := (K1.cell (1 + b)).trans xb
 simp only [List.getElem?_cons_succ, List.getElem?_cons_zero] at y0 y1 y2 y3 co0 co1
 replace K1 := Lib.hid K1
 replace K3 := Lib.hid K3
 replace K4 := Lib.hid K4
 have HK := Lib.hid hk
 clear hk
 clear hX m xa xb K2
 go_enter Tryz.func64, Tryz.ntmps64
 have hXO : X ≠ w.heap.size + 1 := by omega
 have n1 := HM.out.own.ne K1.out (by decide)
 have n2 := HM.out.bytes.ne K1.out (by decide)
 have n3 := HM.out.zones.ne K1.out (by decide)
 have n4 := HM.out.bytes.ne K3.out (by decide)
 go_wp2_with fail
 refine (load_n HM.out o K1.out imm a b ha hb HK.out).mono ?_; rintro e w2 ⟨rfl, r2⟩
 have M2 : MemAt w2 p g h B T := HM.out.below r2
 have M2 := Lib.hid M2
 have X2 : HasB w2 X 35 d.cs := K1.out.below r2
 have X2 := Lib.hid X2
 have k3 : HasB w2 (w.heap.size + 1) 103 [.int .i64 0, .int .i64 0] := K3.out.below r2
 have c4 : Chg g X w w2 := (Chg.of K4.out).trans (Chg.of r2)
 have C4 := Lib.hid c4
 clear c4
 have co0' := k3.cell 0
 have co1' := k3.cell 1
 have fo0' := k3.frozen 0
 have fo1' := k3.frozen 1
 simp only [List.getElem?_cons_succ, List.getElem?_cons_zero] at co0' co1'
 have K32 := Lib.hid k3
 clear k3
 go_wp2_with fail
 refine bodyPost_ret (v := .agg #[.int .i64 3, .int .i64 0]) (by simp [results, Tryz.results64, go_sem, co0', co1']) rfl ⟨rfl, ?_⟩
 obtain ⟨q1, q2, q3⟩ := ob_end2 (wh := .int .i64 3) (ga := .int .i64 0) M2.out X2.out K32.out C4.out hl
 exact ⟨q1, (by rintro (h | h) <;> cases h), q3⟩
set_option maxRecDepth 100000 in
set_option maxHeartbeats 4000000 in
theorem obey_16y {w : World} {X p g h : Nat} {B : List Int} {T : List Bool} {d : Cp} (m : MemAt w p g h B T) (o : d.Ok) (hX : HasB w X 35 d.cs) (imm : Int) (a b : Nat) (ha : a < 8) (hb : b < 8) (hi : U32 imm) (hk : wholeB T (d.reg a) 4 = true) :
  Calls Tryz.prog 64 #[.pointer (some ⟨X, 0, none⟩), .agg #[.int .i64 16, .int .i64 a, .int .i64 b, .int .u32 imm], .pointer (some ⟨p, 0, none⟩)] w (ObP w p g h X T ⟨d, splice B (d.reg a).toNat (b4 (d.reg b)), 0, 0⟩) := by
 have xa := Cp.cs_reg o a ha
 have xb := Cp.cs_reg o b hb
 obtain ⟨a0, a1⟩ := o.reg a (by omega) (by omega)
 obtain ⟨b0, b1⟩ := o.reg b (by omega) (by omega)
 obtain ⟨pc0, pc1⟩ := o.pc
 have hl := hX.lt
 have A0 : (0 : Int) ≤ (a : Int) := by omega
 have A1 : (a : Int) < 8 := by omega
 have B0 : (0 : Int) ≤ (b : Int) := by omega
 have B1 : (b : Int) < 8 := by omega
 obtain ⟨i0, i1⟩ := hi
 obtain ⟨W1, e1, K1, K2, K3, K4⟩ := boxed hX 16 a b imm 0
 have HM := Lib.hid (m.below K4)
 replace e1 : (w.alloc (.cells #[.int .i64 16, .int .i64 a, .int .i64 b, .int .u32 imm] 100)).alloc (.cells #[.int .i64 0, .int .i64 0] 103) = W1 := e1
 have y0 := K2.cell 0
 have y1 := K2.cell 1
 have y2 := K2.cell 2
 have y3 := K2.cell 3
 have fo0 := K3.frozen 0
 have fo1 := K3.frozen 1
 have co0 := K3.cell 0
 have co1 := K3.cell 1
 have fx0 := K1.frozen 0
 have fxa := K1.frozen (1 + a)
 have xpc := (K1.cell 0).trans Cp.cs_pc
 have xca := (K1.cell (1 + a)).trans xa
 have xcb := (K1.cell (1 + b)).trans xb
 simp only [List.getElem?_cons_succ, List.getElem?_cons_zero] at y0 y1 y2 y3 co0 co1
 replace K1 := Lib.hid K1
 replace K3 := Lib.hid K3
 replace K4 := Lib.hid K4
 have HK := Lib.hid hk
 clear hk
 clear hX m xa xb K2
 go_enter Tryz.func64, Tryz.ntmps64
 have hXO : X ≠ w.heap.size + 1 := by omega
 have n1 := HM.out.own.ne K1.out (by decide)
 have n2 := HM.out.bytes.ne K1.out (by decide)
 have n3 := HM.out.zones.ne K1.out (by decide)
 have n4 := HM.out.bytes.ne K3.out (by decide)
 go_wp2_with fail
 refine (store_y HM.out o K1.out imm a b ha hb HK.out).mono ?_; rintro e w2 ⟨rfl, r1, r2⟩
 have M2 : MemAt w2 p g h (splice B (d.reg a).toNat (b4 (d.reg b))) T := r1
 have M2 := Lib.hid M2
 have X2 : HasB w2 X 35 d.cs := K1.out.chg r2 n2.symm n2.symm
 have X2 := Lib.hid X2
 have k3 : HasB w2 (w.heap.size + 1) 103 [.int .i64 0, .int .i64 0] := K3.out.chg r2 n4.symm n4.symm
 have c4 : Chg g X w w2 := (Chg.of K4.out).trans (Chg.l r2)
 have C4 := Lib.hid c4
 clear c4
 have co0' := k3.cell 0
 have co1' := k3.cell 1
 have fo0' := k3.frozen 0
 have fo1' := k3.frozen 1
 simp only [List.getElem?_cons_succ, List.getElem?_cons_zero] at co0' co1'
 have K32 := Lib.hid k3
 clear k3
 go_wp2_with fail
 refine bodyPost_ret (v := .agg #[.int .i64 0, .int .i64 0]) (by simp [results, Tryz.results64, go_sem, co0', co1']) rfl ⟨rfl, ?_⟩
 obtain ⟨q1, q2, q3⟩ := ob_end2 (wh := .int .i64 0) (ga := .int .i64 0) M2.out X2.out K32.out C4.out hl
 exact ⟨q1, fun _ => q2, q3⟩
set_option maxRecDepth 100000 in
set_option maxHeartbeats 4000000 in
theorem obey_16n {w : World} {X p g h : Nat} {B : List Int} {T : List Bool} {d : Cp} (m : MemAt w p g h B T) (o : d.Ok) (hX : HasB w X 35 d.cs) (imm : Int) (a b : Nat) (ha : a < 8) (hb : b < 8) (hi : U32 imm) (c : Cp) (hk : wholeB T (d.reg a) 4 = false) :
  Calls Tryz.prog 64 #[.pointer (some ⟨X, 0, none⟩), .agg #[.int .i64 16, .int .i64 a, .int .i64 b, .int .u32 imm], .pointer (some ⟨p, 0, none⟩)] w (ObP w p g h X T ⟨c, B, 3, 0⟩) := by
 have xa := Cp.cs_reg o a ha
 have xb := Cp.cs_reg o b hb
 obtain ⟨a0, a1⟩ := o.reg a (by omega) (by omega)
 obtain ⟨b0, b1⟩ := o.reg b (by omega) (by omega)
 obtain ⟨pc0, pc1⟩ := o.pc
 have hl := hX.lt
 have A0 : (0 : Int) ≤ (a : Int) := by omega
 have A1 : (a : Int) < 8 := by omega
 have B0 : (0 : Int) ≤ (b : Int) := by omega
 have B1 : (b : Int) < 8 := by omega
 obtain ⟨i0, i1⟩ := hi
 obtain ⟨W1, e1, K1, K2, K3, K4⟩ := boxed hX 16 a b imm 0
 have HM := Lib.hid (m.below K4)
 replace e1 : (w.alloc (.cells #[.int .i64 16, .int .i64 a, .int .i64 b, .int .u32 imm] 100)).alloc (.cells #[.int .i64 0, .int .i64 0] 103) = W1 := e1
 have y0 := K2.cell 0
 have y1 := K2.cell 1
 have y2 := K2.cell 2
 have y3 := K2.cell 3
 have fo0 := K3.frozen 0
 have fo1 := K3.frozen 1
 have co0 := K3.cell 0
 have co1 := K3.cell 1
 have fx0 := K1.frozen 0
 have fxa := K1.frozen (1 + a)
 have xpc := (K1.cell 0).trans Cp.cs_pc
 have xca := (K1.cell (1 + a)).trans xa
 have xcb := (K1.cell (1 + b)).trans xb
 simp only [List.getElem?_cons_succ, List.getElem?_cons_zero] at y0 y1 y2 y3 co0 co1
 replace K1 := Lib.hid K1
 replace K3 := Lib.hid K3
 replace K4 := Lib.hid K4
 have HK := Lib.hid hk
 clear hk
 clear hX m xa xb K2
 go_enter Tryz.func64, Tryz.ntmps64
 have hXO : X ≠ w.heap.size + 1 := by omega
 have n1 := HM.out.own.ne K1.out (by decide)
 have n2 := HM.out.bytes.ne K1.out (by decide)
 have n3 := HM.out.zones.ne K1.out (by decide)
 have n4 := HM.out.bytes.ne K3.out (by decide)
 go_wp2_with fail
 refine (store_n HM.out o K1.out imm a b ha hb HK.out).mono ?_; rintro e w2 ⟨rfl, r2⟩
 have M2 : MemAt w2 p g h B T := HM.out.below r2
 have M2 := Lib.hid M2
 have X2 : HasB w2 X 35 d.cs := K1.out.below r2
 have X2 := Lib.hid X2
 have k3 : HasB w2 (w.heap.size + 1) 103 [.int .i64 0, .int .i64 0] := K3.out.below r2
 have c4 : Chg g X w w2 := (Chg.of K4.out).trans (Chg.of r2)
 have C4 := Lib.hid c4
 clear c4
 have co0' := k3.cell 0
 have co1' := k3.cell 1
 have fo0' := k3.frozen 0
 have fo1' := k3.frozen 1
 simp only [List.getElem?_cons_succ, List.getElem?_cons_zero] at co0' co1'
 have K32 := Lib.hid k3
 clear k3
 go_wp2_with fail
 refine bodyPost_ret (v := .agg #[.int .i64 3, .int .i64 0]) (by simp [results, Tryz.results64, go_sem, co0', co1']) rfl ⟨rfl, ?_⟩
 obtain ⟨q1, q2, q3⟩ := ob_end2 (wh := .int .i64 3) (ga := .int .i64 0) M2.out X2.out K32.out C4.out hl
 exact ⟨q1, (by rintro (h | h) <;> cases h), q3⟩
set_option maxRecDepth 100000 in
set_option maxHeartbeats 4000000 in
theorem obey_yes {w : World} {X p g h : Nat} {B : List Int} {T : List Bool} {d : Cp} (m : MemAt w p g h B T) (o : d.Ok) (hX : HasB w X 35 d.cs) (imm : Int) (a b : Nat) (ha : a < 8) (hb : b < 8) (hi : U32 imm) (op : Int) (ho : 3 ≤ op ∧ op ≤ 14) (hk : doK op (d.reg b) = true) :
  Calls Tryz.prog 64 #[.pointer (some ⟨X, 0, none⟩), .agg #[.int .i64 op, .int .i64 a, .int .i64 b, .int .u32 imm], .pointer (some ⟨p, 0, none⟩)] w (ObP w p g h X T ⟨d.setR a (doV op (d.reg a) (d.reg b)), B, 0, 0⟩) := by
 have xa := Cp.cs_reg o a ha
 have xb := Cp.cs_reg o b hb
 obtain ⟨a0, a1⟩ := o.reg a (by omega) (by omega)
 obtain ⟨b0, b1⟩ := o.reg b (by omega) (by omega)
 obtain ⟨pc0, pc1⟩ := o.pc
 have hl := hX.lt
 have A0 : (0 : Int) ≤ (a : Int) := by omega
 have A1 : (a : Int) < 8 := by omega
 have B0 : (0 : Int) ≤ (b : Int) := by omega
 have B1 : (b : Int) < 8 := by omega
 obtain ⟨i0, i1⟩ := hi
 obtain ⟨W1, e1, K1, K2, K3, K4⟩ := boxed hX op a b imm 0
 have HM := Lib.hid (m.below K4)
 replace e1 : (w.alloc (.cells #[.int .i64 op, .int .i64 a, .int .i64 b, .int .u32 imm] 100)).alloc (.cells #[.int .i64 0, .int .i64 0] 103) = W1 := e1
 have y0 := K2.cell 0
 have y1 := K2.cell 1
 have y2 := K2.cell 2
 have y3 := K2.cell 3
 have fo0 := K3.frozen 0
 have fo1 := K3.frozen 1
 have co0 := K3.cell 0
 have co1 := K3.cell 1
 have fx0 := K1.frozen 0
 have fxa := K1.frozen (1 + a)
 have xpc := (K1.cell 0).trans Cp.cs_pc
 have xca := (K1.cell (1 + a)).trans xa
 have xcb := (K1.cell (1 + b)).trans xb
 simp only [List.getElem?_cons_succ, List.getElem?_cons_zero] at y0 y1 y2 y3 co0 co1
 replace K1 := Lib.hid K1
 replace K3 := Lib.hid K3
 replace K4 := Lib.hid K4
 have HK := Lib.hid hk
 have f0 : (op == 0) = false := by rw [beq_eq_false_iff_ne]; omega
 have f22 : (op == 22) = false := by rw [beq_eq_false_iff_ne]; omega
 have f15 : (op == 15) = false := by rw [beq_eq_false_iff_ne]; omega
 have f16 : (op == 16) = false := by rw [beq_eq_false_iff_ne]; omega
 have f23 : (op == 23) = false := by rw [beq_eq_false_iff_ne]; omega
 have f1 : (op == 1) = false := by rw [beq_eq_false_iff_ne]; omega
 have f2 : (op == 2) = false := by rw [beq_eq_false_iff_ne]; omega
 have f17 : (op == 17) = false := by rw [beq_eq_false_iff_ne]; omega
 have f18 : (op == 18) = false := by rw [beq_eq_false_iff_ne]; omega
 have f19 : (op == 19) = false := by rw [beq_eq_false_iff_ne]; omega
 have f20 : (op == 20) = false := by rw [beq_eq_false_iff_ne]; omega
 have f21 : (op == 21) = false := by rw [beq_eq_false_iff_ne]; omega
 clear hk
 clear hX m xa xb K2
 go_enter Tryz.func64, Tryz.ntmps64
 have hXO : X ≠ w.heap.size + 1 := by omega
 have n1 := HM.out.own.ne K1.out (by decide)
 have n2 := HM.out.bytes.ne K1.out (by decide)
 have n3 := HM.out.zones.ne K1.out (by decide)
 have n4 := HM.out.bytes.ne K3.out (by decide)
 go_wp2_with fail
 refine (reckon_y o K1.out op imm a b ha hb ho HK.out).mono ?_; rintro e w2 ⟨rfl, r1, r2⟩
 have M2 : MemAt w2 p g h B T := HM.out.chg r2 n1 n1 n2 n2 n3 n3
 have M2 := Lib.hid M2
 have X2 : HasB w2 X 35 (d.setR a (doV op (d.reg a) (d.reg b))).cs := r1
 have X2 := Lib.hid X2
 have k3 : HasB w2 (w.heap.size + 1) 103 [.int .i64 0, .int .i64 0] := K3.out.chg r2 hXO.symm hXO.symm
 have c4 : Chg g X w w2 := (Chg.of K4.out).trans (Chg.r r2)
 have C4 := Lib.hid c4
 clear c4
 have co0' := k3.cell 0
 have co1' := k3.cell 1
 have fo0' := k3.frozen 0
 have fo1' := k3.frozen 1
 simp only [List.getElem?_cons_succ, List.getElem?_cons_zero] at co0' co1'
 have K32 := Lib.hid k3
 clear k3
 go_wp2_with fail
 refine bodyPost_ret (v := .agg #[.int .i64 0, .int .i64 0]) (by simp [results, Tryz.results64, go_sem, co0', co1']) rfl ⟨rfl, ?_⟩
 obtain ⟨q1, q2, q3⟩ := ob_end2 (wh := .int .i64 0) (ga := .int .i64 0) M2.out X2.out K32.out C4.out hl
 exact ⟨q1, fun _ => q2, q3⟩
set_option maxRecDepth 100000 in
set_option maxHeartbeats 4000000 in
theorem obey_not {w : World} {X p g h : Nat} {B : List Int} {T : List Bool} {d : Cp} (m : MemAt w p g h B T) (o : d.Ok) (hX : HasB w X 35 d.cs) (imm : Int) (a b : Nat) (ha : a < 8) (hb : b < 8) (hi : U32 imm) (c : Cp) (op : Int) (ho : 3 ≤ op ∧ op ≤ 14) (hk : doK op (d.reg b) = false) :
  Calls Tryz.prog 64 #[.pointer (some ⟨X, 0, none⟩), .agg #[.int .i64 op, .int .i64 a, .int .i64 b, .int .u32 imm], .pointer (some ⟨p, 0, none⟩)] w (ObP w p g h X T ⟨c, B, 4, 0⟩) := by
 have xa := Cp.cs_reg o a ha
 have xb := Cp.cs_reg o b hb
 obtain ⟨a0, a1⟩ := o.reg a (by omega) (by omega)
 obtain ⟨b0, b1⟩ := o.reg b (by omega) (by omega)
 obtain ⟨pc0, pc1⟩ := o.pc
 have hl := hX.lt
 have A0 : (0 : Int) ≤ (a : Int) := by omega
 have A1 : (a : Int) < 8 := by omega
 have B0 : (0 : Int) ≤ (b : Int) := by omega
 have B1 : (b : Int) < 8 := by omega
 obtain ⟨i0, i1⟩ := hi
 obtain ⟨W1, e1, K1, K2, K3, K4⟩ := boxed hX op a b imm 0
 have HM := Lib.hid (m.below K4)
 replace e1 : (w.alloc (.cells #[.int .i64 op, .int .i64 a, .int .i64 b, .int .u32 imm] 100)).alloc (.cells #[.int .i64 0, .int .i64 0] 103) = W1 := e1
 have y0 := K2.cell 0
 have y1 := K2.cell 1
 have y2 := K2.cell 2
 have y3 := K2.cell 3
 have fo0 := K3.frozen 0
 have fo1 := K3.frozen 1
 have co0 := K3.cell 0
 have co1 := K3.cell 1
 have fx0 := K1.frozen 0
 have fxa := K1.frozen (1 + a)
 have xpc := (K1.cell 0).trans Cp.cs_pc
 have xca := (K1.cell (1 + a)).trans xa
 have xcb := (K1.cell (1 + b)).trans xb
 simp only [List.getElem?_cons_succ, List.getElem?_cons_zero] at y0 y1 y2 y3 co0 co1
 replace K1 := Lib.hid K1
 replace K3 := Lib.hid K3
 replace K4 := Lib.hid K4
 have HK := Lib.hid hk
 have f0 : (op == 0) = false := by rw [beq_eq_false_iff_ne]; omega
 have f22 : (op == 22) = false := by rw [beq_eq_false_iff_ne]; omega
 have f15 : (op == 15) = false := by rw [beq_eq_false_iff_ne]; omega
 have f16 : (op == 16) = false := by rw [beq_eq_false_iff_ne]; omega
 have f23 : (op == 23) = false := by rw [beq_eq_false_iff_ne]; omega
 have f1 : (op == 1) = false := by rw [beq_eq_false_iff_ne]; omega
 have f2 : (op == 2) = false := by rw [beq_eq_false_iff_ne]; omega
 have f17 : (op == 17) = false := by rw [beq_eq_false_iff_ne]; omega
 have f18 : (op == 18) = false := by rw [beq_eq_false_iff_ne]; omega
 have f19 : (op == 19) = false := by rw [beq_eq_false_iff_ne]; omega
 have f20 : (op == 20) = false := by rw [beq_eq_false_iff_ne]; omega
 have f21 : (op == 21) = false := by rw [beq_eq_false_iff_ne]; omega
 clear hk
 clear hX m xa xb K2
 go_enter Tryz.func64, Tryz.ntmps64
 have hXO : X ≠ w.heap.size + 1 := by omega
 have n1 := HM.out.own.ne K1.out (by decide)
 have n2 := HM.out.bytes.ne K1.out (by decide)
 have n3 := HM.out.zones.ne K1.out (by decide)
 have n4 := HM.out.bytes.ne K3.out (by decide)
 go_wp2_with fail
 refine (reckon_n o K1.out op imm a b ha hb ho HK.out).mono ?_; rintro e w2 ⟨rfl, r2⟩
 have M2 : MemAt w2 p g h B T := HM.out.below r2
 have M2 := Lib.hid M2
 have X2 : HasB w2 X 35 d.cs := K1.out.below r2
 have X2 := Lib.hid X2
 have k3 : HasB w2 (w.heap.size + 1) 103 [.int .i64 0, .int .i64 0] := K3.out.below r2
 have c4 : Chg g X w w2 := (Chg.of K4.out).trans (Chg.of r2)
 have C4 := Lib.hid c4
 clear c4
 have co0' := k3.cell 0
 have co1' := k3.cell 1
 have fo0' := k3.frozen 0
 have fo1' := k3.frozen 1
 simp only [List.getElem?_cons_succ, List.getElem?_cons_zero] at co0' co1'
 have K32 := Lib.hid k3
 clear k3
 go_wp2_with fail
 refine bodyPost_ret (v := .agg #[.int .i64 4, .int .i64 0]) (by simp [results, Tryz.results64, go_sem, co0', co1']) rfl ⟨rfl, ?_⟩
 obtain ⟨q1, q2, q3⟩ := ob_end2 (wh := .int .i64 4) (ga := .int .i64 0) M2.out X2.out K32.out C4.out hl
 exact ⟨q1, (by rintro (h | h) <;> cases h), q3⟩
theorem has11 {w : World} {g : Nat} {t : TypeId} {v0 v1 v2 v3 v4 v5 v6 v7 v8 v9 v10 : Value} (k : HasB w g t [v0, v1, v2, v3, v4, v5, v6, v7, v8, v9, v10]) :
  (w.cell? ⟨g, 0, none⟩ = some v0 ∧ w.cell? ⟨g, 1, none⟩ = some v1 ∧ w.cell? ⟨g, 2, none⟩ = some v2 ∧ w.cell? ⟨g, 3, none⟩ = some v3 ∧ w.cell? ⟨g, 4, none⟩ = some v4 ∧ w.cell? ⟨g, 5, none⟩ = some v5 ∧ w.cell? ⟨g, 6, none⟩ = some v6 ∧ w.cell? ⟨g, 7, none⟩ = some v7 ∧ w.cell? ⟨g, 8, none⟩ = some v8 ∧ w.cell? ⟨g, 9, none⟩ = some v9 ∧ w.cell? ⟨g, 10, none⟩ = some v10) ∧
  (w.frozen? ⟨g, 0, none⟩ = false ∧ w.frozen? ⟨g, 1, none⟩ = false ∧ w.frozen? ⟨g, 2, none⟩ = false ∧ w.frozen? ⟨g, 3, none⟩ = false ∧ w.frozen? ⟨g, 4, none⟩ = false ∧ w.frozen? ⟨g, 5, none⟩ = false ∧ w.frozen? ⟨g, 6, none⟩ = false ∧ w.frozen? ⟨g, 7, none⟩ = false ∧ w.frozen? ⟨g, 8, none⟩ = false ∧ w.frozen? ⟨g, 9, none⟩ = false ∧ w.frozen? ⟨g, 10, none⟩ = false) :=
 ⟨⟨k.cell 0, k.cell 1, k.cell 2, k.cell 3, k.cell 4, k.cell 5, k.cell 6, k.cell 7, k.cell 8, k.cell 9, k.cell 10⟩, ⟨k.frozen 0, k.frozen 1, k.frozen 2, k.frozen 3, k.frozen 4, k.frozen 5, k.frozen 6, k.frozen 7, k.frozen 8, k.frozen 9, k.frozen 10⟩⟩
theorem has2 {w : World} {g : Nat} {t : TypeId} {v0 v1 : Value} (k : HasB w g t [v0, v1]) : (w.cell? ⟨g, 0, none⟩ = some v0 ∧ w.cell? ⟨g, 1, none⟩ = some v1) ∧ (w.frozen? ⟨g, 0, none⟩ = false ∧ w.frozen? ⟨g, 1, none⟩ = false) :=
 ⟨⟨k.cell 0, k.cell 1⟩, ⟨k.frozen 0, k.frozen 1⟩⟩
structure DoS (w : World) (p g h : Nat) (B : List Int) (T : List Bool) (pc r0 r1 r2 r3 r4 r5 r6 r7 b s : Int) (W : World) : Prop where
 m : MemAt W p g h B T
 c : HasB W w.heap.size 35 [.int .u32 pc, .int .u32 r0, .int .u32 r1, .int .u32 r2, .int .u32 r3, .int .u32 r4, .int .u32 r5, .int .u32 r6, .int .u32 r7, .int .u32 b, .int .u32 s]
 d : HasB W (w.heap.size + 1) 35 [.int .u32 0, .int .u32 0, .int .u32 0, .int .u32 0, .int .u32 0, .int .u32 0, .int .u32 0, .int .u32 0, .int .u32 0, .int .u32 0, .int .u32 0]
 o : HasB W (w.heap.size + 1 + 1) 103 [.int .i64 0, .int .i64 0]
 bel : Below w.heap.size w W
theorem DoS.below {w W W' : World} {p g h : Nat} {B : List Int} {T : List Bool} {pc r0 r1 r2 r3 r4 r5 r6 r7 b s : Int} (k : DoS w p g h B T pc r0 r1 r2 r3 r4 r5 r6 r7 b s W) (hb : Below W.heap.size W W') : DoS w p g h B T pc r0 r1 r2 r3 r4 r5 r6 r7 b s W' :=
 ⟨k.m.below hb, k.c.below hb, k.d.below hb, k.o.below hb, bel_then k.bel hb⟩
theorem DoS.new {w : World} {p g h : Nat} {B : List Int} {T : List Bool} (m : MemAt w p g h B T) (pc r0 r1 r2 r3 r4 r5 r6 r7 b s : Int) :
  ∃ W, ((w.alloc (.cells #[.int .u32 pc, .int .u32 r0, .int .u32 r1, .int .u32 r2, .int .u32 r3, .int .u32 r4, .int .u32 r5, .int .u32 r6, .int .u32 r7, .int .u32 b, .int .u32 s] 35)).alloc (.cells #[.int .u32 0, .int .u32 0, .int .u32 0, .int .u32 0, .int .u32 0, .int .u32 0, .int .u32 0, .int .u32 0, .int .u32 0, .int .u32 0, .int .u32 0] 35)).alloc (.cells #[.int .i64 0, .int .i64 0] 103) = W ∧ DoS w p g h B T pc r0 r1 r2 r3 r4 r5 r6 r7 b s W := by
 refine ⟨_, rfl, m.below (bel_al (bel_al (bel_al (Below.refl _ _) _) _) _), ?_, ?_, ?_, bel_al (bel_al (bel_al (Below.refl _ _) _) _) _⟩
 · exact (((HasB.newAt w _ _ _ rfl).al _).al _)
 · exact ((HasB.newAt _ _ _ _ (by simp)).al _)
 · exact HasB.newAt _ _ _ _ (by simp)
theorem DoS.ins {w W : World} {p g h I : Nat} {B : List Int} {T : List Bool} {pc r0 r1 r2 r3 r4 r5 r6 r7 b s : Int} {cs : List Value} (k : DoS w p g h B T pc r0 r1 r2 r3 r4 r5 r6 r7 b s W) (hI : HasB W I 100 cs) (hgt : w.heap.size + 1 + 1 < I) (v0 v1 v2 v3 : Value) :
  DoS w p g h B T pc r0 r1 r2 r3 r4 r5 r6 r7 b s ((((W.setCell ⟨I, 0, none⟩ v0).setCell ⟨I, 1, none⟩ v1).setCell ⟨I, 2, none⟩ v2).setCell ⟨I, 3, none⟩ v3) := by
 have c : Chg I I W ((((W.setCell ⟨I, 0, none⟩ v0).setCell ⟨I, 1, none⟩ v1).setCell ⟨I, 2, none⟩ v2).setCell ⟨I, 3, none⟩ v3) := chg_set (chg_set (chg_set (chg_set (Chg.refl _ _ _) _ (.inl rfl) _ _) _ (.inl rfl) _ _) _ (.inl rfl) _ _) _ (.inl rfl) _ _
 have a1 := k.m.own.ne hI (by decide)
 have a2 := k.m.bytes.ne hI (by decide)
 have a3 := k.m.zones.ne hI (by decide)
 exact ⟨k.m.chg c a1 a1 a2 a2 a3 a3, k.c.chg c (by omega) (by omega), k.d.chg c (by omega) (by omega), k.o.chg c (by omega) (by omega), c.below k.bel k.bel.size (by omega) (by omega)⟩
theorem st13 {w W : World} {p g h : Nat} {B : List Int} {T : List Bool} {ds os : List Value} (m : MemAt W p g h B T) (d : HasB W (w.heap.size + 1) 35 ds) (o : HasB W (w.heap.size + 1 + 1) 103 os) (c : Chg g g w W) (v0 v1 v2 v3 v4 v5 v6 v7 v8 v9 v10 u0 u1 : Value) :
  let w' := (((((((((((((W.setCell ⟨w.heap.size + 1, 0, none⟩ v0).setCell ⟨w.heap.size + 1, 1, none⟩ v1).setCell ⟨w.heap.size + 1, 2, none⟩ v2).setCell ⟨w.heap.size + 1, 3, none⟩ v3).setCell ⟨w.heap.size + 1, 4, none⟩ v4).setCell ⟨w.heap.size + 1, 5, none⟩ v5).setCell ⟨w.heap.size + 1, 6, none⟩ v6).setCell ⟨w.heap.size + 1, 7, none⟩ v7).setCell ⟨w.heap.size + 1, 8, none⟩ v8).setCell ⟨w.heap.size + 1, 9, none⟩ v9).setCell ⟨w.heap.size + 1, 10, none⟩ v10).setCell ⟨w.heap.size + 1 + 1, 0, none⟩ u0).setCell ⟨w.heap.size + 1 + 1, 1, none⟩ u1)
  MemAt w' p g h B T ∧ Chg g g w w' := by
 intro w'
 have c1 : Chg (w.heap.size + 1) (w.heap.size + 1 + 1) W w' := chg_set (chg_set (chg_set (chg_set (chg_set (chg_set (chg_set (chg_set (chg_set (chg_set (chg_set (chg_set (chg_set (Chg.refl _ _ _) _ (.inl rfl) _ _) _ (.inl rfl) _ _) _ (.inl rfl) _ _) _ (.inl rfl) _ _) _ (.inl rfl) _ _) _ (.inl rfl) _ _) _ (.inl rfl) _ _) _ (.inl rfl) _ _) _ (.inl rfl) _ _) _ (.inl rfl) _ _) _ (.inl rfl) _ _) _ (.inr rfl) _ _) _ (.inr rfl) _ _
 exact ⟨m.chg c1 (m.own.ne d (by decide)) (m.own.ne o (by decide)) (m.bytes.ne d (by decide)) (m.bytes.ne o (by decide)) (m.zones.ne d (by decide)) (m.zones.ne o (by decide)), chg_new (chg_new (chg_new (chg_new (chg_new (chg_new (chg_new (chg_new (chg_new (chg_new (chg_new (chg_new (chg_new (c) _ (by omega) _ _) _ (by omega) _ _) _ (by omega) _ _) _ (by omega) _ _) _ (by omega) _ _) _ (by omega) _ _) _ (by omega) _ _) _ (by omega) _ _) _ (by omega) _ _) _ (by omega) _ _) _ (by omega) _ _) _ (by omega) _ _) _ (by omega) _ _⟩
def DoP (w : World) (p g h : Nat) (T : List Bool) (o : Ou) (e : Ending) (w' : World) : Prop :=
 e = .returned (.tuple #[o.c.val, .agg #[.int .i64 o.what, .int .i64 o.gate]]) ∧ MemAt w' p g h o.B T ∧ Chg g g w w'
set_option maxRecDepth 100000 in
set_option maxHeartbeats 4000000 in
theorem do_empty {w : World} {p g h : Nat} {B : List Int} {T : List Bool} (m : MemAt w p g h B T) (pc r0 r1 r2 r3 r4 r5 r6 r7 b s : Int) (h0 : 0 ≤ pc) (h1 : pc < 4294967296) (hc : codeL B T pc = []) :
  Calls Tryz.prog 44 #[.agg #[.int .u32 pc, .int .u32 r0, .int .u32 r1, .int .u32 r2, .int .u32 r3, .int .u32 r4, .int .u32 r5, .int .u32 r6, .int .u32 r7, .int .u32 b, .int .u32 s], .pointer (some ⟨p, 0, none⟩)] w (DoP w p g h T ⟨⟨pc, [r0, r1, r2, r3, r4, r5, r6, r7], b, s⟩, B, 3, 0⟩) := by
 obtain ⟨W, e1, k⟩ := DoS.new m pc r0 r1 r2 r3 r4 r5 r6 r7 b s
 have K := Lib.hid k
 have y0 := k.c.cell 0
 simp only [List.getElem?_cons_zero] at y0
 have HC := Lib.hid hc
 clear k m hc
 go_enter Tryz.func44, Tryz.ntmps44
 go_wp2_with fail
 refine (fetch_any K.out.m pc h0 h1).mono ?_; rintro e w1 ⟨A, cap, rfl, hr, hb⟩
 rw [HC.out]
 clear y0 e1 hr
 have K1 := Lib.hid (K.out.below hb)
 clear hb K
 obtain ⟨⟨c0, c1, c2, c3, c4, c5, c6, c7, c8, c9, c10⟩, _⟩ := has11 K1.out.c
 obtain ⟨⟨d0, d1, d2, d3, d4, d5, d6, d7, d8, d9, d10⟩, ⟨f0, f1, f2, f3, f4, f5, f6, f7, f8, f9, f10⟩⟩ := has11 K1.out.d
 obtain ⟨⟨o0, o1⟩, ⟨q0, q1⟩⟩ := has2 K1.out.o
 go_wp2_with fail
 refine bodyPost_ret (v := .tuple #[.agg #[.int .u32 pc, .int .u32 r0, .int .u32 r1, .int .u32 r2, .int .u32 r3, .int .u32 r4, .int .u32 r5, .int .u32 r6, .int .u32 r7, .int .u32 b, .int .u32 s], .agg #[.int .i64 3, .int .i64 0]]) (by simp [results, Tryz.results44, go_sem, d0, d1, d2, d3, d4, d5, d6, d7, d8, d9, d10, o0, o1]) rfl ⟨rfl, ?_⟩
 exact st13 K1.out.m K1.out.d K1.out.o (Chg.of K1.out.bel) _ _ _ _ _ _ _ _ _ _ _ _ _
set_option maxRecDepth 100000 in
set_option maxHeartbeats 4000000 in
theorem do_broken {w : World} {p g h : Nat} {B : List Int} {T : List Bool} (m : MemAt w p g h B T) (pc r0 r1 r2 r3 r4 r5 r6 r7 b s : Int) (h0 : 0 ≤ pc) (h1 : pc < 4294967296) (hc : codeL B T pc ≠ []) (hn : rdB (codeL B T pc) = false) :
  Calls Tryz.prog 44 #[.agg #[.int .u32 pc, .int .u32 r0, .int .u32 r1, .int .u32 r2, .int .u32 r3, .int .u32 r4, .int .u32 r5, .int .u32 r6, .int .u32 r7, .int .u32 b, .int .u32 s], .pointer (some ⟨p, 0, none⟩)] w (DoP w p g h T ⟨⟨pc, [r0, r1, r2, r3, r4, r5, r6, r7], b, s⟩, B, 5, 0⟩) := by
 obtain ⟨W, e1, k⟩ := DoS.new m pc r0 r1 r2 r3 r4 r5 r6 r7 b s
 have K := Lib.hid k
 have y0 := k.c.cell 0
 simp only [List.getElem?_cons_zero] at y0
 have hl : (codeL B T pc).length ≤ 6 := codeL_le B T pc
 have hl0 : 0 < (codeL B T pc).length := List.length_pos_iff.2 hc
 obtain ⟨L, hL⟩ : ∃ L, codeL B T pc = L := ⟨_, rfl⟩
 have FE := fun (W : World) (m : MemAt W p g h B T) => fetch_any m pc h0 h1
 rw [hL] at FE hn hl hl0
 have HN := Lib.hid hn
 replace FE := Lib.hid FE
 obtain ⟨n, hLn⟩ : ∃ n, L.length = n := ⟨_, rfl⟩
 have HLn := Lib.hid hLn
 rw [hLn] at hl hl0
 have g0 : ((n : Int) == 0) = false := by rw [beq_eq_false_iff_ne]; omega
 clear k m hc hn hL hLn
 go_enter Tryz.func44, Tryz.ntmps44
 go_wp2_with fail
 refine (FE.out _ K.out.m).mono ?_; rintro e w1 ⟨A, cap, rfl, hr, hb⟩
 rw [HLn.out]
 clear y0 e1
 have K1 := Lib.hid (K.out.below hb)
 clear hb K
 have HR := Lib.hid hr
 clear hr
 go_wp2_with fail
 have RN := Read_no L A cap 0 (by rw [HLn.out]; omega) (.inr (.inr (by simpa using HN.out))) w1 HR.out
 rw [HLn.out] at RN
 refine RN.mono ?_; rintro e w2 ⟨rfl, hb⟩
 unfold insV
 clear RN
 have K2 := Lib.hid (K1.out.below hb)
 clear hb K1
 obtain ⟨W3, e3⟩ : ∃ W3, w2.alloc (.cells #[.int .i64 0, .int .i64 0, .int .i64 0, .int .u32 0] 100) = W3 := ⟨_, rfl⟩
 have hI : HasB W3 w2.heap.size 100 [.int .i64 0, .int .i64 0, .int .i64 0, .int .u32 0] := by rw [← e3]; exact HasB.newAt _ _ _ _ rfl
 have hb3 : Below w2.heap.size w2 W3 := by rw [← e3]; exact bel_al (Below.refl _ _) _
 have K3 := Lib.hid (K2.out.below hb3)
 have t0 := hI.cell 0
 have t1 := hI.cell 1
 have t2 := hI.cell 2
 have t3 := hI.cell 3
 have u0 := hI.frozen 0
 have u1 := hI.frozen 1
 have u2 := hI.frozen 2
 have u3 := hI.frozen 3
 simp only [List.getElem?_cons_succ, List.getElem?_cons_zero] at t0 t1 t2 t3
 have z0 := K2.out.o.lt
 have K4 := Lib.hid (DoS.ins K3.out hI z0 (.int .i64 0) (.int .i64 0) (.int .i64 0) (.int .u32 0))
 have n0 : ¬ w2.heap.size = w.heap.size := by omega
 have n1 : ¬ w2.heap.size = w.heap.size + 1 := by omega
 have n2 : ¬ w2.heap.size = w.heap.size + 1 + 1 := by omega
 have n3 : ¬ w.heap.size = w2.heap.size := by omega
 have n4 : ¬ w.heap.size + 1 = w2.heap.size := by omega
 have n5 : ¬ w.heap.size + 1 + 1 = w2.heap.size := by omega
 clear hI K2 hb3
 obtain ⟨⟨c0, c1, c2, c3, c4, c5, c6, c7, c8, c9, c10⟩, _⟩ := has11 K3.out.c
 obtain ⟨⟨d0, d1, d2, d3, d4, d5, d6, d7, d8, d9, d10⟩, ⟨f0, f1, f2, f3, f4, f5, f6, f7, f8, f9, f10⟩⟩ := has11 K3.out.d
 obtain ⟨⟨o0, o1⟩, ⟨q0, q1⟩⟩ := has2 K3.out.o
 go_wp2_with fail
 refine bodyPost_ret (v := .tuple #[.agg #[.int .u32 pc, .int .u32 r0, .int .u32 r1, .int .u32 r2, .int .u32 r3, .int .u32 r4, .int .u32 r5, .int .u32 r6, .int .u32 r7, .int .u32 b, .int .u32 s], .agg #[.int .i64 5, .int .i64 0]]) (by simp [results, Tryz.results44, go_sem, d0, d1, d2, d3, d4, d5, d6, d7, d8, d9, d10, o0, o1]) rfl ⟨rfl, ?_⟩
 exact st13 K4.out.m K4.out.d K4.out.o (Chg.of K4.out.bel) _ _ _ _ _ _ _ _ _ _ _ _ _
end Go.Proofs.YtbgnkljeodandaaGreat.Mm
