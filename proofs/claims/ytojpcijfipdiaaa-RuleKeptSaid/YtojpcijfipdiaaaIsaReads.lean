/- What Read of package isa answers: the instruction whose bytes begin there, and how many it has. -/
import Derived.Test.YtojpcijfipdiaaaIsaRead
import Derived.Deep.RegionWith
namespace Go.Proofs.Ytojpcijfipdiaaa
open Go.ChangeShapes Go.WideShapes Go.ChangeAt Go.RowKit
set_option linter.unusedVariables false

def noIns : Value := .tuple #[.agg #[.int .i64 0, .int .i64 0, .int .i64 0, .int .u32 0], .int .i64 0]

theorem Read_out (l : List Int) (A : Option Addr) (cap : Nat) (k : Int) (hl : l.length ≤ 20000) (h : k < 0 ∨ (l.length : Int) ≤ k) (w : World) :
    Calls Try.prog 31 #[.slice A l.length cap, .int .i64 k] w fun e w' => e = .returned noIns ∧ Below w.heap.size w w' := by
  by_cases hk : k < 0
  · go_enter Try.func31, Try.ntmps31
    go_wp2_with fail
    exact bodyPost_ret (v := noIns) (by simp [results, Try.results31, go_sem]; rfl) rfl ⟨rfl, bel_al (Below.refl _ _) _⟩
  · have hk0 : 0 ≤ k := by omega
    have hk1 : (l.length : Int) ≤ k := by omega
    go_enter Try.func31, Try.ntmps31
    go_wp2_with fail
    exact bodyPost_ret (v := noIns) (by simp [results, Try.results31, go_sem]; rfl) rfl ⟨rfl, bel_al (Below.refl _ _) _⟩

/-- a block of four cells that can be read and written -/
def Res (w : World) (g : Nat) (a b c d : Value) : Prop :=
  g < w.heap.size ∧ (w.cell? ⟨g, 0, none⟩ = some a ∧ w.cell? ⟨g, 1, none⟩ = some b ∧ w.cell? ⟨g, 2, none⟩ = some c ∧ w.cell? ⟨g, 3, none⟩ = some d) ∧
    (w.frozen? ⟨g, 0, none⟩ = false ∧ w.frozen? ⟨g, 1, none⟩ = false ∧ w.frozen? ⟨g, 2, none⟩ = false ∧ w.frozen? ⟨g, 3, none⟩ = false)
theorem Res.new (w : World) (a b c d : Value) (T : TypeId) : Res (w.alloc (.cells #[a, b, c, d] T)) w.heap.size a b c d := by
  refine ⟨by simp, ⟨by simp, by simp, by simp, by simp⟩, by simp, by simp, by simp, by simp⟩
theorem Res.below {w w' : World} {g : Nat} {a b c d : Value} (h : Res w g a b c d) (hb : Below w.heap.size w w') : Res w' g a b c d := by
  obtain ⟨h0, ⟨h1, h2, h3, h4⟩, f1, f2, f3, f4⟩ := h
  have e : ∀ j, w'.cell? ⟨g, j, none⟩ = w.cell? ⟨g, j, none⟩ := fun j => hb.cell (p := ⟨g, j, none⟩) h0
  have f : ∀ j, w'.frozen? ⟨g, j, none⟩ = w.frozen? ⟨g, j, none⟩ := fun j => hb.frozen (p := ⟨g, j, none⟩) h0
  exact ⟨Nat.lt_of_lt_of_le h0 hb.size, ⟨by rw [e, h1], by rw [e, h2], by rw [e, h3], by rw [e, h4]⟩, by rw [f, f1], by rw [f, f2], by rw [f, f3], by rw [f, f4]⟩
theorem Res.alloc {w : World} {g : Nat} {a b c d : Value} (h : Res w g a b c d) (o : Obj) : Res (w.alloc o) g a b c d := h.below (bel_al (Below.refl _ _) _)
theorem Res.drewN {w : World} {g : Nat} {a b c d : Value} (h : Res w g a b c d) (n : Nat) : Res (w.drewN n) g a b c d := h.below (below_drewN (Below.refl _ _) _)

theorem bel_set4 {w w' : World} (h : Below w.heap.size w w') (a b c d : Value) :
    Below w.heap.size w ((((w'.setCell ⟨w.heap.size, 0, none⟩ a).setCell ⟨w.heap.size, 1, none⟩ b).setCell ⟨w.heap.size, 2, none⟩ c).setCell ⟨w.heap.size, 3, none⟩ d) :=
  (((h.setCell (by simp) _).setCell (by simp) _).setCell (by simp) _).setCell (by simp) _

theorem below_drew1 {B : Nat} {w w' : World} (h : Below B w w') : Below B w w'.drew := ⟨h.os, h.tape, h.output, h.size, h.block⟩

theorem Res.set_same {w : World} {g : Nat} {a b c d : Value} (h : Res w g a b c d) (a' b' c' d' : Value) :
    Res ((((w.setCell ⟨g, 0, none⟩ a').setCell ⟨g, 1, none⟩ b').setCell ⟨g, 2, none⟩ c').setCell ⟨g, 3, none⟩ d') g a' b' c' d' := by
  obtain ⟨h0, ⟨h1, h2, h3, h4⟩, f1, f2, f3, f4⟩ := h
  refine ⟨by simpa using h0, ⟨by simp [go_sem, h1], by simp [go_sem, h2], by simp [go_sem, h3], by simp [go_sem, h4]⟩, by simpa using f1, by simpa using f2, by simpa using f3, by simpa using f4⟩
theorem Res.set_other {w : World} {g g' : Nat} {a b c d : Value} (h : Res w g a b c d) (hne : g < g') (a' b' c' d' : Value) :
    Res ((((w.setCell ⟨g', 0, none⟩ a').setCell ⟨g', 1, none⟩ b').setCell ⟨g', 2, none⟩ c').setCell ⟨g', 3, none⟩ d') g a b c d := by
  have hb : Below (g + 1) w ((((w.setCell ⟨g', 0, none⟩ a').setCell ⟨g', 1, none⟩ b').setCell ⟨g', 2, none⟩ c').setCell ⟨g', 3, none⟩ d') :=
    ((((Below.refl (g + 1) w).setCell (by simp; omega) _).setCell (by simp; omega) _).setCell (by simp; omega) _).setCell (by simp; omega) _
  obtain ⟨h0, ⟨h1, h2, h3, h4⟩, f1, f2, f3, f4⟩ := h
  have e : ∀ j, _ = w.cell? ⟨g, j, none⟩ := fun j => hb.cell (p := ⟨g, j, none⟩) (by simp)
  have f : ∀ j, _ = w.frozen? ⟨g, j, none⟩ := fun j => hb.frozen (p := ⟨g, j, none⟩) (by simp)
  exact ⟨Nat.lt_of_lt_of_le h0 hb.size, ⟨by rw [e, h1], by rw [e, h2], by rw [e, h3], by rw [e, h4]⟩, by rw [f, f1], by rw [f, f2], by rw [f, f3], by rw [f, f4]⟩
theorem bel_set4' {w w' : World} (h : Below w.heap.size w w') {g : Nat} (hg : w.heap.size ≤ g) (a b c d : Value) :
    Below w.heap.size w ((((w'.setCell ⟨g, 0, none⟩ a).setCell ⟨g, 1, none⟩ b).setCell ⟨g, 2, none⟩ c).setCell ⟨g, 3, none⟩ d) :=
  (((h.setCell hg _).setCell hg _).setCell hg _).setCell hg _
theorem Res.drew {w : World} {g : Nat} {a b c d : Value} (h : Res w g a b c d) : Res w.drew g a b c d := h.below (below_drew1 (Below.refl _ _))

theorem res_of_drew {w2 w3 : World} {a b c d : Value} {T : TypeId} (hb : Below (w2.alloc (.cells #[a, b, c, d] T)).drew.heap.size (w2.alloc (.cells #[a, b, c, d] T)).drew w3) : Res w3 w2.heap.size a b c d := by
  have h := (Res.new w2 a b c d T).below (below_drew1 (Below.refl _ _))
  exact h.below hb

theorem Read_none (op fa fb fu fn : Int) (x : Addr) (len cap k : Nat) (hl : len ≤ 20000) (hk : k < len) (h0 : 0 ≤ op) (h1 : op ≤ 255) (w : World) (hx : x.block < w.heap.size) (hc : w.cell? (x.add k) = some (.int .u8 op))
    (c1 : ∀ w, Calls Try.prog 25 #[.int .i64 op] w fun e w' => e = .returned (.tuple #[.agg #[.int .i64 fa, .int .i64 fb, .int .i64 fu, .int .i64 fn], .bool false]) ∧ Below w.heap.size w w') :
    Calls Try.prog 31 #[.slice (some x) len cap, .int .i64 k] w fun e w' => e = .returned noIns ∧ Below w.heap.size w w' := by
  have C1 := Lib.hid c1; clear c1
  have hkI : (k : Int) < (len : Int) := by omega
  have hck : (w.alloc (.cells #[.int .i64 0, .int .i64 0, .int .i64 0, .int .u32 0] 36)).cell? (x.add k) = some (.int .u8 op) := by
    rw [World.cell?_alloc_lt _ _ _ (by rw [block_add]; exact hx)]; exact hc
  clear hc
  go_enter Try.func31, Try.ntmps31
  go_wp2_with fail
  refine (C1.out _).mono ?_; rintro e w1 ⟨rfl, hb1⟩
  have HR := (Res.new w _ _ _ _ _).below hb1
  obtain ⟨g0, ⟨r1, r2, r3, r4⟩, f1, f2, f3, f4⟩ := HR
  have HB1 := Lib.hid hb1; clear hb1
  go_wp2_with fail
  refine bodyPost_ret (v := noIns) (by simp [results, Try.results31, go_sem, r1, r2, r3, r4, g0]; rfl) rfl ⟨rfl, ?_⟩
  exact bel_al (bel_set4 (bel_then (bel_al (Below.refl _ _) _) HB1.out) _ _ _ _) _

theorem Read_short (op fa fb fu fn sz : Int) (x : Addr) (len cap k : Nat) (hl : len ≤ 20000) (hk : k < len) (h0 : 0 ≤ op) (h1 : op ≤ 255) (w : World) (hx : x.block < w.heap.size) (hc : w.cell? (x.add k) = some (.int .u8 op))
    (c1 : ∀ w, Calls Try.prog 25 #[.int .i64 op] w fun e w' => e = .returned (.tuple #[.agg #[.int .i64 fa, .int .i64 fb, .int .i64 fu, .int .i64 fn], .bool true]) ∧ Below w.heap.size w w')
    (c2 : ∀ w, Calls Try.prog 36 #[.agg #[.int .i64 fa, .int .i64 fb, .int .i64 fu, .int .i64 fn]] w fun e w' => e = .returned (.int .i64 sz) ∧ Below w.heap.size w w')
    (hs : (len : Int) - k < sz) :
    Calls Try.prog 31 #[.slice (some x) len cap, .int .i64 k] w fun e w' => e = .returned noIns ∧ Below w.heap.size w w' := by
  have C1 := Lib.hid c1; clear c1
  have C2 := Lib.hid c2; clear c2
  have hkI : (k : Int) < (len : Int) := by omega
  have hck : (w.alloc (.cells #[.int .i64 0, .int .i64 0, .int .i64 0, .int .u32 0] 36)).cell? (x.add k) = some (.int .u8 op) := by
    rw [World.cell?_alloc_lt _ _ _ (by rw [block_add]; exact hx)]; exact hc
  clear hc
  go_enter Try.func31, Try.ntmps31
  go_wp2_with fail
  refine (C1.out _).mono ?_; rintro e w1 ⟨rfl, hb1⟩
  have HR := Lib.hid (((Res.new w _ _ _ _ _).below hb1).alloc (.cells #[.int .i64 fa, .int .i64 fb, .int .i64 fu, .int .i64 fn] 57))
  have HB1 := Lib.hid hb1; clear hb1
  go_wp2_with fail
  refine (C2.out _).mono ?_; rintro e w2 ⟨rfl, hb2⟩
  have HR2 := HR.out.below hb2
  obtain ⟨g0, ⟨r1, r2, r3, r4⟩, f1, f2, f3, f4⟩ := HR2
  have HB2 := Lib.hid hb2; clear hb2
  go_wp2_with fail
  refine bodyPost_ret (v := noIns) (by simp [results, Try.results31, go_sem, r1, r2, r3, r4]; rfl) rfl ⟨rfl, ?_⟩
  exact bel_set4 (bel_then (bel_al (bel_then (bel_al (Below.refl _ _) _) HB1.out) _) HB2.out) _ _ _ _

set_option maxHeartbeats 8000000 in
theorem Read_in2 (op fa fb fu sz a b imm : Int) (n : Nat) (x : Addr) (len cap k : Nat) (ok : Bool) (hl : len ≤ 20000) (hk : k < len) (h0 : 0 ≤ op) (h1 : op ≤ 255) (w : World) (hx : x.block < w.heap.size) (hc : w.cell? (x.add k) = some (.int .u8 op))
    (hcap : len ≤ cap) (hcc : cap ≠ k + 1)
    (c1 : ∀ w, Calls Try.prog 25 #[.int .i64 op] w fun e w' => e = .returned (.tuple #[.agg #[.int .i64 fa, .int .i64 fb, .int .i64 fu, .int .i64 n], .bool true]) ∧ Below w.heap.size w w')
    (c2 : ∀ w, Calls Try.prog 36 #[.agg #[.int .i64 fa, .int .i64 fb, .int .i64 fu, .int .i64 n]] w fun e w' => e = .returned (.int .i64 sz) ∧ Below w.heap.size w w')
    (c3 : ∀ w1, Below w.heap.size w w1 → Calls Try.prog 37 #[.agg #[.int .i64 fa, .int .i64 fb, .int .i64 fu, .int .i64 n], .int .i64 op, .slice (some ⟨x.block, x.off + (k + 1), none⟩) (len - (k + 1)) (cap - (k + 1))] w1
      fun e w' => e = .returned (.agg #[.int .i64 op, .int .i64 a, .int .i64 b, .int .u32 imm]) ∧ Below w1.heap.size w1 w')
    (c4 : ∀ w, Calls Try.prog 26 #[.agg #[.int .i64 fa, .int .i64 fb, .int .i64 fu, .int .i64 n], .agg #[.int .i64 op, .int .i64 a, .int .i64 b, .int .u32 imm]] w
      fun e w' => e = .returned (.bool ok) ∧ Below w.heap.size w w')
    (hs : sz ≤ (len : Int) - k) :
    Calls Try.prog 31 #[.slice (some x) len cap, .int .i64 k] w fun e w' => e = .returned (if ok then .tuple #[.agg #[.int .i64 op, .int .i64 a, .int .i64 b, .int .u32 imm], .int .i64 sz] else noIns) ∧ Below w.heap.size w w' := by
  have C1 := Lib.hid c1; clear c1
  have C2 := Lib.hid c2; clear c2
  have C3 := Lib.hid c3; clear c3
  have C4 := Lib.hid c4; clear c4
  have hkI : (k : Int) < (len : Int) := by omega
  have hck : (w.alloc (.cells #[.int .i64 0, .int .i64 0, .int .i64 0, .int .u32 0] 36)).cell? (x.add k) = some (.int .u8 op) := by
    rw [World.cell?_alloc_lt _ _ _ (by rw [block_add]; exact hx)]; exact hc
  clear hc
  · go_enter Try.func31, Try.ntmps31
    go_wp2_with fail
    refine (C1.out _).mono ?_; rintro e w1 ⟨rfl, hb1⟩
    have HR := Lib.hid (((Res.new w _ _ _ _ _).below hb1).alloc (.cells #[.int .i64 fa, .int .i64 fb, .int .i64 fu, .int .i64 n] 57))
    have HB1 := Lib.hid hb1; clear hb1
    go_wp2_with fail
    refine (C2.out _).mono ?_; rintro e w2 ⟨rfl, hb2⟩
    have HR2 := HR.out.below hb2
    have HF2 := (Res.new w1 _ _ _ _ _).below hb2
    have HB2 := Lib.hid (bel_then (bel_al (bel_then (bel_al (Below.refl w.heap.size w) _) HB1.out) _) hb2); clear hb2 HB1 HR
    go_wp2_with fail
    have HF := Lib.hid HF2
    have HR := Lib.hid HR2
    obtain ⟨g0, ⟨r1, r2, r3, r4⟩, _⟩ := HF2
    clear HR2
    have e1 : IntKind.i64.wrap ((k : Int) + 1) = (k : Int) + 1 := IntWalk.i64_in _ (by omega)
    have e2 : (0 : Int) ≤ (k : Int) + 1 := by omega
    have e3 : ((k : Int) + 1).toNat = k + 1 := by omega
    have e4 : (k : Int) + 1 ≤ (len : Int) := by omega
    go_region_with (go_at_call 37; refine (C3.out _ (by first | exact below_drew1 HB2.out | exact bel_al (below_drew1 HB2.out) _)).mono ?_; rintro e w3 ⟨rfl, hb3⟩; (first | (have HH := res_of_drew hb3; obtain ⟨k0, ⟨q1, q2, q3, q4⟩, p1, p2, p3, p4⟩ := HH) | skip))
    all_goals
      (first
        | (have HX := Lib.hid (Res.set_same (res_of_drew hb3) (.int .i64 op) (.int .i64 a) (.int .i64 b) (.int .u32 imm))
           have HRX := Lib.hid (((HR.out.alloc (.cells #[.int .i64 0, .int .i64 0, .int .i64 0, .int .u32 0] 36)).drew.below hb3).set_other HR.out.1 (.int .i64 op) (.int .i64 a) (.int .i64 b) (.int .u32 imm))
           have HFX := Lib.hid (((HF.out.alloc (.cells #[.int .i64 0, .int .i64 0, .int .i64 0, .int .u32 0] 36)).drew.below hb3).set_other HF.out.1 (.int .i64 op) (.int .i64 a) (.int .i64 b) (.int .u32 imm))
           have HBX := Lib.hid (bel_set4' (bel_then (below_drew1 (bel_al HB2.out (.cells #[.int .i64 0, .int .i64 0, .int .i64 0, .int .u32 0] 36))) hb3) HB2.out.size (.int .i64 op) (.int .i64 a) (.int .i64 b) (.int .u32 imm))
           clear hb3 k0 q1 q2 q3 q4 p1 p2 p3 p4 e1 e2 e3 e4 g0 r1 r2 r3 r4 HF HR HB2
           generalize w2.heap.size = gx at *
           generalize (((w3.setCell ⟨gx, 0, none⟩ (.int .i64 op)).setCell ⟨gx, 1, none⟩ (.int .i64 a)).setCell ⟨gx, 2, none⟩ (.int .i64 b)).setCell ⟨gx, 3, none⟩ (.int .u32 imm) = W at *)
        | (have HX := Lib.hid (Res.new w3 (.int .i64 op) (.int .i64 a) (.int .i64 b) (.int .u32 imm) 36)
           have HRX := Lib.hid ((HR.out.drew.below hb3).alloc (.cells #[.int .i64 op, .int .i64 a, .int .i64 b, .int .u32 imm] 36))
           have HFX := Lib.hid ((HF.out.drew.below hb3).alloc (.cells #[.int .i64 op, .int .i64 a, .int .i64 b, .int .u32 imm] 36))
           have HBX := Lib.hid (bel_al (bel_then (below_drew1 HB2.out) hb3) (.cells #[.int .i64 op, .int .i64 a, .int .i64 b, .int .u32 imm] 36))
           clear hb3 e1 e2 e3 e4 g0 r1 r2 r3 r4 HF HR HB2
           generalize w3.heap.size = gx at *
           generalize w3.alloc (.cells #[.int .i64 op, .int .i64 a, .int .i64 b, .int .u32 imm] 36) = W at *))
      have FX := HX.out
      obtain ⟨x0, ⟨x1, x2, x3, x4⟩, _⟩ := FX
      have FF := HFX.out
      obtain ⟨y0, ⟨y1, y2, y3, y4⟩, _⟩ := FF
      go_wp2_with fail
      refine (C4.out _).mono ?_; rintro e w4 ⟨rfl, hb4⟩
      clear x0 x1 x2 x3 x4 y0 y1 y2 y3 y4
      have HR4 := Lib.hid (HRX.out.below hb4)
      have HX4 := Lib.hid (HX.out.below hb4)
      have HF4 := Lib.hid (HFX.out.below hb4)
      have HB4 := Lib.hid (bel_then HBX.out hb4)
      clear hb4 HRX HX HFX HBX C1 C3 C4
      cases ok
      · have FR := HR4.out
        obtain ⟨g0, ⟨r1, r2, r3, r4⟩, f1, f2, f3, f4⟩ := FR
        go_wp2_with fail
        refine bodyPost_ret (v := noIns) (by simp [results, Try.results31, go_sem, r1, r2, r3, r4]; rfl) rfl ⟨rfl, ?_⟩
        exact bel_set4 HB4.out _ _ _ _
      · have FX := HX4.out
        obtain ⟨x0, ⟨x1, x2, x3, x4⟩, _⟩ := FX
        have FF := HF4.out
        obtain ⟨y0, ⟨y1, y2, y3, y4⟩, _⟩ := FF
        go_wp2_with fail
        go_region_with (go_at_call 36; refine (C2.out _).mono ?_; rintro e w5 ⟨rfl, hb5⟩; obtain ⟨g5, ⟨r1, r2, r3, r4⟩, f1, f2, f3, f4⟩ := HR4.out.drew.below hb5; obtain ⟨k5, ⟨q1, q2, q3, q4⟩, _⟩ := HX4.out.drew.below hb5)
        all_goals
          go_wp2_with fail
          refine bodyPost_ret (v := .tuple #[.agg #[.int .i64 op, .int .i64 a, .int .i64 b, .int .u32 imm], .int .i64 sz]) (by simp [results, Try.results31, go_sem, r1, r2, r3, r4]) rfl ⟨rfl, ?_⟩
          exact bel_set4 (bel_then (below_drew1 HB4.out) hb5) _ _ _ _

set_option maxHeartbeats 8000000 in
theorem Read_in1 (op fa fb fu sz a b imm : Int) (n : Nat) (x : Addr) (k : Nat) (ok : Bool) (hl : k + 1 ≤ 20000) (h0 : 0 ≤ op) (h1 : op ≤ 255) (w : World) (hx : x.block < w.heap.size) (hc : w.cell? (x.add k) = some (.int .u8 op))
    (c1 : ∀ w, Calls Try.prog 25 #[.int .i64 op] w fun e w' => e = .returned (.tuple #[.agg #[.int .i64 fa, .int .i64 fb, .int .i64 fu, .int .i64 n], .bool true]) ∧ Below w.heap.size w w')
    (c2 : ∀ w, Calls Try.prog 36 #[.agg #[.int .i64 fa, .int .i64 fb, .int .i64 fu, .int .i64 n]] w fun e w' => e = .returned (.int .i64 sz) ∧ Below w.heap.size w w')
    (c3 : ∀ w1, Below w.heap.size w w1 → Calls Try.prog 37 #[.agg #[.int .i64 fa, .int .i64 fb, .int .i64 fu, .int .i64 n], .int .i64 op, .slice (some x) 0 0] w1
      fun e w' => e = .returned (.agg #[.int .i64 op, .int .i64 a, .int .i64 b, .int .u32 imm]) ∧ Below w1.heap.size w1 w')
    (c4 : ∀ w, Calls Try.prog 26 #[.agg #[.int .i64 fa, .int .i64 fb, .int .i64 fu, .int .i64 n], .agg #[.int .i64 op, .int .i64 a, .int .i64 b, .int .u32 imm]] w
      fun e w' => e = .returned (.bool ok) ∧ Below w.heap.size w w')
    (hs : sz ≤ 1) :
    Calls Try.prog 31 #[.slice (some x) (k + 1) (k + 1), .int .i64 k] w fun e w' => e = .returned (if ok then .tuple #[.agg #[.int .i64 op, .int .i64 a, .int .i64 b, .int .u32 imm], .int .i64 sz] else noIns) ∧ Below w.heap.size w w' := by
  have C1 := Lib.hid c1; clear c1
  have C2 := Lib.hid c2; clear c2
  have C3 := Lib.hid c3; clear c3
  have C4 := Lib.hid c4; clear c4
  have hck : (w.alloc (.cells #[.int .i64 0, .int .i64 0, .int .i64 0, .int .u32 0] 36)).cell? (x.add k) = some (.int .u8 op) := by
    rw [World.cell?_alloc_lt _ _ _ (by rw [block_add]; exact hx)]; exact hc
  clear hc
  · go_enter Try.func31, Try.ntmps31
    go_wp2_with fail
    refine (C1.out _).mono ?_; rintro e w1 ⟨rfl, hb1⟩
    have HR := Lib.hid (((Res.new w _ _ _ _ _).below hb1).alloc (.cells #[.int .i64 fa, .int .i64 fb, .int .i64 fu, .int .i64 n] 57))
    have HB1 := Lib.hid hb1; clear hb1
    go_wp2_with fail
    refine (C2.out _).mono ?_; rintro e w2 ⟨rfl, hb2⟩
    have HR2 := HR.out.below hb2
    have HF2 := (Res.new w1 _ _ _ _ _).below hb2
    have HB2 := Lib.hid (bel_then (bel_al (bel_then (bel_al (Below.refl w.heap.size w) _) HB1.out) _) hb2); clear hb2 HB1 HR
    go_wp2_with fail
    have HF := Lib.hid HF2
    have HR := Lib.hid HR2
    obtain ⟨g0, ⟨r1, r2, r3, r4⟩, _⟩ := HF2
    clear HR2
    have e1 : IntKind.i64.wrap ((k : Int) + 1) = (k : Int) + 1 := IntWalk.i64_in _ (by omega)
    have e2 : (0 : Int) ≤ (k : Int) + 1 := by omega
    have e3 : ((k : Int) + 1).toNat = k + 1 := by omega
    have e4 : (k : Int) + 1 ≤ ((k + 1 : Nat) : Int) := by omega
    go_region_with (go_at_call 37; refine (C3.out _ (by first | exact below_drew1 HB2.out | exact bel_al (below_drew1 HB2.out) _)).mono ?_; rintro e w3 ⟨rfl, hb3⟩; (first | (have HH := res_of_drew hb3; obtain ⟨k0, ⟨q1, q2, q3, q4⟩, p1, p2, p3, p4⟩ := HH) | skip))
    all_goals
      (first
        | (have HX := Lib.hid (Res.set_same (res_of_drew hb3) (.int .i64 op) (.int .i64 a) (.int .i64 b) (.int .u32 imm))
           have HRX := Lib.hid (((HR.out.alloc (.cells #[.int .i64 0, .int .i64 0, .int .i64 0, .int .u32 0] 36)).drew.below hb3).set_other HR.out.1 (.int .i64 op) (.int .i64 a) (.int .i64 b) (.int .u32 imm))
           have HFX := Lib.hid (((HF.out.alloc (.cells #[.int .i64 0, .int .i64 0, .int .i64 0, .int .u32 0] 36)).drew.below hb3).set_other HF.out.1 (.int .i64 op) (.int .i64 a) (.int .i64 b) (.int .u32 imm))
           have HBX := Lib.hid (bel_set4' (bel_then (below_drew1 (bel_al HB2.out (.cells #[.int .i64 0, .int .i64 0, .int .i64 0, .int .u32 0] 36))) hb3) HB2.out.size (.int .i64 op) (.int .i64 a) (.int .i64 b) (.int .u32 imm))
           clear hb3 k0 q1 q2 q3 q4 p1 p2 p3 p4 e1 e2 e3 e4 g0 r1 r2 r3 r4 HF HR HB2
           generalize w2.heap.size = gx at *
           generalize (((w3.setCell ⟨gx, 0, none⟩ (.int .i64 op)).setCell ⟨gx, 1, none⟩ (.int .i64 a)).setCell ⟨gx, 2, none⟩ (.int .i64 b)).setCell ⟨gx, 3, none⟩ (.int .u32 imm) = W at *)
        | (have HX := Lib.hid (Res.new w3 (.int .i64 op) (.int .i64 a) (.int .i64 b) (.int .u32 imm) 36)
           have HRX := Lib.hid ((HR.out.drew.below hb3).alloc (.cells #[.int .i64 op, .int .i64 a, .int .i64 b, .int .u32 imm] 36))
           have HFX := Lib.hid ((HF.out.drew.below hb3).alloc (.cells #[.int .i64 op, .int .i64 a, .int .i64 b, .int .u32 imm] 36))
           have HBX := Lib.hid (bel_al (bel_then (below_drew1 HB2.out) hb3) (.cells #[.int .i64 op, .int .i64 a, .int .i64 b, .int .u32 imm] 36))
           clear hb3 e1 e2 e3 e4 g0 r1 r2 r3 r4 HF HR HB2
           generalize w3.heap.size = gx at *
           generalize w3.alloc (.cells #[.int .i64 op, .int .i64 a, .int .i64 b, .int .u32 imm] 36) = W at *))
      have FX := HX.out
      obtain ⟨x0, ⟨x1, x2, x3, x4⟩, _⟩ := FX
      have FF := HFX.out
      obtain ⟨y0, ⟨y1, y2, y3, y4⟩, _⟩ := FF
      go_wp2_with fail
      refine (C4.out _).mono ?_; rintro e w4 ⟨rfl, hb4⟩
      clear x0 x1 x2 x3 x4 y0 y1 y2 y3 y4
      have HR4 := Lib.hid (HRX.out.below hb4)
      have HX4 := Lib.hid (HX.out.below hb4)
      have HF4 := Lib.hid (HFX.out.below hb4)
      have HB4 := Lib.hid (bel_then HBX.out hb4)
      clear hb4 HRX HX HFX HBX C1 C3 C4
      cases ok
      · have FR := HR4.out
        obtain ⟨g0, ⟨r1, r2, r3, r4⟩, f1, f2, f3, f4⟩ := FR
        go_wp2_with fail
        refine bodyPost_ret (v := noIns) (by simp [results, Try.results31, go_sem, r1, r2, r3, r4]; rfl) rfl ⟨rfl, ?_⟩
        exact bel_set4 HB4.out _ _ _ _
      · have FX := HX4.out
        obtain ⟨x0, ⟨x1, x2, x3, x4⟩, _⟩ := FX
        have FF := HF4.out
        obtain ⟨y0, ⟨y1, y2, y3, y4⟩, _⟩ := FF
        go_wp2_with fail
        go_region_with (go_at_call 36; refine (C2.out _).mono ?_; rintro e w5 ⟨rfl, hb5⟩; obtain ⟨g5, ⟨r1, r2, r3, r4⟩, f1, f2, f3, f4⟩ := HR4.out.drew.below hb5; obtain ⟨k5, ⟨q1, q2, q3, q4⟩, _⟩ := HX4.out.drew.below hb5)
        all_goals
          go_wp2_with fail
          refine bodyPost_ret (v := .tuple #[.agg #[.int .i64 op, .int .i64 a, .int .i64 b, .int .u32 imm], .int .i64 sz]) (by simp [results, Try.results31, go_sem, r1, r2, r3, r4]) rfl ⟨rfl, ?_⟩
          exact bel_set4 (bel_then (below_drew1 HB4.out) hb5) _ _ _ _

end Go.Proofs.Ytojpcijfipdiaaa
