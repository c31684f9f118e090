/- What Lay of package isa answers: an instruction's bytes. -/
import Derived.Test.YtojpcijfipdiaaaIsaForms
import Derived.OwnWalk
import Derived.Maps.AppendAt
import Derived.Laws.OwnMore
import Derived.Laws.BytesArg
namespace Go.Proofs.Ytojpcijfipdiaaa
open Go.ChangeShapes Go.WideShapes Go.ChangeAt Go.RowKit
set_option linter.unusedVariables false

theorem u8_info : (Try.prog.info? 5).map (fun i => (i.zero, i.size, i.bytes)) = some (some (.int .u8 0), 1, 1) := by kernel_rfl

theorem kept1 {w w1 : World} {o : Obj} (hb : Below (w.alloc o).heap.size (w.alloc o) w1) (k : Nat) : w1.cell? ⟨w.heap.size, k, none⟩ = (w.alloc o).cell? ⟨w.heap.size, k, none⟩ :=
  hb.cell (p := ⟨w.heap.size, k, none⟩) (by simp)
theorem kept2 {w w1 w2 : World} {o o' : Obj} (hb : Below (w.alloc o).heap.size (w.alloc o) w1) (hb2 : Below (w1.alloc o').heap.size (w1.alloc o') w2) (k : Nat) : w2.cell? ⟨w.heap.size, k, none⟩ = (w.alloc o).cell? ⟨w.heap.size, k, none⟩ := by
  have hz : w.heap.size < w1.heap.size := by have := hb.size; simp at this; omega
  rw [hb2.cell (p := ⟨w.heap.size, k, none⟩) (by simp; omega), World.cell?_alloc_lt w1 o' ⟨w.heap.size, k, none⟩ hz, kept1 hb]

theorem one_new2 (w : World) (o : Obj) (x : Value) (t : TypeId) : ∀ j u, [x][j]? = some u → ((w.alloc o).alloc (.cells #[x] t)).cell? ((⟨w.heap.size + 1, 0, none⟩ : Addr).add j) = some u := by
  have h := cell_one_new (w.alloc o) x t
  simp only [show (w.alloc o).heap.size = w.heap.size + 1 by simp] at h
  exact h

/-- the bytes so far, where k bytes of the number are laid -/
def LayRel (w2 : World) (p : Nat) (imm : Int) (n : Nat) (pre : List Int) (v i : Value) (w' : World) : Prop :=
  ∃ k : Nat, k ≤ n ∧ i = .int .i64 k ∧ w'.ownsRow w2.heap.size 5 1 v (p + k) ((pre ++ numL imm k).map (Value.int .u8)) ∧ Below w2.heap.size w2 w'

theorem pow8 (k : Nat) : (2 : Int) ^ (8 * k) = 256 ^ k := by rw [Int.pow_mul]; rfl

theorem layRel_step {w2 wr w4 : World} {p : Nat} {imm : Int} {n k : Nat} {pre : List Int} {v v4 : Value} (hlt : k < n) (hb : Below w2.heap.size w2 wr) (ho : wr.ownsRow w2.heap.size 5 1 v (p + k) ((pre ++ numL imm k).map (Value.int .u8)))
    (hg : (wr.alloc (.cells #[.int .u8 (imm / 2 ^ (8 * k) % 256)] 5)).grownBy w4 v.ownBlock)
    (hown : w4.ownsRow w2.heap.size 5 1 v4 (p + k + 1) ((pre ++ numL imm k).map (Value.int .u8) ++ [.int .u8 (imm / 2 ^ (8 * k) % 256)])) :
    LayRel w2 p imm n pre v4 (.int .i64 ((k : Int) + 1)) w4 := by
  refine ⟨k + 1, hlt, by simp, ?_, (bel_al hb _).grown hg (Nat.le_trans hb.size (by simp)) (fun j hj => (ho.lt j hj).1)⟩
  rw [pow8] at hown
  simpa [numL, Nat.add_assoc] using hown

theorem own_conv {wr : World} {base n : Nat} {v : Value} {L : List Int} (h : wr.ownsRow base 5 1 v n (L.map (Value.int .u8))) (hn : 0 < n) :
    (convert 22 9 v).run Try.prog wr = .ok (.string (strOfNums L)) wr := by
  have hl : L.length = n := by have := h.1; simpa using this
  rcases h.2 with ⟨_, h0⟩ | ⟨g, cap, cur, rfl, _⟩
  · omega
  · refine run_convert_bytes_arg wr 22 5 Try.underlying22 Try.underlying5 g 0 n cap L hl (fun i hi => ?_) _ Try.underlying9
    have hi' : i < L.length := by omega
    have := h.cells (g := g) rfl i (.int .u8 (L.getD i 0)) (by simp [List.getElem?_eq_getElem hi', List.getD])
    have e : (⟨g, 0, none⟩ : Addr).add i = ⟨g, 0 + i, none⟩ := by unfold Addr.add; split <;> simp_all
    rw [e] at this
    exact this

theorem lay_u (op a b imm fa fb fu : Int) (n : Nat) (hn : n ≤ 4) (hu : 0 < fu)
    (c1 : ∀ w, Calls Try.prog 25 #[.int .i64 op] w fun e w' => e = .returned (.tuple #[.agg #[.int .i64 fa, .int .i64 fb, .int .i64 fu, .int .i64 n], .bool true]) ∧ Below w.heap.size w w')
    (c2 : ∀ w, Calls Try.prog 26 #[.agg #[.int .i64 fa, .int .i64 fb, .int .i64 fu, .int .i64 n], .agg #[.int .i64 op, .int .i64 a, .int .i64 b, .int .u32 imm]] w
      fun e w' => e = .returned (.bool true) ∧ Below w.heap.size w w')
    (o0 : 0 ≤ op) (o1 : op ≤ 255) (s0 : 0 ≤ a) (s1 : a ≤ 7) (s2 : 0 ≤ b) (s3 : b ≤ 7) (s4 : fu ≤ 16) (s5 : a * fu + b ≤ 255) (s6 : 0 ≤ a * fu) (i0 : 0 ≤ imm) (i1 : imm < 4294967296) (w : World) :
    Calls Try.prog 18 #[.agg #[.int .i64 op, .int .i64 a, .int .i64 b, .int .u32 imm]] w fun e w' => e = .returned (.string (strOfNums (op :: (a * fu + b) :: numL imm n))) ∧ Below w.heap.size w w' := by
  have C1 := Lib.hid c1; clear c1
  have C2 := Lib.hid c2; clear c2
  have INF := Lib.hid (info_parts u8_info)
  go_enter Try.func18, Try.ntmps18
  go_wp2_with fail
  refine (C1.out _).mono ?_; rintro e w1 ⟨rfl, hb1⟩
  have hx0 : w1.cell? ⟨w.heap.size, 0, none⟩ = some (.int .i64 op) := by rw [kept1 hb1]; simp
  have hx1 : w1.cell? ⟨w.heap.size, 1, none⟩ = some (.int .i64 a) := by rw [kept1 hb1]; simp
  have hx2 : w1.cell? ⟨w.heap.size, 2, none⟩ = some (.int .i64 b) := by rw [kept1 hb1]; simp
  have hx3 : w1.cell? ⟨w.heap.size, 3, none⟩ = some (.int .u32 imm) := by rw [kept1 hb1]; simp
  have hzz : w.heap.size < w1.heap.size := by have := hb1.size; simp at this; omega
  have HB1 := Lib.hid hb1; clear hb1
  go_wp2_with fail
  refine (C2.out _).mono ?_; rintro e w2 ⟨rfl, hb2⟩
  replace hx0 : w2.cell? ⟨w.heap.size, 0, none⟩ = some (.int .i64 op) := by rw [kept2 HB1.out hb2]; simp
  replace hx1 : w2.cell? ⟨w.heap.size, 1, none⟩ = some (.int .i64 a) := by rw [kept2 HB1.out hb2]; simp
  replace hx2 : w2.cell? ⟨w.heap.size, 2, none⟩ = some (.int .i64 b) := by rw [kept2 HB1.out hb2]; simp
  replace hx3 : w2.cell? ⟨w.heap.size, 3, none⟩ = some (.int .u32 imm) := by rw [kept2 HB1.out hb2]; simp
  have hy2 : w2.cell? ⟨w1.heap.size, 2, none⟩ = some (.int .i64 fu) := by rw [kept1 hb2]; simp
  have hy3 : w2.cell? ⟨w1.heap.size, 3, none⟩ = some (.int .i64 n) := by rw [kept1 hb2]; simp
  have hzz2 : w1.heap.size < w2.heap.size := by have := hb2.size; simp at this; omega
  have HB2 := Lib.hid hb2; clear hb2
  have hzz3 : w.heap.size < w2.heap.size := by omega
  have OWN2 := Lib.hid ((World.ownsRow_lit (size := 1) (base := w2.heap.size) (e := 5) w2 #[.int .u8 op] 1 (Nat.le_refl _) (by unfold maxLen; omega) rfl).alloc (.cells #[.int .u8 (a * fu + b)] 5))
  go_wp2_with (first | (at_builtin
                        obtain ⟨u0, hu0, hz0, hz1, hz2⟩ := INF.out
                        refine wpList_append_own_at _ rfl (.tmp 28) (.tmp 38) _ rfl w2.heap.size 5 u0 _ 1 1 Try.underlying22 hu0 hz0 hz1 hz2 rfl (by decide) (.slice (some ⟨w2.heap.size, 0, none⟩) 1 1) 1 [.int .u8 op] rfl OWN2.out
                          ⟨w2.heap.size + 1, 0, none⟩ 1 1 [.int .u8 (a * fu + b)] rfl rfl (one_new2 _ _ _ _) (ints_oneCell .u8 [a * fu + b]) (by unfold maxLen; omega) (by omega) (by simp; omega) ?_
                        intro v3 w3 hown3 hg3 hnil3 hat3
                        have hb3 : Below w2.heap.size w2 w3 := (bel_al (bel_al (Below.refl _ _) _) _).grown hg3 (by simp; omega) (fun k hk => by simp [Value.ownBlock] at hk; omega)
                        replace hy3 : w3.cell? ⟨w1.heap.size, 3, none⟩ = some (.int .i64 n) := by rw [hb3.cell (p := ⟨w1.heap.size, 3, none⟩) hzz2]; exact hy3
                        clear hg3 hnil3 hat3 hu0 hz0 hz1 hz2 OWN2
                        have HB3 := Lib.hid hb3; clear hb3
                        have OWN3 := Lib.hid hown3; clear hown3))
  clear C1 C2
  go_loopw [5, 42] (fun v i w' => LayRel w2 2 imm n [op, a * fu + b] v i w') (fun _ i _ => n - (intOf i).toNat)
  case atStart => exact ⟨0, Nat.zero_le _, rfl, by simpa [numL] using OWN3.out, HB3.out⟩
  case round =>
    obtain ⟨k, hk, rfl, hown, hb⟩ := hrel
    by_cases hlt : k < n
    · have hxi : wr.cell? ⟨w.heap.size, 3, none⟩ = some (.int .u32 imm) := by rw [hb.cell (p := ⟨w.heap.size, 3, none⟩) hzz3]; exact hx3
      have OWN := Lib.hid hown; clear hown
      have hbz := Nat.le_trans (Nat.le_refl _) hb.size
      have HB := Lib.hid hb; clear hb
      go_wp2_with (first | (at_builtin
                            obtain ⟨u0, hu0, hz0, hz1, hz2⟩ := INF.out
                            refine wpList_append_own_at _ rfl (.tmp 45) (.tmp 52) _ rfl w2.heap.size 5 u0 _ 1 1 Try.underlying22 hu0 hz0 hz1 hz2 rfl (by decide) u5 (2 + k) _ rfl (OWN.out.alloc _)
                              ⟨wr.heap.size, 0, none⟩ 1 1 [.int .u8 _] rfl rfl (cell_one_new _ _ _) (ints_oneCell .u8 [_]) (by unfold maxLen; omega) (by omega) (by simp; omega) ?_
                            intro v4 w4 hown4 hg4 hnil4 hat4
                            clear hu0 hz0 hz1 hz2
                            have OWN4 := Lib.hid hown4; clear hown4))
      exact ⟨layRel_step hlt HB.out OWN.out hg4 OWN4.out, by simp [intOf]; omega⟩
    · have hkn : k = n := by omega
      have hcv := own_conv hown (by omega)
      have HB := Lib.hid hb; clear hb hown
      have HK := Lib.hid hkn; clear hkn
      go_wp2
      go_ret
      rw [HK.out]
      exact ⟨rfl, (bel_then (bel_al (bel_then (bel_al (Below.refl _ _) _) HB1.out) _) HB2.out).trans (HB.out.mono (by omega))⟩
theorem lay_0 (op a b imm fa fb fu : Int) (n : Nat) (hn : n ≤ 4) (hu : ¬ 0 < fu)
    (c1 : ∀ w, Calls Try.prog 25 #[.int .i64 op] w fun e w' => e = .returned (.tuple #[.agg #[.int .i64 fa, .int .i64 fb, .int .i64 fu, .int .i64 n], .bool true]) ∧ Below w.heap.size w w')
    (c2 : ∀ w, Calls Try.prog 26 #[.agg #[.int .i64 fa, .int .i64 fb, .int .i64 fu, .int .i64 n], .agg #[.int .i64 op, .int .i64 a, .int .i64 b, .int .u32 imm]] w
      fun e w' => e = .returned (.bool true) ∧ Below w.heap.size w w')
    (o0 : 0 ≤ op) (o1 : op ≤ 255) (i0 : 0 ≤ imm) (i1 : imm < 4294967296) (w : World) :
    Calls Try.prog 18 #[.agg #[.int .i64 op, .int .i64 a, .int .i64 b, .int .u32 imm]] w fun e w' => e = .returned (.string (strOfNums (op :: numL imm n))) ∧ Below w.heap.size w w' := by
  have C1 := Lib.hid c1; clear c1
  have C2 := Lib.hid c2; clear c2
  have INF := Lib.hid (info_parts u8_info)
  go_enter Try.func18, Try.ntmps18
  go_wp2_with fail
  refine (C1.out _).mono ?_; rintro e w1 ⟨rfl, hb1⟩
  have hx0 : w1.cell? ⟨w.heap.size, 0, none⟩ = some (.int .i64 op) := by rw [kept1 hb1]; simp
  have hx1 : w1.cell? ⟨w.heap.size, 1, none⟩ = some (.int .i64 a) := by rw [kept1 hb1]; simp
  have hx2 : w1.cell? ⟨w.heap.size, 2, none⟩ = some (.int .i64 b) := by rw [kept1 hb1]; simp
  have hx3 : w1.cell? ⟨w.heap.size, 3, none⟩ = some (.int .u32 imm) := by rw [kept1 hb1]; simp
  have hzz : w.heap.size < w1.heap.size := by have := hb1.size; simp at this; omega
  have HB1 := Lib.hid hb1; clear hb1
  go_wp2_with fail
  refine (C2.out _).mono ?_; rintro e w2 ⟨rfl, hb2⟩
  replace hx0 : w2.cell? ⟨w.heap.size, 0, none⟩ = some (.int .i64 op) := by rw [kept2 HB1.out hb2]; simp
  replace hx1 : w2.cell? ⟨w.heap.size, 1, none⟩ = some (.int .i64 a) := by rw [kept2 HB1.out hb2]; simp
  replace hx2 : w2.cell? ⟨w.heap.size, 2, none⟩ = some (.int .i64 b) := by rw [kept2 HB1.out hb2]; simp
  replace hx3 : w2.cell? ⟨w.heap.size, 3, none⟩ = some (.int .u32 imm) := by rw [kept2 HB1.out hb2]; simp
  have hy2 : w2.cell? ⟨w1.heap.size, 2, none⟩ = some (.int .i64 fu) := by rw [kept1 hb2]; simp
  have hy3 : w2.cell? ⟨w1.heap.size, 3, none⟩ = some (.int .i64 n) := by rw [kept1 hb2]; simp
  have hzz2 : w1.heap.size < w2.heap.size := by have := hb2.size; simp at this; omega
  have HB2 := Lib.hid hb2; clear hb2
  have hzz3 : w.heap.size < w2.heap.size := by omega
  have OWN3 := Lib.hid (World.ownsRow_lit (size := 1) (base := w2.heap.size) (e := 5) w2 #[.int .u8 op] 1 (Nat.le_refl _) (by unfold maxLen; omega) rfl)
  have HB3 := Lib.hid (bel_al (Below.refl w2.heap.size w2) (.cells #[.int .u8 op] 5))
  go_wp2_with fail
  clear C1 C2
  go_loopw [5, 42] (fun v i w' => LayRel w2 1 imm n [op] v i w') (fun _ i _ => n - (intOf i).toNat)
  case atStart => exact ⟨0, Nat.zero_le _, rfl, by simpa [numL] using OWN3.out, HB3.out⟩
  case round =>
    obtain ⟨k, hk, rfl, hown, hb⟩ := hrel
    by_cases hlt : k < n
    · have hxi : wr.cell? ⟨w.heap.size, 3, none⟩ = some (.int .u32 imm) := by rw [hb.cell (p := ⟨w.heap.size, 3, none⟩) hzz3]; exact hx3
      have OWN := Lib.hid hown; clear hown
      have hbz := Nat.le_trans (Nat.le_refl _) hb.size
      have HB := Lib.hid hb; clear hb
      go_wp2_with (first | (at_builtin
                            obtain ⟨u0, hu0, hz0, hz1, hz2⟩ := INF.out
                            refine wpList_append_own_at _ rfl (.tmp 45) (.tmp 52) _ rfl w2.heap.size 5 u0 _ 1 1 Try.underlying22 hu0 hz0 hz1 hz2 rfl (by decide) u5 (1 + k) _ rfl (OWN.out.alloc _)
                              ⟨wr.heap.size, 0, none⟩ 1 1 [.int .u8 _] rfl rfl (cell_one_new _ _ _) (ints_oneCell .u8 [_]) (by unfold maxLen; omega) (by omega) (by simp; omega) ?_
                            intro v4 w4 hown4 hg4 hnil4 hat4
                            clear hu0 hz0 hz1 hz2
                            have OWN4 := Lib.hid hown4; clear hown4))
      exact ⟨layRel_step hlt HB.out OWN.out hg4 OWN4.out, by simp [intOf]; omega⟩
    · have hkn : k = n := by omega
      have hcv := own_conv hown (by omega)
      have HB := Lib.hid hb; clear hb hown
      have HK := Lib.hid hkn; clear hkn
      go_wp2
      go_ret
      rw [HK.out]
      exact ⟨rfl, (bel_then (bel_al (bel_then (bel_al (Below.refl _ _) _) HB1.out) _) HB2.out).trans (HB.out.mono (by omega))⟩

theorem lay_none (op a b imm fa fb fu fn : Int)
    (c1 : ∀ w, Calls Try.prog 25 #[.int .i64 op] w fun e w' => e = .returned (.tuple #[.agg #[.int .i64 fa, .int .i64 fb, .int .i64 fu, .int .i64 fn], .bool false]) ∧ Below w.heap.size w w') (w : World) :
    Calls Try.prog 18 #[.agg #[.int .i64 op, .int .i64 a, .int .i64 b, .int .u32 imm]] w fun e w' => e = .returned (.string (strOfNums [])) ∧ Below w.heap.size w w' := by
  have C1 := Lib.hid c1; clear c1
  go_enter Try.func18, Try.ntmps18
  go_wp2_with fail
  refine (C1.out _).mono ?_; rintro e w1 ⟨rfl, hb1⟩
  go_wp2_with fail
  go_ret
  exact ⟨rfl, bel_al (bel_then (bel_al (Below.refl _ _) _) hb1) _⟩

theorem lay_unfit (op a b imm fa fb fu fn : Int)
    (c1 : ∀ w, Calls Try.prog 25 #[.int .i64 op] w fun e w' => e = .returned (.tuple #[.agg #[.int .i64 fa, .int .i64 fb, .int .i64 fu, .int .i64 fn], .bool true]) ∧ Below w.heap.size w w')
    (c2 : ∀ w, Calls Try.prog 26 #[.agg #[.int .i64 fa, .int .i64 fb, .int .i64 fu, .int .i64 fn], .agg #[.int .i64 op, .int .i64 a, .int .i64 b, .int .u32 imm]] w
      fun e w' => e = .returned (.bool false) ∧ Below w.heap.size w w') (w : World) :
    Calls Try.prog 18 #[.agg #[.int .i64 op, .int .i64 a, .int .i64 b, .int .u32 imm]] w fun e w' => e = .returned (.string (strOfNums [])) ∧ Below w.heap.size w w' := by
  have C1 := Lib.hid c1; clear c1
  have C2 := Lib.hid c2; clear c2
  go_enter Try.func18, Try.ntmps18
  go_wp2_with fail
  refine (C1.out _).mono ?_; rintro e w1 ⟨rfl, hb1⟩
  have hx0 : w1.cell? ⟨w.heap.size, 0, none⟩ = some (.int .i64 op) := by rw [kept1 hb1]; simp
  have hx1 : w1.cell? ⟨w.heap.size, 1, none⟩ = some (.int .i64 a) := by rw [kept1 hb1]; simp
  have hx2 : w1.cell? ⟨w.heap.size, 2, none⟩ = some (.int .i64 b) := by rw [kept1 hb1]; simp
  have hx3 : w1.cell? ⟨w.heap.size, 3, none⟩ = some (.int .u32 imm) := by rw [kept1 hb1]; simp
  have hzz : w.heap.size < w1.heap.size := by have := hb1.size; simp at this; omega
  go_wp2_with fail
  refine (C2.out _).mono ?_; rintro e w2 ⟨rfl, hb2⟩
  go_wp2_with fail
  go_ret
  exact ⟨rfl, bel_then (bel_al (bel_then (bel_al (Below.refl _ _) _) hb1) _) hb2⟩

theorem Lay_any (op a b imm : Int) (h0 : 0 ≤ imm) (h1 : imm < 4294967296) (w : World) :
    Calls Try.prog 18 #[.agg #[.int .i64 op, .int .i64 a, .int .i64 b, .int .u32 imm]] w fun e w' => e = .returned (.string (strOfNums (layL op a b imm))) ∧ Below w.heap.size w w' := by
  have hf := formOf_any op
  have hg := fits_any (fA op) (fB op) (fU op) (fN op) op a b imm (form_of op) h0 h1
  cases hk : fK op
  · rw [layL_no (by unfold rightB; rw [hk]; rfl)]
    rw [hk] at hf
    exact lay_none op a b imm _ _ _ _ hf w
  · rw [hk] at hf
    have ho : 0 ≤ op ∧ op ≤ 23 := by unfold fK at hk; exact of_decide_eq_true hk
    cases hr : fitsB (fA op) (fB op) (fN op) a b imm
    · rw [layL_no (by unfold rightB; rw [hk, hr]; rfl)]
      rw [hr] at hg
      exact lay_unfit op a b imm _ _ _ _ hf hg w
    · rw [layL_ok (by unfold rightB; rw [hk, hr]; rfl)]
      rw [hr] at hg
      have F := form_of op
      obtain ⟨_, _, n0, n1⟩ := szV_bd _ _ _ _ F
      obtain ⟨a0, a1, b0, b1, _⟩ := (fitsB_iff _ _ _ _ _ _).1 hr
      obtain ⟨n, hn⟩ : ∃ n : Nat, fN op = n := ⟨(fN op).toNat, by omega⟩
      unfold layF
      rw [hn] at hf hg n0 n1 F ⊢
      rw [Int.toNat_natCast]
      unfold Form at F
      by_cases hu : 0 < fU op
      · rw [if_pos hu]
        have hm : a * fU op = a * 16 ∨ a * fU op = a := by
          have : fU op = 16 ∨ fU op = 1 := by omega
          rcases this with e | e <;> rw [e] <;> omega
        exact lay_u op a b imm _ _ _ n (by omega) hu hf hg ho.1 (by omega) a0 (by omega) b0 (by omega) (by omega) (by omega) (by omega) h0 h1 w
      · rw [if_neg hu]
        exact lay_0 op a b imm _ _ _ n (by omega) hu hf hg ho.1 (by omega) h0 h1 w
end Go.Proofs.Ytojpcijfipdiaaa
