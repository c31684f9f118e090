/- What the document's own Lay of layer 2 answers, of a right instruction. -/
import Derived.Test.YtcfdebamokcjkaaIsaRef
namespace Go.Proofs.Ytcfdebamokcjkaa
open Go.ChangeShapes Go.WideShapes Go.ChangeAt Go.RowKit
set_option linter.unusedVariables false

/-- the bytes so far, where k bytes of the number are laid, and what is left of it -/
def RLayRel (W : World) (B p : Nat) (imm : Int) (pre : List Int) (v n i : Value) (w' : World) : Prop :=
  ∃ k : Nat, k ≤ 4 ∧ i = .int .i64 k ∧ n = .int .u32 (imm / 256 ^ k) ∧ w'.ownsRow B 5 1 v (p + k) ((pre ++ numL imm k).map (Value.int .u8)) ∧ Below B W w'

theorem rlayRel_step {W wr w4 : World} {B p : Nat} {imm : Int} {k : Nat} {pre : List Int} {v v4 : Value} (hlt : k < 4) (hB : B ≤ W.heap.size) (hb : Below B W wr) (ho : wr.ownsRow B 5 1 v (p + k) ((pre ++ numL imm k).map (Value.int .u8)))
    (hg : (wr.alloc (.cells #[.int .u8 (imm / 256 ^ k % 256)] 5)).grownBy w4 v.ownBlock)
    (hown : w4.ownsRow B 5 1 v4 (p + k + 1) ((pre ++ numL imm k).map (Value.int .u8) ++ [.int .u8 (imm / 256 ^ k % 256)])) :
    RLayRel W B p imm pre v4 (.int .u32 (imm / 256 ^ k / 256)) (.int .i64 ((k : Int) + 1)) w4 := by
  have hz := Nat.le_trans hB hb.size
  refine ⟨k + 1, hlt, by simp, ?_, ?_, (hb.alloc hz _).grown hg (Nat.le_trans hz (by simp)) (fun j hj => (ho.lt j hj).1)⟩
  · rw [Int.pow_succ, Int.ediv_ediv_of_nonneg (Int.pow_nonneg (by decide))]
  · simpa [numL, Nat.add_assoc] using hown

theorem Res.belowR {w w' : World} {g B : Nat} {a b c d : Value} (h : Res w g a b c d) (hb : Below B w w') (hg : g < B) : Res w' g a b c d := by
  obtain ⟨h0, ⟨h1, h2, h3, h4⟩, f1, f2, f3, f4⟩ := h
  have e : ∀ j, w'.cell? ⟨g, j, none⟩ = w.cell? ⟨g, j, none⟩ := fun j => hb.cell (p := ⟨g, j, none⟩) hg
  have f : ∀ j, w'.frozen? ⟨g, j, none⟩ = w.frozen? ⟨g, j, none⟩ := fun j => hb.frozen (p := ⟨g, j, none⟩) hg
  exact ⟨Nat.lt_of_lt_of_le h0 hb.size, ⟨by rw [e, h1], by rw [e, h2], by rw [e, h3], by rw [e, h4]⟩, by rw [f, f1], by rw [f, f2], by rw [f, f3], by rw [f, f4]⟩

theorem own_one (w : World) (o : Obj) (x : Int) : ((w.alloc o).alloc (.cells #[.int .u8 x] 5)).ownsRow (w.heap.size + 1) 5 1 (.slice (some ⟨w.heap.size + 1, 0, none⟩) 1 1) 1 ([x].map (Value.int .u8)) := by
  have h := World.ownsRow_lit (size := 1) (base := w.heap.size + 1) (e := 5) (w.alloc o) #[.int .u8 x] 1 (by simp) (by unfold maxLen; omega) rfl
  rw [World.size_alloc] at h
  exact h
theorem one_new3 (w : World) (o o' : Obj) (x : Value) (t : TypeId) : ∀ j u, [x][j]? = some u → (((w.alloc o).alloc o').alloc (.cells #[x] t)).cell? ((⟨w.heap.size + 1 + 1, 0, none⟩ : Addr).add j) = some u := by
  have h := cell_one_new ((w.alloc o).alloc o') x t
  simp only [show ((w.alloc o).alloc o').heap.size = w.heap.size + 1 + 1 by simp] at h
  exact h
theorem imm_bd {imm : Int} (i0 : 0 ≤ imm) (i1 : imm < 4294967296) (k : Nat) : 0 ≤ imm / 256 ^ k ∧ imm / 256 ^ k < 4294967296 := by
  have hp : (0 : Int) < 256 ^ k := Int.pow_pos (by decide)
  refine ⟨Int.ediv_nonneg i0 (by omega), Int.lt_of_le_of_lt (Int.ediv_le_self _ i0) i1⟩

set_option maxHeartbeats 4000000 in
theorem rLay_1 (a b imm : Int) (s0 : 0 ≤ a) (s1 : a ≤ 7) (i0 : 0 ≤ imm) (i1 : imm < 4294967296) (w : World) :
    Calls Try.prog 26 #[.agg #[.int .i64 1, .int .i64 a, .int .i64 b, .int .u32 imm]] w fun e w' => e = .returned (.string (strOfNums (1 :: a :: numL imm 4))) ∧ Below w.heap.size w w' := by
  have c1 := two_any 1
  rw [show twoB 1 = false by decide] at c1
  have C1 := Lib.hid c1; clear c1
  have INF := Lib.hid (info_parts u8_info)
  have HX := Lib.hid (Res.new w (.int .i64 1) (.int .i64 a) (.int .i64 b) (.int .u32 imm) 40)
  have HWB := Lib.hid (bel_al (Below.refl w.heap.size w) (.cells #[.int .i64 1, .int .i64 a, .int .i64 b, .int .u32 imm] 40))
  have OWN0 := Lib.hid (own_one w (.cells #[.int .i64 1, .int .i64 a, .int .i64 b, .int .u32 imm] 40) 1)
  go_enter Try.func26, Try.ntmps26
  go_wp2_with (first
    | (at_builtin
       obtain ⟨u0, hu0, hz0, hz1, hz2⟩ := INF.out
       refine wpList_append_own_at _ rfl (.tmp 18) (.tmp 22) _ rfl (w.heap.size + 1) 5 u0 _ 1 1 Try.underlying22 hu0 hz0 hz1 hz2 rfl (by decide) (.slice (some ⟨w.heap.size + 1, 0, none⟩) 1 1) 1 ([1].map (Value.int .u8)) rfl (OWN0.out.alloc _) ⟨w.heap.size + 1 + 1, 0, none⟩ 1 1 [.int .u8 a] rfl rfl (one_new3 _ _ _ _ _) (ints_oneCell .u8 [a]) (by unfold maxLen; omega) (by omega) (by (try simp) <;> omega) ?_
       intro v1 w1 hown hg hnil hat
       have hb1 : Below (w.heap.size + 1) (w.alloc (.cells #[.int .i64 1, .int .i64 a, .int .i64 b, .int .u32 imm] 40)) w1 := ((((Below.refl (w.heap.size + 1) _).alloc (by (try simp) <;> omega) _).alloc (by (try simp) <;> omega) _).grown hg (by (try simp) <;> omega) (fun k hk => (OWN0.out.lt k hk).1))
       have HB1 := Lib.hid hb1
       have KX := HX.out.belowR hb1 (Nat.lt_succ_self _)
       obtain ⟨x0, ⟨x1, x2, x3, x4⟩, _⟩ := KX
       have OWN1 := Lib.hid hown
       have hcv := own_conv (L := [1, a]) hown (by decide)
       clear hown hg hb1 hu0 hz0 hz1 hz2 hnil hat))
  clear x0 x1 x2 x3 x4 hcv
  have HBL := HB1
  have OWNL := OWN1
  go_loopw [3, 4, 5] (fun v n i w' => RLayRel (w.alloc (.cells #[.int .i64 1, .int .i64 a, .int .i64 b, .int .u32 imm] 40)) (w.heap.size + 1) 2 imm [1, a] v n i w') (fun _ _ i _ => 4 - (intOf i).toNat)
  case atStart => exact ⟨0, by omega, rfl, by simp, by simpa [numL] using OWNL.out, HBL.out⟩
  case round =>
    obtain ⟨k, hk, rfl, rfl, hown, hb⟩ := hrel
    have KX := HX.out.belowR hb (Nat.lt_succ_self _)
    obtain ⟨x0, ⟨x1, x2, x3, x4⟩, _⟩ := KX
    by_cases hlt : k < 4
    · have hbd := imm_bd i0 i1 k
      obtain ⟨m0, m1⟩ := hbd
      have OWN := Lib.hid hown; clear hown
      have hbz : w.heap.size + 1 ≤ wr.heap.size := by have := hb.size; simp at this; omega
      have HB := Lib.hid hb; clear hb
      go_wp2_with (first | (at_builtin
                            obtain ⟨u0, hu0, hz0, hz1, hz2⟩ := INF.out
                            refine wpList_append_own_at _ rfl (.tmp 43) (.tmp 47) _ rfl (w.heap.size + 1) 5 u0 _ 1 1 Try.underlying22 hu0 hz0 hz1 hz2 rfl (by decide) u3 (2 + k) _ rfl (OWN.out.alloc _)
                              ⟨wr.heap.size, 0, none⟩ 1 1 [.int .u8 _] rfl rfl (cell_one_new _ _ _) (ints_oneCell .u8 [_]) (by unfold maxLen; omega) (by omega) (by (try simp) <;> omega) ?_
                            intro v4 w4 hown4 hg4 hnil4 hat4
                            clear hu0 hz0 hz1 hz2
                            have OWN4 := Lib.hid hown4; clear hown4))
      exact ⟨rlayRel_step hlt (by simp) HB.out OWN.out hg4 OWN4.out, by simp [intOf]; omega⟩
    · have hkn : k = 4 := by omega
      have hcv := own_conv hown (by omega)
      have HB := Lib.hid hb; clear hb hown
      have HK := Lib.hid hkn; clear hkn
      go_wp2_with (first | (go_at_call 24; refine (C1.out _).mono ?_; rintro e w' ⟨rfl, rfl⟩))
      go_ret
      rw [HK.out]
      exact ⟨rfl, HWB.out.trans (HB.out.mono (by omega))⟩

set_option maxHeartbeats 4000000 in
theorem rLay_20 (a b imm : Int) (s0 : 0 ≤ a) (s1 : a ≤ 7) (i0 : 0 ≤ imm) (i1 : imm < 4294967296) (w : World) :
    Calls Try.prog 26 #[.agg #[.int .i64 20, .int .i64 a, .int .i64 b, .int .u32 imm]] w fun e w' => e = .returned (.string (strOfNums (20 :: a :: numL imm 4))) ∧ Below w.heap.size w w' := by
  have c1 := two_any 20
  rw [show twoB 20 = false by decide] at c1
  have C1 := Lib.hid c1; clear c1
  have INF := Lib.hid (info_parts u8_info)
  have HX := Lib.hid (Res.new w (.int .i64 20) (.int .i64 a) (.int .i64 b) (.int .u32 imm) 40)
  have HWB := Lib.hid (bel_al (Below.refl w.heap.size w) (.cells #[.int .i64 20, .int .i64 a, .int .i64 b, .int .u32 imm] 40))
  have OWN0 := Lib.hid (own_one w (.cells #[.int .i64 20, .int .i64 a, .int .i64 b, .int .u32 imm] 40) 20)
  go_enter Try.func26, Try.ntmps26
  go_wp2_with (first
    | (at_builtin
       obtain ⟨u0, hu0, hz0, hz1, hz2⟩ := INF.out
       refine wpList_append_own_at _ rfl (.tmp 18) (.tmp 22) _ rfl (w.heap.size + 1) 5 u0 _ 1 1 Try.underlying22 hu0 hz0 hz1 hz2 rfl (by decide) (.slice (some ⟨w.heap.size + 1, 0, none⟩) 1 1) 1 ([20].map (Value.int .u8)) rfl (OWN0.out.alloc _) ⟨w.heap.size + 1 + 1, 0, none⟩ 1 1 [.int .u8 a] rfl rfl (one_new3 _ _ _ _ _) (ints_oneCell .u8 [a]) (by unfold maxLen; omega) (by omega) (by (try simp) <;> omega) ?_
       intro v1 w1 hown hg hnil hat
       have hb1 : Below (w.heap.size + 1) (w.alloc (.cells #[.int .i64 20, .int .i64 a, .int .i64 b, .int .u32 imm] 40)) w1 := ((((Below.refl (w.heap.size + 1) _).alloc (by (try simp) <;> omega) _).alloc (by (try simp) <;> omega) _).grown hg (by (try simp) <;> omega) (fun k hk => (OWN0.out.lt k hk).1))
       have HB1 := Lib.hid hb1
       have KX := HX.out.belowR hb1 (Nat.lt_succ_self _)
       obtain ⟨x0, ⟨x1, x2, x3, x4⟩, _⟩ := KX
       have OWN1 := Lib.hid hown
       have hcv := own_conv (L := [20, a]) hown (by decide)
       clear hown hg hb1 hu0 hz0 hz1 hz2 hnil hat))
  clear x0 x1 x2 x3 x4 hcv
  have HBL := HB1
  have OWNL := OWN1
  go_loopw [3, 4, 5] (fun v n i w' => RLayRel (w.alloc (.cells #[.int .i64 20, .int .i64 a, .int .i64 b, .int .u32 imm] 40)) (w.heap.size + 1) 2 imm [20, a] v n i w') (fun _ _ i _ => 4 - (intOf i).toNat)
  case atStart => exact ⟨0, by omega, rfl, by simp, by simpa [numL] using OWNL.out, HBL.out⟩
  case round =>
    obtain ⟨k, hk, rfl, rfl, hown, hb⟩ := hrel
    have KX := HX.out.belowR hb (Nat.lt_succ_self _)
    obtain ⟨x0, ⟨x1, x2, x3, x4⟩, _⟩ := KX
    by_cases hlt : k < 4
    · have hbd := imm_bd i0 i1 k
      obtain ⟨m0, m1⟩ := hbd
      have OWN := Lib.hid hown; clear hown
      have hbz : w.heap.size + 1 ≤ wr.heap.size := by have := hb.size; simp at this; omega
      have HB := Lib.hid hb; clear hb
      go_wp2_with (first | (at_builtin
                            obtain ⟨u0, hu0, hz0, hz1, hz2⟩ := INF.out
                            refine wpList_append_own_at _ rfl (.tmp 43) (.tmp 47) _ rfl (w.heap.size + 1) 5 u0 _ 1 1 Try.underlying22 hu0 hz0 hz1 hz2 rfl (by decide) u3 (2 + k) _ rfl (OWN.out.alloc _)
                              ⟨wr.heap.size, 0, none⟩ 1 1 [.int .u8 _] rfl rfl (cell_one_new _ _ _) (ints_oneCell .u8 [_]) (by unfold maxLen; omega) (by omega) (by (try simp) <;> omega) ?_
                            intro v4 w4 hown4 hg4 hnil4 hat4
                            clear hu0 hz0 hz1 hz2
                            have OWN4 := Lib.hid hown4; clear hown4))
      exact ⟨rlayRel_step hlt (by simp) HB.out OWN.out hg4 OWN4.out, by simp [intOf]; omega⟩
    · have hkn : k = 4 := by omega
      have hcv := own_conv hown (by omega)
      have HB := Lib.hid hb; clear hb hown
      have HK := Lib.hid hkn; clear hkn
      go_wp2_with (first | (go_at_call 24; refine (C1.out _).mono ?_; rintro e w' ⟨rfl, rfl⟩))
      go_ret
      rw [HK.out]
      exact ⟨rfl, HWB.out.trans (HB.out.mono (by omega))⟩

set_option maxHeartbeats 4000000 in
theorem rLay_19 (a b imm : Int) (i0 : 0 ≤ imm) (i1 : imm < 4294967296) (w : World) :
    Calls Try.prog 26 #[.agg #[.int .i64 19, .int .i64 a, .int .i64 b, .int .u32 imm]] w fun e w' => e = .returned (.string (strOfNums (19 :: numL imm 4))) ∧ Below w.heap.size w w' := by
  have c1 := two_any 19
  rw [show twoB 19 = false by decide] at c1
  have C1 := Lib.hid c1; clear c1
  have INF := Lib.hid (info_parts u8_info)
  have HX := Lib.hid (Res.new w (.int .i64 19) (.int .i64 a) (.int .i64 b) (.int .u32 imm) 40)
  have HWB := Lib.hid (bel_al (Below.refl w.heap.size w) (.cells #[.int .i64 19, .int .i64 a, .int .i64 b, .int .u32 imm] 40))
  have OWN0 := Lib.hid (own_one w (.cells #[.int .i64 19, .int .i64 a, .int .i64 b, .int .u32 imm] 40) 19)
  go_enter Try.func26, Try.ntmps26
  go_wp2_with fail
  have HBL := Lib.hid ((Below.refl (w.heap.size + 1) (w.alloc (.cells #[.int .i64 19, .int .i64 a, .int .i64 b, .int .u32 imm] 40))).alloc (by simp) (.cells #[.int .u8 19] 5))
  have OWNL := OWN0
  go_loopw [3, 4, 5] (fun v n i w' => RLayRel (w.alloc (.cells #[.int .i64 19, .int .i64 a, .int .i64 b, .int .u32 imm] 40)) (w.heap.size + 1) 1 imm [19] v n i w') (fun _ _ i _ => 4 - (intOf i).toNat)
  case atStart => exact ⟨0, by omega, rfl, by simp, by simpa [numL] using OWNL.out, HBL.out⟩
  case round =>
    obtain ⟨k, hk, rfl, rfl, hown, hb⟩ := hrel
    have KX := HX.out.belowR hb (Nat.lt_succ_self _)
    obtain ⟨x0, ⟨x1, x2, x3, x4⟩, _⟩ := KX
    by_cases hlt : k < 4
    · have hbd := imm_bd i0 i1 k
      obtain ⟨m0, m1⟩ := hbd
      have OWN := Lib.hid hown; clear hown
      have hbz : w.heap.size + 1 ≤ wr.heap.size := by have := hb.size; simp at this; omega
      have HB := Lib.hid hb; clear hb
      go_wp2_with (first | (at_builtin
                            obtain ⟨u0, hu0, hz0, hz1, hz2⟩ := INF.out
                            refine wpList_append_own_at _ rfl (.tmp 43) (.tmp 47) _ rfl (w.heap.size + 1) 5 u0 _ 1 1 Try.underlying22 hu0 hz0 hz1 hz2 rfl (by decide) u3 (1 + k) _ rfl (OWN.out.alloc _)
                              ⟨wr.heap.size, 0, none⟩ 1 1 [.int .u8 _] rfl rfl (cell_one_new _ _ _) (ints_oneCell .u8 [_]) (by unfold maxLen; omega) (by omega) (by (try simp) <;> omega) ?_
                            intro v4 w4 hown4 hg4 hnil4 hat4
                            clear hu0 hz0 hz1 hz2
                            have OWN4 := Lib.hid hown4; clear hown4))
      exact ⟨rlayRel_step hlt (by simp) HB.out OWN.out hg4 OWN4.out, by simp [intOf]; omega⟩
    · have hkn : k = 4 := by omega
      have hcv := own_conv hown (by omega)
      have HB := Lib.hid hb; clear hb hown
      have HK := Lib.hid hkn; clear hkn
      go_wp2_with (first | (go_at_call 24; refine (C1.out _).mono ?_; rintro e w' ⟨rfl, rfl⟩))
      go_ret
      rw [HK.out]
      exact ⟨rfl, HWB.out.trans (HB.out.mono (by omega))⟩

set_option maxHeartbeats 4000000 in
theorem rLay_two (op a b imm : Int) (ht : 2 ≤ op ∧ op ≤ 16) (s0 : 0 ≤ a) (s1 : a ≤ 7) (s2 : 0 ≤ b) (s3 : b ≤ 7) (i0 : 0 ≤ imm) (i1 : imm < 4294967296) (w : World) :
    Calls Try.prog 26 #[.agg #[.int .i64 op, .int .i64 a, .int .i64 b, .int .u32 imm]] w fun e w' => e = .returned (.string (strOfNums ([op, 16 * a + b]))) ∧ Below w.heap.size w w' := by
  have c1 := two_any op
  have q1 : (op == 1) = false := by simp; omega
  have q2 : (op == 19) = false := by simp; omega
  have q3 : (op == 20) = false := by simp; omega
  have q4 : (op == 22) = false := by simp; omega
  rw [show twoB op = true from decide_eq_true ht] at c1
  have C1 := Lib.hid c1; clear c1
  have INF := Lib.hid (info_parts u8_info)
  have HX := Lib.hid (Res.new w (.int .i64 op) (.int .i64 a) (.int .i64 b) (.int .u32 imm) 40)
  have HWB := Lib.hid (bel_al (Below.refl w.heap.size w) (.cells #[.int .i64 op, .int .i64 a, .int .i64 b, .int .u32 imm] 40))
  have OWN0 := Lib.hid (own_one w (.cells #[.int .i64 op, .int .i64 a, .int .i64 b, .int .u32 imm] 40) op)
  go_enter Try.func26, Try.ntmps26
  go_wp2_with (first
    | (go_at_call 24; refine (C1.out _).mono ?_; rintro e w' ⟨rfl, rfl⟩)
    | (at_builtin
       obtain ⟨u0, hu0, hz0, hz1, hz2⟩ := INF.out
       refine wpList_append_own_at _ rfl (.tmp 69) (.tmp 77) _ rfl (w.heap.size + 1) 5 u0 _ 1 1 Try.underlying22 hu0 hz0 hz1 hz2 rfl (by decide) (.slice (some ⟨w.heap.size + 1, 0, none⟩) 1 1) 1 ([op].map (Value.int .u8)) rfl (OWN0.out.alloc _) ⟨w.heap.size + 1 + 1, 0, none⟩ 1 1 [.int .u8 (16 * a + b)] rfl rfl (one_new3 _ _ _ _ _) (ints_oneCell .u8 [16 * a + b]) (by unfold maxLen; omega) (by omega) (by (try simp) <;> omega) ?_
       intro v1 w1 hown hg hnil hat
       have hb1 : Below (w.heap.size + 1) (w.alloc (.cells #[.int .i64 op, .int .i64 a, .int .i64 b, .int .u32 imm] 40)) w1 := ((((Below.refl (w.heap.size + 1) _).alloc (by (try simp) <;> omega) _).alloc (by (try simp) <;> omega) _).grown hg (by (try simp) <;> omega) (fun k hk => (OWN0.out.lt k hk).1))
       have HB1 := Lib.hid hb1
       have KX := HX.out.belowR hb1 (Nat.lt_succ_self _)
       obtain ⟨x0, ⟨x1, x2, x3, x4⟩, _⟩ := KX
       have OWN1 := Lib.hid hown
       have hcv := own_conv (L := [op, 16 * a + b]) hown (by decide)
       clear hown hg hb1 hu0 hz0 hz1 hz2 hnil hat))
  go_ret
  exact ⟨rfl, HWB.out.trans (HB1.out.mono (by omega))⟩

set_option maxHeartbeats 4000000 in
theorem rLay_17 (a b imm : Int) (s0 : 0 ≤ a) (s1 : a ≤ 7) (s2 : 0 ≤ b) (s3 : b ≤ 7) (i0 : 0 ≤ imm) (i1 : imm < 4294967296) (w : World) :
    Calls Try.prog 26 #[.agg #[.int .i64 17, .int .i64 a, .int .i64 b, .int .u32 imm]] w fun e w' => e = .returned (.string (strOfNums ([17, 16 * a + b]))) ∧ Below w.heap.size w w' := by
  have c1 := two_any 17
  rw [show twoB 17 = false by decide] at c1
  have C1 := Lib.hid c1; clear c1
  have INF := Lib.hid (info_parts u8_info)
  have HX := Lib.hid (Res.new w (.int .i64 17) (.int .i64 a) (.int .i64 b) (.int .u32 imm) 40)
  have HWB := Lib.hid (bel_al (Below.refl w.heap.size w) (.cells #[.int .i64 17, .int .i64 a, .int .i64 b, .int .u32 imm] 40))
  have OWN0 := Lib.hid (own_one w (.cells #[.int .i64 17, .int .i64 a, .int .i64 b, .int .u32 imm] 40) 17)
  go_enter Try.func26, Try.ntmps26
  go_wp2_with (first
    | (go_at_call 24; refine (C1.out _).mono ?_; rintro e w' ⟨rfl, rfl⟩)
    | (at_builtin
       obtain ⟨u0, hu0, hz0, hz1, hz2⟩ := INF.out
       refine wpList_append_own_at _ rfl (.tmp 69) (.tmp 77) _ rfl (w.heap.size + 1) 5 u0 _ 1 1 Try.underlying22 hu0 hz0 hz1 hz2 rfl (by decide) (.slice (some ⟨w.heap.size + 1, 0, none⟩) 1 1) 1 ([17].map (Value.int .u8)) rfl (OWN0.out.alloc _) ⟨w.heap.size + 1 + 1, 0, none⟩ 1 1 [.int .u8 (16 * a + b)] rfl rfl (one_new3 _ _ _ _ _) (ints_oneCell .u8 [16 * a + b]) (by unfold maxLen; omega) (by omega) (by (try simp) <;> omega) ?_
       intro v1 w1 hown hg hnil hat
       have hb1 : Below (w.heap.size + 1) (w.alloc (.cells #[.int .i64 17, .int .i64 a, .int .i64 b, .int .u32 imm] 40)) w1 := ((((Below.refl (w.heap.size + 1) _).alloc (by (try simp) <;> omega) _).alloc (by (try simp) <;> omega) _).grown hg (by (try simp) <;> omega) (fun k hk => (OWN0.out.lt k hk).1))
       have HB1 := Lib.hid hb1
       have KX := HX.out.belowR hb1 (Nat.lt_succ_self _)
       obtain ⟨x0, ⟨x1, x2, x3, x4⟩, _⟩ := KX
       have OWN1 := Lib.hid hown
       have hcv := own_conv (L := [17, 16 * a + b]) hown (by decide)
       clear hown hg hb1 hu0 hz0 hz1 hz2 hnil hat))
  go_ret
  exact ⟨rfl, HWB.out.trans (HB1.out.mono (by omega))⟩

set_option maxHeartbeats 4000000 in
theorem rLay_18 (a b imm : Int) (s0 : 0 ≤ a) (s1 : a ≤ 7) (s2 : 0 ≤ b) (s3 : b ≤ 7) (i0 : 0 ≤ imm) (i1 : imm < 4294967296) (w : World) :
    Calls Try.prog 26 #[.agg #[.int .i64 18, .int .i64 a, .int .i64 b, .int .u32 imm]] w fun e w' => e = .returned (.string (strOfNums ([18, 16 * a + b]))) ∧ Below w.heap.size w w' := by
  have c1 := two_any 18
  rw [show twoB 18 = false by decide] at c1
  have C1 := Lib.hid c1; clear c1
  have INF := Lib.hid (info_parts u8_info)
  have HX := Lib.hid (Res.new w (.int .i64 18) (.int .i64 a) (.int .i64 b) (.int .u32 imm) 40)
  have HWB := Lib.hid (bel_al (Below.refl w.heap.size w) (.cells #[.int .i64 18, .int .i64 a, .int .i64 b, .int .u32 imm] 40))
  have OWN0 := Lib.hid (own_one w (.cells #[.int .i64 18, .int .i64 a, .int .i64 b, .int .u32 imm] 40) 18)
  go_enter Try.func26, Try.ntmps26
  go_wp2_with (first
    | (go_at_call 24; refine (C1.out _).mono ?_; rintro e w' ⟨rfl, rfl⟩)
    | (at_builtin
       obtain ⟨u0, hu0, hz0, hz1, hz2⟩ := INF.out
       refine wpList_append_own_at _ rfl (.tmp 69) (.tmp 77) _ rfl (w.heap.size + 1) 5 u0 _ 1 1 Try.underlying22 hu0 hz0 hz1 hz2 rfl (by decide) (.slice (some ⟨w.heap.size + 1, 0, none⟩) 1 1) 1 ([18].map (Value.int .u8)) rfl (OWN0.out.alloc _) ⟨w.heap.size + 1 + 1, 0, none⟩ 1 1 [.int .u8 (16 * a + b)] rfl rfl (one_new3 _ _ _ _ _) (ints_oneCell .u8 [16 * a + b]) (by unfold maxLen; omega) (by omega) (by (try simp) <;> omega) ?_
       intro v1 w1 hown hg hnil hat
       have hb1 : Below (w.heap.size + 1) (w.alloc (.cells #[.int .i64 18, .int .i64 a, .int .i64 b, .int .u32 imm] 40)) w1 := ((((Below.refl (w.heap.size + 1) _).alloc (by (try simp) <;> omega) _).alloc (by (try simp) <;> omega) _).grown hg (by (try simp) <;> omega) (fun k hk => (OWN0.out.lt k hk).1))
       have HB1 := Lib.hid hb1
       have KX := HX.out.belowR hb1 (Nat.lt_succ_self _)
       obtain ⟨x0, ⟨x1, x2, x3, x4⟩, _⟩ := KX
       have OWN1 := Lib.hid hown
       have hcv := own_conv (L := [18, 16 * a + b]) hown (by decide)
       clear hown hg hb1 hu0 hz0 hz1 hz2 hnil hat))
  go_ret
  exact ⟨rfl, HWB.out.trans (HB1.out.mono (by omega))⟩

set_option maxHeartbeats 4000000 in
theorem rLay_21 (a b imm : Int) (s0 : 0 ≤ a) (s1 : a ≤ 7) (s2 : 0 ≤ b) (s3 : b ≤ 7) (i0 : 0 ≤ imm) (i1 : imm < 4294967296) (w : World) :
    Calls Try.prog 26 #[.agg #[.int .i64 21, .int .i64 a, .int .i64 b, .int .u32 imm]] w fun e w' => e = .returned (.string (strOfNums ([21, 16 * a + b]))) ∧ Below w.heap.size w w' := by
  have c1 := two_any 21
  rw [show twoB 21 = false by decide] at c1
  have C1 := Lib.hid c1; clear c1
  have INF := Lib.hid (info_parts u8_info)
  have HX := Lib.hid (Res.new w (.int .i64 21) (.int .i64 a) (.int .i64 b) (.int .u32 imm) 40)
  have HWB := Lib.hid (bel_al (Below.refl w.heap.size w) (.cells #[.int .i64 21, .int .i64 a, .int .i64 b, .int .u32 imm] 40))
  have OWN0 := Lib.hid (own_one w (.cells #[.int .i64 21, .int .i64 a, .int .i64 b, .int .u32 imm] 40) 21)
  go_enter Try.func26, Try.ntmps26
  go_wp2_with (first
    | (go_at_call 24; refine (C1.out _).mono ?_; rintro e w' ⟨rfl, rfl⟩)
    | (at_builtin
       obtain ⟨u0, hu0, hz0, hz1, hz2⟩ := INF.out
       refine wpList_append_own_at _ rfl (.tmp 69) (.tmp 77) _ rfl (w.heap.size + 1) 5 u0 _ 1 1 Try.underlying22 hu0 hz0 hz1 hz2 rfl (by decide) (.slice (some ⟨w.heap.size + 1, 0, none⟩) 1 1) 1 ([21].map (Value.int .u8)) rfl (OWN0.out.alloc _) ⟨w.heap.size + 1 + 1, 0, none⟩ 1 1 [.int .u8 (16 * a + b)] rfl rfl (one_new3 _ _ _ _ _) (ints_oneCell .u8 [16 * a + b]) (by unfold maxLen; omega) (by omega) (by (try simp) <;> omega) ?_
       intro v1 w1 hown hg hnil hat
       have hb1 : Below (w.heap.size + 1) (w.alloc (.cells #[.int .i64 21, .int .i64 a, .int .i64 b, .int .u32 imm] 40)) w1 := ((((Below.refl (w.heap.size + 1) _).alloc (by (try simp) <;> omega) _).alloc (by (try simp) <;> omega) _).grown hg (by (try simp) <;> omega) (fun k hk => (OWN0.out.lt k hk).1))
       have HB1 := Lib.hid hb1
       have KX := HX.out.belowR hb1 (Nat.lt_succ_self _)
       obtain ⟨x0, ⟨x1, x2, x3, x4⟩, _⟩ := KX
       have OWN1 := Lib.hid hown
       have hcv := own_conv (L := [21, 16 * a + b]) hown (by decide)
       clear hown hg hb1 hu0 hz0 hz1 hz2 hnil hat))
  go_ret
  exact ⟨rfl, HWB.out.trans (HB1.out.mono (by omega))⟩

set_option maxHeartbeats 4000000 in
theorem rLay_22 (a b imm : Int) (s0 : imm ≤ 255) (i0 : 0 ≤ imm) (i1 : imm < 4294967296) (w : World) :
    Calls Try.prog 26 #[.agg #[.int .i64 22, .int .i64 a, .int .i64 b, .int .u32 imm]] w fun e w' => e = .returned (.string (strOfNums ([22, imm]))) ∧ Below w.heap.size w w' := by
  have c1 := two_any 22
  rw [show twoB 22 = false by decide] at c1
  have C1 := Lib.hid c1; clear c1
  have INF := Lib.hid (info_parts u8_info)
  have HX := Lib.hid (Res.new w (.int .i64 22) (.int .i64 a) (.int .i64 b) (.int .u32 imm) 40)
  have HWB := Lib.hid (bel_al (Below.refl w.heap.size w) (.cells #[.int .i64 22, .int .i64 a, .int .i64 b, .int .u32 imm] 40))
  have OWN0 := Lib.hid (own_one w (.cells #[.int .i64 22, .int .i64 a, .int .i64 b, .int .u32 imm] 40) 22)
  go_enter Try.func26, Try.ntmps26
  go_wp2_with (first
    | (go_at_call 24; refine (C1.out _).mono ?_; rintro e w' ⟨rfl, rfl⟩)
    | (at_builtin
       obtain ⟨u0, hu0, hz0, hz1, hz2⟩ := INF.out
       refine wpList_append_own_at _ rfl (.tmp 82) (.tmp 86) _ rfl (w.heap.size + 1) 5 u0 _ 1 1 Try.underlying22 hu0 hz0 hz1 hz2 rfl (by decide) (.slice (some ⟨w.heap.size + 1, 0, none⟩) 1 1) 1 ([22].map (Value.int .u8)) rfl (OWN0.out.alloc _) ⟨w.heap.size + 1 + 1, 0, none⟩ 1 1 [.int .u8 imm] rfl rfl (one_new3 _ _ _ _ _) (ints_oneCell .u8 [imm]) (by unfold maxLen; omega) (by omega) (by (try simp) <;> omega) ?_
       intro v1 w1 hown hg hnil hat
       have hb1 : Below (w.heap.size + 1) (w.alloc (.cells #[.int .i64 22, .int .i64 a, .int .i64 b, .int .u32 imm] 40)) w1 := ((((Below.refl (w.heap.size + 1) _).alloc (by (try simp) <;> omega) _).alloc (by (try simp) <;> omega) _).grown hg (by (try simp) <;> omega) (fun k hk => (OWN0.out.lt k hk).1))
       have HB1 := Lib.hid hb1
       have KX := HX.out.belowR hb1 (Nat.lt_succ_self _)
       obtain ⟨x0, ⟨x1, x2, x3, x4⟩, _⟩ := KX
       have OWN1 := Lib.hid hown
       have hcv := own_conv (L := [22, imm]) hown (by decide)
       clear hown hg hb1 hu0 hz0 hz1 hz2 hnil hat))
  go_ret
  exact ⟨rfl, HWB.out.trans (HB1.out.mono (by omega))⟩

set_option maxHeartbeats 4000000 in
theorem rLay_0 (a b imm : Int) (i0 : 0 ≤ imm) (i1 : imm < 4294967296) (w : World) :
    Calls Try.prog 26 #[.agg #[.int .i64 0, .int .i64 a, .int .i64 b, .int .u32 imm]] w fun e w' => e = .returned (.string (strOfNums ([0]))) ∧ Below w.heap.size w w' := by
  have c1 := two_any 0
  rw [show twoB 0 = false by decide] at c1
  have C1 := Lib.hid c1; clear c1
  have INF := Lib.hid (info_parts u8_info)
  have HX := Lib.hid (Res.new w (.int .i64 0) (.int .i64 a) (.int .i64 b) (.int .u32 imm) 40)
  have HWB := Lib.hid (bel_al (Below.refl w.heap.size w) (.cells #[.int .i64 0, .int .i64 a, .int .i64 b, .int .u32 imm] 40))
  have OWN0 := Lib.hid (own_one w (.cells #[.int .i64 0, .int .i64 a, .int .i64 b, .int .u32 imm] 40) 0)
  go_enter Try.func26, Try.ntmps26
  have hcv := own_conv (L := [0]) OWN0.out (by decide)
  go_wp2_with (first | (go_at_call 24; refine (C1.out _).mono ?_; rintro e w' ⟨rfl, rfl⟩))
  go_ret
  exact ⟨rfl, bel_al (bel_al (Below.refl _ _) _) _⟩

set_option maxHeartbeats 4000000 in
theorem rLay_23 (a b imm : Int) (i0 : 0 ≤ imm) (i1 : imm < 4294967296) (w : World) :
    Calls Try.prog 26 #[.agg #[.int .i64 23, .int .i64 a, .int .i64 b, .int .u32 imm]] w fun e w' => e = .returned (.string (strOfNums ([23]))) ∧ Below w.heap.size w w' := by
  have c1 := two_any 23
  rw [show twoB 23 = false by decide] at c1
  have C1 := Lib.hid c1; clear c1
  have INF := Lib.hid (info_parts u8_info)
  have HX := Lib.hid (Res.new w (.int .i64 23) (.int .i64 a) (.int .i64 b) (.int .u32 imm) 40)
  have HWB := Lib.hid (bel_al (Below.refl w.heap.size w) (.cells #[.int .i64 23, .int .i64 a, .int .i64 b, .int .u32 imm] 40))
  have OWN0 := Lib.hid (own_one w (.cells #[.int .i64 23, .int .i64 a, .int .i64 b, .int .u32 imm] 40) 23)
  go_enter Try.func26, Try.ntmps26
  have hcv := own_conv (L := [23]) OWN0.out (by decide)
  go_wp2_with (first | (go_at_call 24; refine (C1.out _).mono ?_; rintro e w' ⟨rfl, rfl⟩))
  go_ret
  exact ⟨rfl, bel_al (bel_al (Below.refl _ _) _) _⟩

theorem rLay_any (op a b imm : Int) (hr : rightB op a b imm = true) (i0 : 0 ≤ imm) (i1 : imm < 4294967296) (w : World) :
    Calls Try.prog 26 #[.agg #[.int .i64 op, .int .i64 a, .int .i64 b, .int .u32 imm]] w fun e w' => e = .returned (.string (strOfNums (layL op a b imm))) ∧ Below w.heap.size w w' := by
  have hL := layL_ok hr
  obtain ⟨_, hf⟩ := (rightB_iff _ _ _ _).1 hr
  rw [fitsB_iff] at hf
  obtain ⟨a0, a1, b0, b1, hm⟩ := hf
  rw [hL]
  rcases op_cases op with h | h | rfl | rfl | rfl | rfl | rfl | rfl | rfl | rfl | rfl
  · have e1 : fU op = 16 := by unfold fU; rw [if_neg (by omega), if_pos (by omega)]
    have e2 : fN op = 0 := by unfold fN; rw [if_neg (by omega), if_neg (by omega)]
    have e3 : fA op = 7 := by unfold fA; rw [if_pos (by omega)]
    have e4 : fB op = 7 := by unfold fB; rw [if_pos (by omega)]
    rw [e1, e2, show layF op 16 0 a b imm = [op, 16 * a + b] by unfold layF; rw [Int.mul_comm]; rfl]
    exact rLay_two op a b imm h a0 (by omega) b0 (by omega) i0 i1 w
  · rw [right_none h] at hr; cases hr
  · exact rLay_0 a b imm i0 i1 w
  · exact rLay_1 a b imm a0 a1 i0 i1 w |> cast (by rw [show fU 1 = 1 by decide, show fN 1 = 4 by decide, show layF 1 1 4 a b imm = 1 :: a :: numL imm 4 by
      have : b = 0 := by have : fB 1 = 0 := by decide
                         omega
      unfold layF; rw [if_pos (by decide), this, Int.mul_one, Int.add_zero]; rfl])
  · exact rLay_17 a b imm a0 a1 b0 (by have : fB 17 = 0 := by decide
                                       omega) i0 i1 w |> cast (by rw [show fU 17 = 16 by decide, show fN 17 = 0 by decide, show layF 17 16 0 a b imm = [17, 16 * a + b] by unfold layF; rw [Int.mul_comm]; rfl])
  · exact rLay_18 a b imm a0 a1 b0 (by have : fB 18 = 0 := by decide
                                       omega) i0 i1 w |> cast (by rw [show fU 18 = 16 by decide, show fN 18 = 0 by decide, show layF 18 16 0 a b imm = [18, 16 * a + b] by unfold layF; rw [Int.mul_comm]; rfl])
  · exact rLay_19 a b imm i0 i1 w
  · exact rLay_20 a b imm a0 a1 i0 i1 w |> cast (by rw [show fU 20 = 1 by decide, show fN 20 = 4 by decide, show layF 20 1 4 a b imm = 20 :: a :: numL imm 4 by
      have : b = 0 := by have : fB 20 = 0 := by decide
                         omega
      unfold layF; rw [if_pos (by decide), this, Int.mul_one, Int.add_zero]; rfl])
  · exact rLay_21 a b imm a0 a1 b0 (by have : fB 21 = 0 := by decide
                                       omega) i0 i1 w |> cast (by rw [show fU 21 = 16 by decide, show fN 21 = 0 by decide, show layF 21 16 0 a b imm = [21, 16 * a + b] by unfold layF; rw [Int.mul_comm]; rfl])
  · have hi : imm ≤ 255 := by
      have : (256 : Int) ^ (fN 22).toNat = 256 := by decide
      omega
    exact rLay_22 a b imm hi i0 i1 w |> cast (by rw [show fU 22 = 0 by decide, show fN 22 = 1 by decide, show layF 22 0 1 a b imm = [22, imm] by
      unfold layF
      rw [if_neg (by decide), show (1 : Int).toNat = 1 from rfl, numL_one, show imm % 256 = imm by omega]; rfl])
  · exact rLay_23 a b imm i0 i1 w
end Go.Proofs.Ytcfdebamokcjkaa
