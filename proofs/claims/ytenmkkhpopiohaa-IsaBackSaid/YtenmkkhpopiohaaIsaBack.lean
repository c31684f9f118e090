/- The statement IsaBack, walked. -/
import Derived.Test.YtenmkkhpopiohaaIsaBase
import Derived.Lib.ConvBytes
namespace Go.Proofs.Ytenmkkhpopiohaa
open Go.ChangeShapes Go.WideShapes Go.ChangeAt Go.RowKit
set_option linter.unusedVariables false

theorem conv_bytes (w : World) (s : ByteArray) : (convert 9 30 (.string s)).run Try.prog w = .ok (.slice (some ⟨w.heap.size, 0, none⟩) s.size (grownCap w s.size 0 5)) (Lib.bytesWorld w 5 s) :=
  Lib.run_convert_string_bytes w 9 30 5 s Try.underlying9 Try.underlying30 Try.underlying5
theorem conv_below (w : World) (s : ByteArray) : Below w.heap.size w (Lib.bytesWorld w 5 s) :=
  ⟨rfl, rfl, rfl, by rw [Lib.bytesWorld_size]; omega, fun k hk => Lib.bytesWorld_at_old w 5 s k hk⟩
theorem conv_row (w : World) (s : ByteArray) (hs : s.size ≤ 20000) : RowAt (Lib.bytesWorld w 5 s) (some ⟨w.heap.size, 0, none⟩) (grownCap w s.size 0 5) (nums s) := by
  refine ⟨by rw [nums_len]; exact grownCap_ge _ _ _ _, grownCap_le_maxLen _ _ _ _ (by unfold maxLen; omega), nums_byte s, fun _ => ⟨_, rfl, by rw [Lib.bytesWorld_size]; exact Nat.lt_succ_self _, fun i hi => ?_⟩⟩
  rw [nums_len] at hi
  have e : (⟨w.heap.size, 0, none⟩ : Addr).add i = ⟨w.heap.size, i, none⟩ := by unfold Addr.add; split <;> simp_all
  rw [e, Lib.bytesWorld_cell _ _ _ _ hi]
  have hi' : i < s.data.toList.length := by simpa using hi
  simp [nums, List.getD, List.getElem?_eq_getElem hi']

theorem back_n (op a b imm : Int) (u v s : ByteArray) (hu : u.size ≤ 5000) (hv : v.size ≤ 5000)
    (c1 : ∀ w, Calls Try.prog 10 #[.agg #[.int .i64 op, .int .i64 a, .int .i64 b, .int .u32 imm]] w fun e w' => e = .returned (.string s) ∧ Below w.heap.size w w')
    (c2 : ∀ w, Calls Try.prog 11 #[.agg #[.int .i64 op, .int .i64 a, .int .i64 b, .int .u32 imm]] w fun e w' => e = .returned (.bool true) ∧ Below w.heap.size w w')
    (hs : s.size ≤ 6) (hs1 : 1 ≤ s.size)
    (c3 : ∀ w : World, Calls Try.prog 12 #[.slice (some ⟨w.heap.size, 0, none⟩) (u.size + s.size + v.size) (grownCap w (u.size + s.size + v.size) 0 5), .int .i64 u.size] (Lib.bytesWorld w 5 (u ++ s ++ v))
      fun e w' => e = .returned (.tuple #[.agg #[.int .i64 op, .int .i64 a, .int .i64 b, .int .u32 imm], .int .i64 s.size]) ∧ Below (Lib.bytesWorld w 5 (u ++ s ++ v)).heap.size (Lib.bytesWorld w 5 (u ++ s ++ v)) w')
    (c4 : ∀ (w : World) (g : Nat), g = w.heap.size → Calls Try.prog 12 #[.slice (some ⟨g, 0, none⟩) s.size (grownCap w s.size 0 5), .int .i64 s.size] (Lib.bytesWorld w 5 s)
      fun e w' => e = .returned (.tuple #[.agg #[.int .i64 0, .int .i64 0, .int .i64 0, .int .u32 0], .int .i64 0]) ∧ Below (Lib.bytesWorld w 5 s).heap.size (Lib.bytesWorld w 5 s) w')
    (c5 : ∀ (w : World) (g : Nat), g = w.heap.size → Calls Try.prog 12 #[.slice (some ⟨g, 0, none⟩) (s.size - 1) (grownCap w (s.size - 1) 0 5), .int .i64 0] (Lib.bytesWorld w 5 (s.extract 0 (s.size - 1)))
      fun e w' => e = .returned (.tuple #[.agg #[.int .i64 0, .int .i64 0, .int .i64 0, .int .u32 0], .int .i64 0]) ∧ Below (Lib.bytesWorld w 5 (s.extract 0 (s.size - 1))).heap.size (Lib.bytesWorld w 5 (s.extract 0 (s.size - 1))) w')
    (c6 : ∀ w, Calls Try.prog 13 #[.int .i64 op] w fun e w' => e = .returned (.int .i64 s.size) ∧ Below w.heap.size w w')
    (w : World) :
    Calls Try.prog 3 #[.agg #[.int .i64 op, .int .i64 a, .int .i64 b, .int .u32 imm], .string u, .string v] w fun e w' => e = .returned (.bool true) ∧ Below w.heap.size w w' := by
  have C1 := Lib.hid c1; clear c1
  have C2 := Lib.hid c2; clear c2
  have C3 := Lib.hid c3; clear c3
  have C4 := Lib.hid c4; clear c4
  have C5 := Lib.hid c5; clear c5
  have C6 := Lib.hid c6; clear c6
  have hcv := conv_bytes
  go_enter Try.func3, Try.ntmps3
  go_wp2_with fail
  refine (awake_any _).mono ?_; rintro e w1 ⟨rfl, hb1⟩
  have K1 := (Res.new w (.int .i64 op) (.int .i64 a) (.int .i64 b) (.int .u32 imm) 24).below hb1
  have HK1 := Lib.hid K1
  have HB1 := Lib.hid (bel_then (bel_al (Below.refl w.heap.size w) _) hb1)
  clear hb1
  obtain ⟨x0, ⟨x1, x2, x3, x4⟩, _⟩ := K1
  go_wp2_with fail
  refine (C1.out _).mono ?_; rintro e w2 ⟨rfl, hb2⟩
  clear x0 x1 x2 x3 x4
  have K2 := HK1.out.below hb2
  have HK2 := Lib.hid K2
  have HB2 := Lib.hid (bel_then HB1.out hb2)
  clear hb2 HK1 HB1
  obtain ⟨x0, ⟨x1, x2, x3, x4⟩, _⟩ := K2
  go_wp2_with fail
  refine (C2.out _).mono ?_; rintro e w3 ⟨rfl, hb3⟩
  clear x0 x1 x2 x3 x4
  have HK3 := Lib.hid (HK2.out.below hb3)
  have HB3 := Lib.hid (bel_then HB2.out hb3)
  clear hb3 HK2 HB2
  go_wp2_with fail
  refine (C3.out _).mono ?_; rintro e w4 ⟨rfl, hb4⟩
  have HK4 := Lib.hid ((HK3.out.below (conv_below _ _)).below hb4)
  have HB4 := Lib.hid (bel_then (bel_then HB3.out (conv_below _ _)) hb4)
  clear hb4 HK3 HB3
  go_wp2_with fail
  have HY5 := Lib.hid (Res.new w4 (.int .i64 op) (.int .i64 a) (.int .i64 b) (.int .u32 imm) 24)
  have HK5 := Lib.hid (HK4.out.alloc (.cells #[.int .i64 op, .int .i64 a, .int .i64 b, .int .u32 imm] 24))
  have HB5 := Lib.hid (bel_al HB4.out (.cells #[.int .i64 op, .int .i64 a, .int .i64 b, .int .u32 imm] 24))
  clear HK4 HB4
  refine (C4.out _ _ (by simp)).mono ?_; rintro e w6 ⟨rfl, hb6⟩
  have HY6 := Lib.hid ((HY5.out.below (conv_below _ _)).below hb6)
  have HK6 := Lib.hid ((HK5.out.below (conv_below _ _)).below hb6)
  have HB6 := Lib.hid (bel_then (bel_then HB5.out (conv_below _ _)) hb6)
  clear hb6 HK5 HB5 HY5
  go_wp2_with fail
  have HY7 := Lib.hid (HY6.out.alloc (.cells #[.int .i64 0, .int .i64 0, .int .i64 0, .int .u32 0] 24))
  have HK7 := Lib.hid (HK6.out.alloc (.cells #[.int .i64 0, .int .i64 0, .int .i64 0, .int .u32 0] 24))
  have HB7 := Lib.hid (bel_al HB6.out (.cells #[.int .i64 0, .int .i64 0, .int .i64 0, .int .u32 0] 24))
  clear HK6 HB6 HY6
  refine (C5.out _ _ (by simp)).mono ?_; rintro e w8 ⟨rfl, hb8⟩
  have KY := (HY7.out.below (conv_below _ _)).below hb8
  have KX := (HK7.out.below (conv_below _ _)).below hb8
  have HB8 := Lib.hid (bel_then (bel_then HB7.out (conv_below _ _)) hb8)
  clear hb8 HK7 HB7 HY7
  obtain ⟨x0, ⟨x1, x2, x3, x4⟩, _⟩ := KX
  obtain ⟨y0, ⟨y1, y2, y3, y4⟩, _⟩ := KY
  go_wp2_with fail
  refine (C6.out _).mono ?_; rintro e w9 ⟨rfl, hb9⟩
  have HB9 := Lib.hid (bel_then (bel_al HB8.out (.cells #[.int .i64 0, .int .i64 0, .int .i64 0, .int .u32 0] 24)) hb9)
  clear hb9 x0 x1 x2 x3 x4 y0 y1 y2 y3 y4
  go_wp2_with fail
  go_ret
  exact ⟨rfl, HB9.out⟩

/-- what is too long is not asked -/
theorem back_long (op a b imm : Int) (u v : ByteArray) (hu : u.size ≤ maxLen) (hv : v.size ≤ maxLen) (h : 5000 < u.size ∨ (u.size ≤ 5000 ∧ 5000 < v.size)) (w : World) :
    Calls Try.prog 3 #[.agg #[.int .i64 op, .int .i64 a, .int .i64 b, .int .u32 imm], .string u, .string v] w fun e w' => e = .returned (.bool true) ∧ Below w.heap.size w w' := by
  unfold maxLen at hu hv
  rcases h with h | ⟨h, h'⟩
  all_goals
    go_enter Try.func3, Try.ntmps3
    go_wp2_with fail
    refine (awake_any _).mono ?_; rintro e w1 ⟨rfl, hb1⟩
    go_wp2_with fail
    refine (awake_any _).mono ?_; rintro e w2 ⟨rfl, hb2⟩
    go_wp2_with fail
    go_ret
    exact ⟨rfl, bel_then (bel_then (bel_al (Below.refl _ _) _) hb1) hb2⟩

/-- what isn't right has no bytes -/
theorem back_wrong (op a b imm : Int) (u v : ByteArray) (hu : u.size ≤ 5000) (hv : v.size ≤ 5000)
    (c1 : ∀ w, Calls Try.prog 10 #[.agg #[.int .i64 op, .int .i64 a, .int .i64 b, .int .u32 imm]] w fun e w' => e = .returned (.string ⟨#[]⟩) ∧ Below w.heap.size w w')
    (c2 : ∀ w, Calls Try.prog 11 #[.agg #[.int .i64 op, .int .i64 a, .int .i64 b, .int .u32 imm]] w fun e w' => e = .returned (.bool false) ∧ Below w.heap.size w w') (w : World) :
    Calls Try.prog 3 #[.agg #[.int .i64 op, .int .i64 a, .int .i64 b, .int .u32 imm], .string u, .string v] w fun e w' => e = .returned (.bool true) ∧ Below w.heap.size w w' := by
  have C1 := Lib.hid c1; clear c1
  have C2 := Lib.hid c2; clear c2
  go_enter Try.func3, Try.ntmps3
  go_wp2_with fail
  refine (awake_any _).mono ?_; rintro e w1 ⟨rfl, hb1⟩
  have K1 := (Res.new w (.int .i64 op) (.int .i64 a) (.int .i64 b) (.int .u32 imm) 24).below hb1
  have HK1 := Lib.hid K1
  have HB1 := Lib.hid (bel_then (bel_al (Below.refl w.heap.size w) _) hb1)
  clear hb1
  obtain ⟨x0, ⟨x1, x2, x3, x4⟩, _⟩ := K1
  go_wp2_with fail
  refine (C1.out _).mono ?_; rintro e w2 ⟨rfl, hb2⟩
  clear x0 x1 x2 x3 x4
  have K2 := HK1.out.below hb2
  have HB2 := Lib.hid (bel_then HB1.out hb2)
  clear hb2 HK1 HB1
  obtain ⟨x0, ⟨x1, x2, x3, x4⟩, _⟩ := K2
  go_wp2_with fail
  refine (C2.out _).mono ?_; rintro e w3 ⟨rfl, hb3⟩
  clear x0 x1 x2 x3 x4
  go_wp2_with fail
  go_ret
  exact ⟨rfl, bel_then HB2.out hb3⟩

theorem nums_append (s t : ByteArray) : nums (s ++ t) = nums s ++ nums t := by
  unfold nums
  rw [ByteArray.data_append, Array.toList_append, List.map_append]

theorem isaBack_walk (op a b imm : Int) (u v : ByteArray) (w : World) (w1 : (Lit.int .i64 op).wf = true) (w2 : (Lit.int .i64 a).wf = true) (w3 : (Lit.int .i64 b).wf = true) (w4 : (Lit.int .u32 imm).wf = true) (hu : u.size ≤ maxLen) (hv : v.size ≤ maxLen) :
    Calls Try.prog 3 #[.agg #[.int .i64 op, .int .i64 a, .int .i64 b, .int .u32 imm], .string u, .string v] w fun e w' => e = .returned (.bool true) ∧ Below w.heap.size w w' := by
  obtain ⟨i0, i1⟩ := bounds_u32 w4
  by_cases h : 5000 < u.size ∨ (u.size ≤ 5000 ∧ 5000 < v.size)
  · exact back_long op a b imm u v hu hv h w
  have hu5 : u.size ≤ 5000 := by omega
  have hv5 : v.size ≤ 5000 := by omega
  have c1 := Lay_any op a b imm i0 (by omega)
  have c2 := Right_any op a b imm i0 (by omega)
  cases hr : rightB op a b imm
  · rw [hr] at c2
    rw [layL_no hr] at c1
    exact back_wrong op a b imm u v hu5 hv5 c1 c2 w
  · rw [hr] at c2
    have hlen := layL_len hr
    have hp := szO_pos ((rightB_iff _ _ _ _).1 hr).1
    have hq := (szO_bd op).2
    have hL := layL_byte op a b imm
    have hsz : (strOfNums (layL op a b imm)).size = (layL op a b imm).length := strOfNums_size _
    have hn : nums (strOfNums (layL op a b imm)) = layL op a b imm := nums_str _ hL
    have hrd := rd_of_lay op a b imm hr i0
    generalize hS : strOfNums (layL op a b imm) = S at *
    have e6 : szO op = (S.size : Int) := by omega
    refine back_n op a b imm u v S hu5 hv5 c1 c2 (by omega) (by omega) (fun W => ?_) (fun W g hg => ?_) (fun W g hg => ?_) (fun W => ?_) w
    · have hr := conv_row W (u ++ S ++ v) (by rw [ByteArray.size_append, ByteArray.size_append]; omega)
      have hl : (nums (u ++ S ++ v)).length = u.size + S.size + v.size := by rw [nums_len, ByteArray.size_append, ByteArray.size_append]
      have := Read_yes (nums (u ++ S ++ v)) _ _ u.size op a b imm (szO op) (by omega) (by
        rw [nums_append, nums_append, List.append_assoc, List.drop_left' (nums_len u), hn]; exact hrd _) _ hr
      rw [hl, ByteArray.size_append, ByteArray.size_append] at this
      rw [← e6]
      exact this
    · subst hg
      have hr := conv_row W S (by omega)
      have := Read_no (nums S) _ _ S.size (by rw [nums_len]; omega) (by right; left; rw [nums_len]; omega) _ hr
      rw [nums_len] at this
      exact this
    · subst hg
      have hz : (S.extract 0 (S.size - 1)).size = S.size - 1 := by rw [ByteArray.size_extract]; omega
      have hr := conv_row W (S.extract 0 (S.size - 1)) (by omega)
      have hno : rdB ((nums (S.extract 0 (S.size - 1))).drop (0 : Int).toNat) = false := by
        show rdB (nums (S.extract 0 (S.size - 1))) = false
        rw [nums_extract, hn]
        rcases rd_or ((layL op a b imm).take (S.size - 1)) with h | ⟨op', a', b', imm', n', h⟩
        · exact h
        · exfalso
          have hb' : Bytes ((layL op a b imm).take (S.size - 1)) := fun x hx => hL x (List.mem_of_mem_take hx)
          have hm := rd_more hb' h ((layL op a b imm).drop (S.size - 1))
          rw [List.take_append_drop] at hm
          have hq := hrd []
          rw [List.append_nil] at hq
          obtain ⟨_, _, _, _, e⟩ := rd_fun hm hq
          obtain ⟨_, _, _, _, _, hle, _⟩ := lay_of_rd _ _ _ _ _ _ hb' h
          rw [List.length_take] at hle
          omega
      have := Read_no (nums (S.extract 0 (S.size - 1))) _ _ 0 (by rw [nums_len, hz]; omega) (.inr (.inr hno)) _ hr
      rw [nums_len, hz] at this
      exact this
    · rw [← e6]; exact Size_any op W
end Go.Proofs.Ytenmkkhpopiohaa
