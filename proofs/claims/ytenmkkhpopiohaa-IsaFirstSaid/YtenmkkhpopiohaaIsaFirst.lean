/- The statement IsaFirst, walked. -/
import Derived.Test.YtenmkkhpopiohaaIsaRow
namespace Go.Proofs.Ytenmkkhpopiohaa
open Go.ChangeShapes Go.WideShapes Go.ChangeAt Go.RowKit
set_option linter.unusedVariables false

/-- a row of the call's own, as a slice that reads as a list -/
theorem row_of_own {w : World} {base n : Nat} {v : Value} {L : List Int} (h : w.ownsRow base 5 1 v n (L.map (Value.int .u8))) (hb : Bytes L) : ∃ A cap, v = .slice A n cap ∧ n = L.length ∧ RowAt w A cap L := by
  have hl : L.length = n := by have := h.1; simpa using this
  rcases h.2 with ⟨rfl, rfl⟩ | ⟨g, cap, cur, rfl, _, hh, hc, hm, _⟩
  · have : L = [] := List.eq_nil_of_length_eq_zero hl
    subst this
    exact ⟨none, 0, rfl, rfl, Nat.le_refl _, Nat.zero_le _, hb, fun h => absurd rfl h⟩
  · refine ⟨_, cap, rfl, hl.symm, by omega, hm, hb, fun hne => ⟨_, rfl, ?_, fun i hi => ?_⟩⟩
    · have := h.lt g rfl; exact this.2
    · exact h.cells (g := g) rfl i (.int .u8 (L.getD i 0)) (by simp [List.getElem?_eq_getElem hi, List.getD])

theorem append_nil_run {w : World} {base : Nat} {ty : TypeId} {v : Value} {n : Nat} {xs : List Value} (hown : w.ownsRow base 5 1 v n xs) (c : Nat) :
    (Builtin.append_ #[30, 30] ty #[v, .slice none 0 c]).run Try.prog w = .ok v w := by
  obtain ⟨u0, hu0, hz0, hz1, hz2⟩ := info_parts u8_info
  rcases hown.2 with ⟨rfl, rfl⟩ | ⟨g, cap, cur, rfl, _, _, hnc, _⟩
  · simp [Builtin.append_, run_underlying Try.underlying30, sizeOf, typeInfo, hu0, Builtin.lenOf, Builtin.firstCells]
  · simp [Builtin.append_, run_underlying Try.underlying30, sizeOf, typeInfo, hu0, Builtin.lenOf, Builtin.firstCells, hnc, storeCells]

/-- bytes that read as a list, put behind a row of the call's own -/
theorem append_row {w : World} {ops : Array Oper} {rest : List Oper} {o : Oper} {a : Act} {Q : Exit → Act → World → Prop} (hgd : o.guard = none) (s x : Operand)
    (ho : o.op = .call { callee := .builtin .append, args := #[s, x], argTypes := #[30, 30] })
    (base : Nat) (v : Value) (n : Nat) (L : List Int) (hs : a.eval s = v) (hown : w.ownsRow base 5 1 v n (L.map (Value.int .u8))) (hL : Bytes L)
    (A : Option Addr) (m c : Nat) (M : List Int) (hx : a.eval x = .slice A m c) (hm : m = M.length) (cap : Nat) (hr : RowAt w A cap M) (n' : Nat) (hn' : n' = n + m) (hlen : n + m ≤ 1000000) (hbase : base ≤ w.heap.size)
    (h : ∀ A' cap' w', w'.ownsRow base 5 1 (.slice A' n' cap') n' ((L ++ M).map (Value.int .u8)) → RowAt w' A' cap' (L ++ M) → Below base w w' → wpList Try.prog ops Q rest (a.put o.dst (.slice A' n' cap')) w') :
    wpList Try.prog ops Q (o :: rest) a w := by
  subst hn'
  obtain ⟨u0, hu0, hz0, hz1, hz2⟩ := info_parts u8_info
  have hLM : Bytes (L ++ M) := fun z hz => by
    rcases List.mem_append.1 hz with h | h
    · exact hL z h
    · exact hr.2.2.1 z h
  cases A with
  | none =>
    have hM : M = [] := by
      by_cases hne : M = []
      · exact hne
      · obtain ⟨ad, h, _⟩ := hr.2.2.2 hne; cases h
    subst hM
    subst hm
    refine wpList_plain hgd fun K hK => ?_
    unfold Oper.wp execOp
    simp only [ho, resolve, invoke, builtin, Sem.run_bind, Sem.run_pure, Result.andThen_ok, List.map_toArray, List.map_cons, List.map_nil, hs, hx, List.length_nil, append_nil_run hown c]
    have hown' : w.ownsRow base 5 1 v (n + 0) ((L ++ []).map (Value.int .u8)) := by simpa using hown
    obtain ⟨A', cap', rfl, _, hrow⟩ := row_of_own hown' hLM
    exact hK _ _ (h A' cap' w hown' hrow (Below.refl _ _))
  | some ad =>
    refine wpList_append_own_at w hgd s x 30 ho base 5 u0 _ 1 1 Try.underlying30 hu0 hz0 hz1 hz2 rfl (by decide) v n (L.map (Value.int .u8)) hs hown ad m c (M.map (Value.int .u8)) hx (by simp [hm])
      (fun j u hj => ?_) (ints_oneCell .u8 M) (by unfold maxLen; omega) (by omega) hbase ?_
    · have hjl : j < M.length := by
        rcases Nat.lt_or_ge j M.length with h | h
        · exact h
        · rw [List.getElem?_eq_none (by simpa using h)] at hj; cases hj
      obtain ⟨ad', e, _, hc⟩ := hr.2.2.2 (by intro h; subst h; simp at hjl)
      injection e with e; subst e
      rw [hc j hjl]
      simp [List.getElem?_eq_getElem hjl] at hj
      subst hj
      simp [List.getD, List.getElem?_eq_getElem hjl]
    · intro v' w' hown' hg _ _
      rw [← List.map_append] at hown'
      obtain ⟨A', cap', rfl, _, hrow⟩ := row_of_own hown' hLM
      exact h A' cap' w' hown' hrow ((Below.refl base w).grown hg hbase (fun k hk => (hown.lt k hk).1))

theorem row_take {w : World} {A : Option Addr} {cap : Nat} {l : List Int} (h : RowAt w A cap l) (m : Nat) : RowAt w A cap (l.take m) := by
  obtain ⟨h1, h2, h3, h4⟩ := h
  refine ⟨Nat.le_trans (by rw [List.length_take]; omega) h1, h2, fun z hz => h3 z (List.mem_of_mem_take hz), fun hne => ?_⟩
  obtain ⟨x, rfl, hx, hc⟩ := h4 (by intro h; subst h; simp at hne)
  refine ⟨x, rfl, hx, fun i hi => ?_⟩
  rw [List.length_take] at hi
  rw [hc i (by omega)]
  simp [List.getD, show i < m by omega]

theorem own_empty (w : World) (o : Obj) : ((w.alloc o).alloc (.cells #[] 5)).ownsRow (w.heap.size + 1) 5 1 (.slice (some ⟨w.heap.size + 1, 0, none⟩) 0 0) 0 (([] : List Int).map (Value.int .u8)) := by
  have h := World.ownsRow_lit (size := 1) (base := w.heap.size + 1) (e := 5) (w.alloc o) #[] 0 (by simp) (by unfold maxLen; omega) rfl
  rw [World.size_alloc] at h
  exact h
theorem Res.belowB {w w' : World} {g B : Nat} {a b c d : Value} (h : Res w g a b c d) (hb : Below B w w') (hg : g < B) : Res w' g a b c d := by
  obtain ⟨h0, ⟨h1, h2, h3, h4⟩, f1, f2, f3, f4⟩ := h
  have e : ∀ j, w'.cell? ⟨g, j, none⟩ = w.cell? ⟨g, j, none⟩ := fun j => hb.cell (p := ⟨g, j, none⟩) hg
  have f : ∀ j, w'.frozen? ⟨g, j, none⟩ = w.frozen? ⟨g, j, none⟩ := fun j => hb.frozen (p := ⟨g, j, none⟩) hg
  exact ⟨Nat.lt_of_lt_of_le h0 hb.size, ⟨by rw [e, h1], by rw [e, h2], by rw [e, h3], by rw [e, h4]⟩, by rw [f, f1], by rw [f, f2], by rw [f, f3], by rw [f, f4]⟩

set_option maxHeartbeats 4000000 in
theorem first_yes (op a b imm : Int) (la lb : List Int) (x : Addr) (B : Option Addr) (ca cb m : Nat) (hm : 1 ≤ m) (hma : m ≤ la.length) (hla : la.length ≤ 5000) (hlb : lb.length ≤ 5000) (w : World)
    (ra : RowAt w (some x) ca la) (rb : RowAt w B cb lb)
    (c1 : ∀ w1, Below w.heap.size w w1 → Calls Try.prog 12 #[.slice (some x) la.length ca, .int .i64 0] w1 fun e w' => e = .returned (.tuple #[.agg #[.int .i64 op, .int .i64 a, .int .i64 b, .int .u32 imm], .int .i64 m]) ∧ Below w1.heap.size w1 w')
    (c2 : ∀ w1 A c, RowAt w1 A c (([] ++ la.take m) ++ lb) → Calls Try.prog 12 #[.slice A (m + lb.length) c, .int .i64 0] w1 fun e w' => e = .returned (.tuple #[.agg #[.int .i64 op, .int .i64 a, .int .i64 b, .int .u32 imm], .int .i64 m]) ∧ Below w1.heap.size w1 w')
    (c3 : ∀ w1 A c, RowAt w1 A c (([] ++ lb) ++ la) → Calls Try.prog 12 #[.slice A (lb.length + la.length) c, .int .i64 lb.length] w1 fun e w' => e = .returned (.tuple #[.agg #[.int .i64 op, .int .i64 a, .int .i64 b, .int .u32 imm], .int .i64 m]) ∧ Below w1.heap.size w1 w') :
    Calls Try.prog 8 #[.slice (some x) la.length ca, .slice B lb.length cb] w fun e w' => e = .returned (.bool true) ∧ Below w.heap.size w w' := by
  have C1 := Lib.hid c1; clear c1
  have C2 := Lib.hid c2; clear c2
  have C3 := Lib.hid c3; clear c3
  have RA := Lib.hid ra
  have RB := Lib.hid rb
  have hca : la.length ≤ ca := ra.1
  clear ra rb
  go_enter Try.func8, Try.ntmps8
  go_wp2_with fail
  refine (awake_any _).mono ?_; rintro e w1 ⟨rfl, hb1⟩
  go_wp2_with fail
  refine (C1.out _ hb1).mono ?_; rintro e w2 ⟨rfl, hb2⟩
  have HB2 := Lib.hid (bel_al (bel_then hb1 hb2) (.cells #[.int .i64 op, .int .i64 a, .int .i64 b, .int .u32 imm] 24))
  have HX2 := Lib.hid (Res.new w2 (.int .i64 op) (.int .i64 a) (.int .i64 b) (.int .u32 imm) 24)
  clear hb1 hb2
  have OWN0 := Lib.hid (own_empty w2 (.cells #[.int .i64 op, .int .i64 a, .int .i64 b, .int .u32 imm] 24))
  have hnil : Bytes [] := fun z hz => by simp at hz
  have HNIL := Lib.hid hnil; clear hnil
  have hta : (la.take m).length = m := by rw [List.length_take]; omega
  have HTA := Lib.hid hta; clear hta
  go_wp2_with (first
    | (at_builtin
       refine append_row rfl (.tmp 32) (.tmp 35) rfl (w2.heap.size + 1) (.slice (some ⟨w2.heap.size + 1, 0, none⟩) 0 0) 0 [] rfl OWN0.out HNIL.out (some x) m ca (la.take m) rfl HTA.out.symm ca (row_take (RA.out.below (bel_al HB2.out _)) m) m (by omega) (by omega) (by simp) ?_
       intro A3 c3 w3 own3 row3 bel3
       have HB3 := Lib.hid ((bel_al HB2.out (.cells #[] 5)).trans (bel3.mono (by simpa using HB2.out.size)))
       have HX3 := Lib.hid (((HX2.out.alloc (.cells #[] 5)).belowB bel3 (by omega)))
       have OWN3 := Lib.hid own3
       have ROW3 := Lib.hid row3
       clear own3 row3 bel3)
    | (at_builtin
       refine append_row rfl (.tmp 36) (.tmp 37) rfl (w2.heap.size + 1) (.slice A3 m c3) m ([] ++ la.take m) rfl OWN3.out ROW3.out.2.2.1 B lb.length cb lb rfl rfl cb (RB.out.below HB3.out) (m + lb.length) rfl (by omega) (by have := HX3.out.1; omega) ?_
       intro A4 c4 w4 own4 row4 bel4
       have HB4 := Lib.hid (HB3.out.trans (bel4.mono (by simpa using HB2.out.size)))
       have HX4 := Lib.hid (HX3.out.belowB bel4 (by omega))
       have ROW4 := Lib.hid row4
       clear own4 row4 bel4))
  refine (C2.out _ _ _ ROW4.out).mono ?_; rintro e w5 ⟨rfl, hb5⟩
  have HB5 := Lib.hid (bel_al (bel_then HB4.out hb5) (.cells #[.int .i64 op, .int .i64 a, .int .i64 b, .int .u32 imm] 24))
  have HX5 := Lib.hid ((HX4.out.below hb5).alloc (.cells #[.int .i64 op, .int .i64 a, .int .i64 b, .int .u32 imm] 24))
  have HY5 := Lib.hid (Res.new w5 (.int .i64 op) (.int .i64 a) (.int .i64 b) (.int .u32 imm) 24)
  have hz5 : w2.heap.size < w5.heap.size := Nat.lt_of_lt_of_le HX4.out.1 hb5.size
  clear hb5 HB4 HX4 ROW4 HB3 HX3 OWN3 ROW3 OWN0
  have OWN5 := Lib.hid (own_empty w5 (.cells #[.int .i64 op, .int .i64 a, .int .i64 b, .int .u32 imm] 24))
  go_wp2_with (first
    | (at_builtin
       refine append_row rfl (.tmp 43) (.tmp 44) rfl (w5.heap.size + 1) (.slice (some ⟨w5.heap.size + 1, 0, none⟩) 0 0) 0 [] rfl OWN5.out HNIL.out B lb.length cb lb rfl rfl cb (RB.out.below (bel_al HB5.out _)) lb.length (by omega) (by omega) (by simp) ?_
       intro A6 c6 w6 own6 row6 bel6
       have HB6 := Lib.hid ((bel_al HB5.out (.cells #[] 5)).trans (bel6.mono (by simpa using HB5.out.size)))
       have HX6 := Lib.hid (((HX5.out.alloc (.cells #[] 5)).belowB bel6 (by omega)))
       have HY6 := Lib.hid (((HY5.out.alloc (.cells #[] 5)).belowB bel6 (by omega)))
       have OWN6 := Lib.hid own6
       have ROW6 := Lib.hid row6
       clear own6 row6 bel6)
    | (at_builtin
       refine append_row rfl (.tmp 45) (.tmp 46) rfl (w5.heap.size + 1) (.slice A6 lb.length c6) lb.length ([] ++ lb) rfl OWN6.out ROW6.out.2.2.1 (some x) la.length ca la rfl rfl ca (RA.out.below HB6.out) (lb.length + la.length) rfl (by omega) (by have := HY6.out.1; omega) ?_
       intro A7 c7 w7 own7 row7 bel7
       have HB7 := Lib.hid (HB6.out.trans (bel7.mono (by simpa using HB5.out.size)))
       have HX7 := Lib.hid (HX6.out.belowB bel7 (by omega))
       have HY7 := Lib.hid (HY6.out.belowB bel7 (by omega))
       have ROW7 := Lib.hid row7
       clear own7 row7 bel7))
  refine (C3.out _ _ _ ROW7.out).mono ?_; rintro e w8 ⟨rfl, hb8⟩
  have HB8 := Lib.hid (bel_al (bel_then HB7.out hb8) (.cells #[.int .i64 op, .int .i64 a, .int .i64 b, .int .u32 imm] 24))
  have KX := HX7.out.below hb8
  have KY := HY7.out.below hb8
  clear hb8
  obtain ⟨x0, ⟨x1, x2, x3, x4⟩, _⟩ := KX
  obtain ⟨y0, ⟨y1, y2, y3, y4⟩, _⟩ := KY
  go_wp2_with fail
  go_ret
  exact ⟨rfl, HB8.out⟩

theorem first_long (la lb : List Int) (A B : Option Addr) (ca cb : Nat) (h1 : la.length ≤ maxLen) (h2 : lb.length ≤ maxLen) (h : 5000 < la.length ∨ (la.length ≤ 5000 ∧ 5000 < lb.length)) (w : World) :
    Calls Try.prog 8 #[.slice A la.length ca, .slice B lb.length cb] w fun e w' => e = .returned (.bool true) ∧ Below w.heap.size w w' := by
  unfold maxLen at h1 h2
  rcases h with h | ⟨h, h'⟩
  all_goals
    go_enter Try.func8, Try.ntmps8
    go_wp2_with fail
    refine (awake_any _).mono ?_; rintro e w1 ⟨rfl, hb1⟩
    go_wp2_with fail
    refine (awake_any _).mono ?_; rintro e w2 ⟨rfl, hb2⟩
    go_wp2_with fail
    go_ret
    exact ⟨rfl, bel_then hb1 hb2⟩

theorem first_no (la lb : List Int) (A B : Option Addr) (ca cb : Nat) (hla : la.length ≤ 5000) (hlb : lb.length ≤ 5000) (w : World)
    (c1 : ∀ w1, Below w.heap.size w w1 → Calls Try.prog 12 #[.slice A la.length ca, .int .i64 0] w1 fun e w' => e = .returned (.tuple #[.agg #[.int .i64 0, .int .i64 0, .int .i64 0, .int .u32 0], .int .i64 0]) ∧ Below w1.heap.size w1 w') :
    Calls Try.prog 8 #[.slice A la.length ca, .slice B lb.length cb] w fun e w' => e = .returned (.bool true) ∧ Below w.heap.size w w' := by
  have C1 := Lib.hid c1; clear c1
  go_enter Try.func8, Try.ntmps8
  go_wp2_with fail
  refine (awake_any _).mono ?_; rintro e w1 ⟨rfl, hb1⟩
  go_wp2_with fail
  refine (C1.out _ hb1).mono ?_; rintro e w2 ⟨rfl, hb2⟩
  go_wp2_with fail
  go_ret
  exact ⟨rfl, bel_al (bel_then hb1 hb2) _⟩

theorem isaFirst_walk (A : Option Addr) (ca : Nat) (la : List Int) (B : Option Addr) (cb : Nat) (lb : List Int) (w : World) (ra : RowAt w A ca la) (rb : RowAt w B cb lb) :
    Calls Try.prog 8 #[.slice A la.length ca, .slice B lb.length cb] w fun e w' => e = .returned (.bool true) ∧ Below w.heap.size w w' := by
  have l1 : la.length ≤ maxLen := Nat.le_trans ra.1 ra.2.1
  have l2 : lb.length ≤ maxLen := Nat.le_trans rb.1 rb.2.1
  by_cases h : 5000 < la.length ∨ (la.length ≤ 5000 ∧ 5000 < lb.length)
  · exact first_long la lb A B ca cb l1 l2 h w
  have la5 : la.length ≤ 5000 := by omega
  have lb5 : lb.length ≤ 5000 := by omega
  rcases rd_or la with h0 | ⟨op, a, b, imm, n, h0⟩
  · exact first_no la lb A B ca cb la5 lb5 w (fun w1 hb => Read_no la A ca 0 (by omega) (.inr (.inr h0)) w1 (ra.below hb))
  · have hb := ra.2.2.1
    obtain ⟨q1, q2, q3, q4, q5, q6, q7⟩ := lay_of_rd _ _ _ _ _ _ hb h0
    obtain ⟨m, rfl⟩ : ∃ m : Nat, n = m := ⟨n.toNat, by omega⟩
    rw [Int.toNat_natCast] at q7
    have hne : la ≠ [] := by intro h; subst h; simp at q6; omega
    obtain ⟨x, rfl, _⟩ := ra.2.2.2 hne
    have hlt : (la.take m).length = m := by rw [List.length_take]; omega
    refine first_yes op a b imm la lb x B ca cb m (by omega) (by omega) la5 lb5 w ra rb (fun w1 hb1 => Read_yes la (some x) ca 0 op a b imm m (by omega) h0 w1 (ra.below hb1)) (fun w1 A1 c1 hr => ?_) (fun w1 A1 c1 hr => ?_)
    · have hd : Rd ((([] ++ la.take m) ++ lb).drop 0) op a b imm m := by
        rw [List.drop_zero, List.nil_append, q7, q4]
        exact rd_of_lay op a b imm q1 q2 lb
      have hlen : (([] ++ la.take m) ++ lb).length = m + lb.length := by rw [List.length_append, List.nil_append, hlt]
      have := Read_yes (([] ++ la.take m) ++ lb) A1 c1 0 op a b imm m (by omega) hd w1 hr
      rw [hlen] at this
      exact this
    · have hd : Rd ((([] ++ lb) ++ la).drop lb.length) op a b imm m := by
        rw [List.nil_append, List.drop_left' rfl]; exact h0
      have hlen : (([] ++ lb) ++ la).length = lb.length + la.length := by rw [List.length_append, List.nil_append]
      have := Read_yes (([] ++ lb) ++ la) A1 c1 lb.length op a b imm m (by omega) hd w1 hr
      rw [hlen] at this
      exact this
end Go.Proofs.Ytenmkkhpopiohaa
