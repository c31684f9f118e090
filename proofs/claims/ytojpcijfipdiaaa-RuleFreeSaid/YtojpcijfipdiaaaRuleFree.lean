/- The statement RuleFree, walked. -/
import Derived.Test.YtojpcijfipdiaaaRuleAwake
import Derived.Test.YtojpcijfipdiaaaScanOpen
namespace Go.Proofs.Ytojpcijfipdiaaa.Mm
open Go.ChangeShapes Go.WideShapes Go.ChangeAt Go.RowKit
set_option linter.unusedVariables false

/-- what needs none ahead, and is no Gate -/
def freeB (x : InsV) : Bool := !useB x && x.op != 22
def fil (l : List InsV) : List InsV := l.filter freeB
theorem fil_yes {l : List InsV} {k : Nat} (hk : k < l.length) (h : freeB (l.getD k insD) = true) : fil (l.take (k + 1)) = fil (l.take k) ++ [l.getD k insD] := by
  rw [take_snoc l k hk]
  unfold fil
  rw [List.filter_append]
  simp only [List.filter_cons, List.filter_nil, h, if_true]
theorem fil_no {l : List InsV} {k : Nat} (hk : k < l.length) (h : freeB (l.getD k insD) = false) : fil (l.take (k + 1)) = fil (l.take k) := by
  rw [take_snoc l k hk]
  unfold fil
  rw [List.filter_append]
  simp only [List.filter_cons, List.filter_nil, h, Bool.false_eq_true, if_false, List.append_nil]
theorem fil_len (l : List InsV) (k : Nat) : (fil (l.take k)).length ≤ k := by
  have h1 := List.length_filter_le freeB (l.take k)
  have h2 := List.length_take_le k l
  unfold fil
  omega
theorem fil_wf {l : List InsV} (h : ∀ x ∈ l, x.Wf) (k : Nat) : ∀ x ∈ fil (l.take k), x.Wf := fun x hx => h x (List.mem_of_mem_take (List.mem_filter.1 hx).1)
theorem fil_free {l : List InsV} : ∀ x ∈ fil l, useB x = false ∧ gateB x = false := fun x hx => by
  have h := (List.mem_filter.1 hx).2
  unfold freeB at h
  have h2 : useB x = false ∧ ¬ x.op = 22 := by simpa using h
  refine ⟨h2.1, ?_⟩
  unfold gateB
  simp [h2.2]
theorem free_ways (u : InsV) :
    (freeB u = true ∧ (u.op != 15) = true ∧ (u.op != 16) = true ∧ (u.op != 21) = true ∧ (u.op != 22) = true) ∨
    (freeB u = false ∧ (u.op != 15) = false) ∨ (freeB u = false ∧ (u.op != 15) = true ∧ (u.op != 16) = false) ∨
    (freeB u = false ∧ (u.op != 15) = true ∧ (u.op != 16) = true ∧ (u.op != 21) = false) ∨
    (freeB u = false ∧ (u.op != 15) = true ∧ (u.op != 16) = true ∧ (u.op != 21) = true ∧ (u.op != 22) = false) := by
  unfold freeB useB
  by_cases h1 : u.op = 15
  · simp [h1]
  · by_cases h2 : u.op = 16
    · simp [h2]
    · by_cases h3 : u.op = 21
      · simp [h3]
      · by_cases h4 : u.op = 22
        · simp [h4]
        · simp [h1, h2, h3, h4]
theorem use_ways (u : InsV) :
    ((u.op != 15) = true ∧ (u.op != 16) = true ∧ (u.op != 21) = true) ∨ (useB u = true ∧ (u.op != 15) = false) ∨ (useB u = true ∧ (u.op != 15) = true ∧ (u.op != 16) = false) ∨
    (useB u = true ∧ (u.op != 15) = true ∧ (u.op != 16) = true ∧ (u.op != 21) = false) := by
  unfold useB
  by_cases h1 : u.op = 15
  · simp [h1]
  · by_cases h2 : u.op = 16
    · simp [h2]
    · by_cases h3 : u.op = 21
      · simp [h3]
      · simp [h1, h2, h3]
theorem fil_rule {w : World} {A : Option Addr} {cap : Nat} {l : List InsV} (r : InsRow w A cap l) (hf : ∀ x ∈ l, useB x = false ∧ gateB x = false) (h0 : 0 < (padR l).length) (h4 : (padR l).length ≤ 4096) : ruleE (padR l) = 0 := by
  cases ha : allR l with
  | false => unfold padR at h0; rw [ha] at h0; simp at h0
  | true =>
    have e : padR l = padL l := by unfold padR; rw [if_pos ha]
    rw [e] at h0 h4 ⊢
    exact pad_free (row_all r ha) hf h0 h4
theorem two_rule {x : InsV} (hx : x.Wf) (hu : useB x = true) : ((padR [nopI, x]).length = 0) ∨ ((padR [nopI, x]).length ≠ 0 ∧ ruleE (padR [nopI, x]) = 5) := by
  by_cases h : (padR [nopI, x]).length = 0
  · exact .inl h
  · refine .inr ⟨h, ?_⟩
    cases ha : allR [nopI, x] with
    | false => exact absurd (by unfold padR; rw [ha]; rfl) h
    | true =>
      have e : padR [nopI, x] = padL [nopI, x] := by unfold padR; rw [if_pos ha]
      rw [e]
      exact pad_alone (lay_right hx ((allR_iff _).1 ha x (by simp))) hu
theorem two_len {x : InsV} (hx : x.Wf) : (padR [nopI, x]).length ≤ 4096 := by
  cases ha : allR [nopI, x] with
  | false => unfold padR; rw [ha]; simp
  | true =>
    have hok : ∀ y ∈ [nopI, x], y.Ok := fun y hy => by
      rcases List.mem_cons.1 hy with h | h
      · rw [h]; exact nop_ok
      · rw [show y = x by simpa using h]; exact lay_right hx ((allR_iff _).1 ha x (by simp))
    have e : padR [nopI, x] = padL [nopI, x] := by unfold padR; rw [if_pos ha]
    rw [e]
    have h1 := pad_bd [nopI, x] 0 hok
    have h2 := flat_bd [nopI, x] hok
    simp only [List.length_cons, List.length_nil] at h1 h2
    unfold padL
    omega
theorem fil_bd {w : World} {A : Option Addr} {cap n : Nat} {l : List InsV} (r : InsRow w A cap l) (hn : l.length ≤ 200) : (padR l).length ≤ 100000 := by
  cases ha : allR l with
  | false => unfold padR; rw [ha]; simp
  | true =>
    have e : padR l = padL l := by unfold padR; rw [if_pos ha]
    rw [e]
    have h1 := pad_bd l 0 (row_all r ha)
    have h2 := flat_bd l (row_all r ha)
    unfold padL
    omega
/-- two instructions, one behind the other -/
def twoC (x y : InsV) : List Value := [.int .i64 x.op, .int .i64 x.a, .int .i64 x.b, .int .u32 x.imm, .int .i64 y.op, .int .i64 y.a, .int .i64 y.b, .int .u32 y.imm]
theorem insrow_two {W : World} {g : Nat} {x y : InsV} (h : HasB W g 36 (twoC x y)) (hx : x.Wf) (hy : y.Wf) : InsRow W (some ⟨g, 0, none⟩) 2 [x, y] := by
  refine ⟨Nat.le_refl _, by unfold maxLen; omega, fun z hz => ?_, fun _ => ⟨_, rfl, h.lt, fun i hi => ?_⟩⟩
  · rcases List.mem_cons.1 hz with e | e
    · rw [e]; exact hx
    · rw [show z = y by simpa using e]; exact hy
  · have hi2 : i = 0 ∨ i = 1 := by simp at hi; omega
    rcases hi2 with rfl | rfl
    · exact ⟨h.cell 0, h.cell 1, h.cell 2, h.cell 3⟩
    · exact ⟨h.cell 4, h.cell 5, h.cell 6, h.cell 7⟩

theorem free_long (A : Option Addr) (cap n : Nat) (x : InsV) (h : 200 < n) (hm : n ≤ maxLen) (w : World) :
    Calls Try.prog 4 #[.slice A n cap, x.agg] w fun e w' => e = .returned (.bool true) ∧ Below w.heap.size w w' := by
  unfold maxLen at hm
  unfold InsV.agg
  have B0 := Lib.hid (bel_al (Below.refl w.heap.size w) (.cells #[.int .i64 x.op, .int .i64 x.a, .int .i64 x.b, .int .u32 x.imm] 36))
  go_enter Try.func4, Try.ntmps4
  go_wp2_with fail
  refine (awake_any _).mono ?_; rintro e w1 ⟨rfl, hb1⟩
  have B1 := Lib.hid (bel_then B0.out hb1); clear hb1
  go_wp2_with fail
  refine (awake_any _).mono ?_; rintro e w2 ⟨rfl, hb2⟩
  have B2 := Lib.hid (bel_then B1.out hb2); clear hb2
  go_wp2_with fail
  go_ret
  exact ⟨rfl, B2.out⟩

set_option maxRecDepth 10000 in
set_option maxHeartbeats 4000000 in
theorem free_few (A : Option Addr) (cap n : Nat) (l : List InsV) (x : InsV) (hn : l.length = n) (h200 : n ≤ 200) (w : World) (r : InsRow w A cap l) (hx : x.Wf) :
    Calls Try.prog 4 #[.slice A n cap, x.agg] w fun e w' => e = .returned (.bool true) ∧ Below w.heap.size w w' := by
  have R := Lib.hid r
  have HN := Lib.hid hn
  have HX := Lib.hid hx
  have X0 := Lib.hid (Ins4.new w x)
  have B0 := Lib.hid (bel_al (Below.refl w.heap.size w) (.cells #[.int .i64 x.op, .int .i64 x.a, .int .i64 x.b, .int .u32 x.imm] 36))
  clear r hn hx
  unfold InsV.agg
  go_enter Try.func4, Try.ntmps4
  go_wp2_with fail
  refine (awake_any _).mono ?_; rintro e w1 ⟨rfl, hb1⟩
  have X1 := Lib.hid (X0.out.below hb1)
  have B1 := Lib.hid (bel_then B0.out hb1); clear hb1 X0
  go_wp2
  go_loopw [5, 6] (fun v i wr => ∃ (k m : Nat), i = .int .i64 k ∧ k ≤ n ∧ m ≤ k ∧ Hid (m = (fil (l.take k)).length) ∧ Hid (wr.ownsRow w1.heap.size 36 4 v m ((fil (l.take k)).flatMap insC)) ∧ Hid (Below w1.heap.size w1 wr)) (fun _ i _ => n - (intOf i).toNat)
  case atStart => exact ⟨0, 0, rfl, Nat.zero_le _, Nat.zero_le _, Lib.hid rfl, Lib.hid (World.ownsRow_nil _ _ _ _), Lib.hid (Below.refl _ _)⟩
  case round =>
    obtain ⟨k, m, rfl, hk, hm, HM, O1, HB⟩ := hrel
    by_cases hlt : k < n
    · obtain ⟨a, rfl, hxb, hc⟩ := (R.out.below (bel_then B1.out HB.out)).2.2.2 (by intro e; have := HN.out; rw [e] at this; simp at this; omega)
      have PX := Lib.hid (hc k (by rw [HN.out]; exact hlt))
      obtain ⟨p0, p1, p2, p3⟩ := PX.out
      have HWF := Lib.hid (R.out.2.2.1 _ (mem_getD l k (by rw [HN.out]; exact hlt)))
      clear hc
      have HFY := Lib.hid (fun h => @fil_yes l k (by rw [HN.out]; exact hlt) h)
      have HFN := Lib.hid (fun h => @fil_no l k (by rw [HN.out]; exact hlt) h)
      have HFW := Lib.hid (fil_wf R.out.2.2.1 k)
      have HW := free_ways (l.getD k insD)
      generalize l.getD k insD = v at *
      generalize fil (l.take k) = F at *
      have hsz := B1.out.size
      have hszr := HB.out.size
      rcases HW with ⟨ha, h1, h2, h3, h4⟩ | ⟨ha, h1⟩ | ⟨ha, h1, h2⟩ | ⟨ha, h1, h2, h3⟩ | ⟨ha, h1, h2, h3, h4⟩
      · have HF := Lib.hid (HFY.out ha)
        clear ha HFY HFN
        go_wp2_with (first
          | (at_builtin
             refine append_ins rfl (.tmp 53) (.tmp 58) rfl w1.heap.size u5 m F rfl (own_al' O1.out _) HFW.out wr.heap.size 1 v rfl (Ins4.new wr v).at HWF.out (m + 1) rfl (by omega) (by simp; omega) ?_
             intro A7 c7 w7 own7 grown7 row7 bel7
             have S2 := Lib.hid own7
             have B7 := Lib.hid ((bel_al HB.out (.cells #[.int .i64 v.op, .int .i64 v.a, .int .i64 v.b, .int .u32 v.imm] 36)).trans bel7)
             clear own7 grown7 row7 bel7))
        go_roundw
        case rel => exact ⟨k + 1, m + 1, by go_num, by omega, by omega, Lib.hid (by rw [HF.out, List.length_append, ← HM.out]; rfl), Lib.hid (by rw [HF.out]; exact S2.out), B7⟩
        case measure => simp [intOf]; omega
      all_goals
        have HF := Lib.hid (HFN.out ha)
        clear ha HFY HFN
        go_wp2
        go_roundw
        case rel => exact ⟨k + 1, m, by go_num, by omega, by omega, by rw [HF.out]; exact HM, by rw [HF.out]; exact O1, HB⟩
        case measure => simp [intOf]; omega
    · obtain rfl : k = n := by omega
      obtain ⟨A4, c4, rfl, hml, i4⟩ := ins_of_own O1.out (fil_wf R.out.2.2.1 k)
      have e : l.take k = l := by rw [← HN.out, List.take_length]
      rw [e] at i4 hml
      have C := Lib.hid (Pad_any A4 c4 m (fil l) hml.symm (by omega) wr i4)
      have FR := Lib.hid (fun h0 h4 => fil_rule i4 fil_free h0 h4)
      have hbd := fil_bd (n := m) i4 (by omega)
      have BR := Lib.hid (bel_then B1.out HB.out)
      have XR := Lib.hid (X1.out.below HB.out)
      unfold PadP at C
      clear e i4 hml HM O1 HB X1
      generalize hp : (padR (fil l)).length = p at C FR hbd
      have HP := Lib.hid hp
      clear hp
      have hcs : p = 0 ∨ (0 < p ∧ p ≤ 4096) ∨ 4096 < p := by omega
      go_wp2_with fail
      refine C.out.mono ?_; rintro e w4 ⟨A5, c5, rfl, r4, hb4⟩
      rcases hcs with rfl | ⟨h0, h4⟩ | h4
      · have X5 := Lib.hid (XR.out.below hb4)
        have B5 := Lib.hid (bel_then BR.out hb4)
        clear r4 hb4 XR BR C FR HP
        generalize w4 = w5 at *
        have hxx := X5.out.at
        obtain ⟨p0, p1, p2, p3⟩ := hxx
        have X6 := Lib.hid (X5.out.alloc (.cells (twoC nopI x).toArray 36))
        have B6 := Lib.hid (bel_al B5.out (.cells (twoC nopI x).toArray 36))
        have D := Lib.hid (Pad_any (some ⟨w5.heap.size, 0, none⟩) 2 2 [nopI, x] rfl (by omega) _ (insrow_two (HasB.new w5 36 (twoC nopI x)) (ok_wf nop_ok) HX.out))
        unfold PadP at D
        go_wp2_with fail
        refine D.out.mono ?_; rintro e w7 ⟨A7, c7, rfl, r7, hb7⟩
        have KK := Lib.hid (Keeps_any A7 c7 _ _ rfl w7 r7)
        have X7 := Lib.hid (X6.out.below hb7)
        have B7 := Lib.hid (bel_then B6.out hb7)
        clear D hb7 X6 B6 X5 B5 p0 p1 p2 p3 r7
        obtain ⟨p0, p1, p2, p3⟩ := X7.out.at
        have TR := two_rule HX.out
        have TL := two_len HX.out
        generalize (padR [nopI, x]).length = q at *
        generalize ruleE (padR [nopI, x]) = z at *
        rcases use_ways x with ⟨h1, h2, h3⟩ | ⟨hu, h1⟩ | ⟨hu, h1, h2⟩ | ⟨hu, h1, h2, h3⟩
        · clear TR KK
          go_wp2
          go_ret
          exact ⟨rfl, B7.out⟩
        all_goals
          rcases TR hu with hq | ⟨hq, rfl⟩
          · subst hq
            clear hu KK
            go_wp2
            go_ret
            exact ⟨rfl, B7.out⟩
          · have hq' : ((q : Int) == 0) = false := by rw [beq_eq_false_iff_ne]; omega
            clear hu hq
            go_wp2_with fail
            refine KK.out.mono ?_; rintro e w8 ⟨rfl, hb8⟩
            have B8 := Lib.hid (bel_then B7.out hb8)
            clear hb8 p0 p1 p2 p3
            go_wp2
            go_ret
            exact ⟨rfl, B8.out⟩
      · have KE := Lib.hid (Keeps_any A5 c5 p _ HP.out w4 r4)
        rw [FR.out h0 h4] at KE
        have X4 := Lib.hid (XR.out.below hb4)
        have B4 := Lib.hid (bel_then BR.out hb4)
        clear r4 hb4 XR BR C FR HP
        go_wp2_with fail
        refine KE.out.mono ?_; rintro e w5 ⟨rfl, hb5⟩
        have X5 := Lib.hid (X4.out.below hb5)
        have B5 := Lib.hid (bel_then B4.out hb5)
        clear hb5 KE X4 B4
        have hxx := X5.out.at
        obtain ⟨p0, p1, p2, p3⟩ := hxx
        have X6 := Lib.hid (X5.out.alloc (.cells (twoC nopI x).toArray 36))
        have B6 := Lib.hid (bel_al B5.out (.cells (twoC nopI x).toArray 36))
        have D := Lib.hid (Pad_any (some ⟨w5.heap.size, 0, none⟩) 2 2 [nopI, x] rfl (by omega) _ (insrow_two (HasB.new w5 36 (twoC nopI x)) (ok_wf nop_ok) HX.out))
        unfold PadP at D
        go_wp2_with fail
        refine D.out.mono ?_; rintro e w7 ⟨A7, c7, rfl, r7, hb7⟩
        have KK := Lib.hid (Keeps_any A7 c7 _ _ rfl w7 r7)
        have X7 := Lib.hid (X6.out.below hb7)
        have B7 := Lib.hid (bel_then B6.out hb7)
        clear D hb7 X6 B6 X5 B5 p0 p1 p2 p3 r7
        obtain ⟨p0, p1, p2, p3⟩ := X7.out.at
        have TR := two_rule HX.out
        have TL := two_len HX.out
        generalize (padR [nopI, x]).length = q at *
        generalize ruleE (padR [nopI, x]) = z at *
        rcases use_ways x with ⟨h1, h2, h3⟩ | ⟨hu, h1⟩ | ⟨hu, h1, h2⟩ | ⟨hu, h1, h2, h3⟩
        · clear TR KK
          go_wp2
          go_ret
          exact ⟨rfl, B7.out⟩
        all_goals
          rcases TR hu with hq | ⟨hq, rfl⟩
          · subst hq
            clear hu KK
            go_wp2
            go_ret
            exact ⟨rfl, B7.out⟩
          · have hq' : ((q : Int) == 0) = false := by rw [beq_eq_false_iff_ne]; omega
            clear hu hq
            go_wp2_with fail
            refine KK.out.mono ?_; rintro e w8 ⟨rfl, hb8⟩
            have B8 := Lib.hid (bel_then B7.out hb8)
            clear hb8 p0 p1 p2 p3
            go_wp2
            go_ret
            exact ⟨rfl, B8.out⟩
      · have X5 := Lib.hid (XR.out.below hb4)
        have B5 := Lib.hid (bel_then BR.out hb4)
        clear r4 hb4 XR BR C FR HP
        generalize w4 = w5 at *
        have hxx := X5.out.at
        obtain ⟨p0, p1, p2, p3⟩ := hxx
        have X6 := Lib.hid (X5.out.alloc (.cells (twoC nopI x).toArray 36))
        have B6 := Lib.hid (bel_al B5.out (.cells (twoC nopI x).toArray 36))
        have D := Lib.hid (Pad_any (some ⟨w5.heap.size, 0, none⟩) 2 2 [nopI, x] rfl (by omega) _ (insrow_two (HasB.new w5 36 (twoC nopI x)) (ok_wf nop_ok) HX.out))
        unfold PadP at D
        go_wp2_with fail
        refine D.out.mono ?_; rintro e w7 ⟨A7, c7, rfl, r7, hb7⟩
        have KK := Lib.hid (Keeps_any A7 c7 _ _ rfl w7 r7)
        have X7 := Lib.hid (X6.out.below hb7)
        have B7 := Lib.hid (bel_then B6.out hb7)
        clear D hb7 X6 B6 X5 B5 p0 p1 p2 p3 r7
        obtain ⟨p0, p1, p2, p3⟩ := X7.out.at
        have TR := two_rule HX.out
        have TL := two_len HX.out
        generalize (padR [nopI, x]).length = q at *
        generalize ruleE (padR [nopI, x]) = z at *
        rcases use_ways x with ⟨h1, h2, h3⟩ | ⟨hu, h1⟩ | ⟨hu, h1, h2⟩ | ⟨hu, h1, h2, h3⟩
        · clear TR KK
          go_wp2
          go_ret
          exact ⟨rfl, B7.out⟩
        all_goals
          rcases TR hu with hq | ⟨hq, rfl⟩
          · subst hq
            clear hu KK
            go_wp2
            go_ret
            exact ⟨rfl, B7.out⟩
          · have hq' : ((q : Int) == 0) = false := by rw [beq_eq_false_iff_ne]; omega
            clear hu hq
            go_wp2_with fail
            refine KK.out.mono ?_; rintro e w8 ⟨rfl, hb8⟩
            have B8 := Lib.hid (bel_then B7.out hb8)
            clear hb8 p0 p1 p2 p3
            go_wp2
            go_ret
            exact ⟨rfl, B8.out⟩
theorem ruleFree_walk (A : Option Addr) (n cap : Nat) (op a b imm : Int) (w : World) (hr : ∃ l : List InsV, n = l.length ∧ InsRow w A cap l) (w1 : (Lit.int .i64 op).wf = true) (w2 : (Lit.int .i64 a).wf = true) (w3 : (Lit.int .i64 b).wf = true) (w4 : (Lit.int .u32 imm).wf = true) :
    Calls Try.prog 4 #[.slice A n cap, .agg #[.int .i64 op, .int .i64 a, .int .i64 b, .int .u32 imm]] w fun e w' => e = .returned (.bool true) ∧ Below w.heap.size w w' := by
  obtain ⟨l, rfl, r⟩ := hr
  rcases Nat.lt_or_ge 200 l.length with h | h
  · exact free_long A cap _ ⟨op, a, b, imm⟩ h (by have := r.1; have := r.2.1; omega) w
  · refine free_few A cap _ l ⟨op, a, b, imm⟩ rfl h w r ?_
    have a1 : IntKind.i64.min ≤ op ∧ op ≤ IntKind.i64.max := by simpa [Lit.wf] using w1
    have a2 : IntKind.i64.min ≤ a ∧ a ≤ IntKind.i64.max := by simpa [Lit.wf] using w2
    have a3 : IntKind.i64.min ≤ b ∧ b ≤ IntKind.i64.max := by simpa [Lit.wf] using w3
    have a4 : IntKind.u32.min ≤ imm ∧ imm ≤ IntKind.u32.max := by simpa [Lit.wf] using w4
    have c1 : IntKind.i64.min = -9223372036854775808 ∧ IntKind.i64.max = 9223372036854775807 ∧ IntKind.u32.min = 0 ∧ IntKind.u32.max = 4294967295 := by decide
    obtain ⟨c1, c2, c3, c4⟩ := c1
    rw [c1, c2] at a1 a2 a3
    rw [c3, c4] at a4
    exact ⟨a1, a2, a3, a4.1, by show imm < 4294967296; omega⟩
end Go.Proofs.Ytojpcijfipdiaaa.Mm
