/- Package slab as it landed: slices of regions joined (slices.Grow, slices.Concat). -/
import Derived.Test.YtalglocplebonaaSlabTake
import Derived.Lib.AppendZeros
import Derived.Maps.AppendAt
namespace Go.Proofs.Ytalglocplebonaa.Mm
open Go.ChangeShapes Go.WideShapes Go.ChangeAt Go.RowKit
set_option linter.unusedVariables false
set_option linter.unusedSimpArgs false

theorem rg_el : Try.prog.underlying 30 = some (.slice (Try.prog.elem 30)) := by kernel_rfl
theorem rg_sz (w : World) : (sizeOf (Try.prog.elem 30)).run Try.prog w = .ok 2 w := by kernel_rfl
theorem rgrow_take {w : World} {A : Option Addr} {cap : Nat} {l : List Rg} (r : RgRow w A cap l) (m : Nat) : RgRow w A cap (l.take m) := by
  obtain ⟨h1, h2, h3, h4⟩ := r
  have hl : (l.take m).length ≤ l.length := by rw [List.length_take]; omega
  refine ⟨by omega, h2, fun x hx => h3 x (List.mem_of_mem_take hx), fun hne => ?_⟩
  obtain ⟨x, hx, hb, hc⟩ := h4 (by intro e; subst e; simp at hne)
  exact ⟨x, hx, hb, fun i hi => by rw [take_getDG l (by rw [List.length_take] at hi; omega)]; exact hc i (by omega)⟩
theorem add_addG (p : Addr) (i j : Nat) : (p.add (i * 2)).add (j * 2) = p.add ((i + j) * 2) := by
  unfold Addr.add
  by_cases h : i = 0
  · subst h; simp
  · by_cases h2 : j = 0
    · subst h2; simp
    · have h4 : ¬ i * 2 = 0 := by omega
      have h5 : ¬ j * 2 = 0 := by omega
      have h6 : ¬ (i + j) * 2 = 0 := by omega
      simp [h4, h5, h6, Nat.add_mul, Nat.add_assoc]
def cutG (A : Option Addr) (cap k : Nat) : Option Addr := if cap = k then A else A.map (·.add (k * 2))
theorem rgrow_cut {w : World} {A : Option Addr} {cap : Nat} {l : List Rg} (r : RgRow w A cap l) (k : Nat) (hk : k ≤ l.length) : RgRow w (cutG A cap k) (cap - k) (l.drop k) := by
  obtain ⟨h1, h2, h3, h4⟩ := r
  unfold cutG
  refine ⟨by rw [List.length_drop]; omega, by omega, fun x hx => h3 x (List.mem_of_mem_drop hx), fun hne => ?_⟩
  have hk2 : k < l.length := by
    rcases Nat.lt_or_ge k l.length with h | h
    · exact h
    · exact absurd (List.drop_eq_nil_of_le h) hne
  obtain ⟨x, hx, hb, hc⟩ := h4 (by intro e; subst e; simp at hk2)
  subst hx
  rw [if_neg (by omega)]
  refine ⟨_, rfl, by rw [block_add]; exact hb, fun i hi => ?_⟩
  rw [List.length_drop] at hi
  rw [add_addG, show (l.drop k).getD i (0, 0) = l.getD (k + i) (0, 0) by simp [List.getD]]
  exact hc (k + i) (by omega)
theorem cut_toG {w0 : World} {A : Option Addr} {cap : Nat} {l : List Rg} (r : RgRow w0 A cap l) (n : Nat) (hn : l.length = n) (k : Nat) (I : Int) (hI : I = k) (hk : k ≤ n) :
    ∃ A1 c1, (∀ w, (Instr.slice 30 (.slice A n cap) none (some (.int .i64 I)) none).run Try.prog w = .ok (.slice A1 k c1) w) ∧ ∀ w', RgRow w' A cap l → RgRow w' A1 c1 (l.take k) := by
  have hc := r.1
  refine ⟨if cap = 0 then A else A.map (·.add (0 * 2)), cap, fun w => ?_, fun w' r' => ?_⟩
  · rw [run_slice_h w 30 A n cap rg_el .i64 I (by omega) (by omega), rg_sz]
    simp [Result.andThen, sliced, hI]
  · have e : (if cap = 0 then A else A.map (·.add (0 * 2))) = A := by
      split
      · rfl
      · cases A <;> rfl
    rw [e]
    exact rgrow_take r' k
theorem cut_fromG {w0 : World} {A : Option Addr} {cap : Nat} {l : List Rg} (r : RgRow w0 A cap l) (n : Nat) (hn : l.length = n) (k m : Nat) (I : Int) (hI : I = k) (hm : k + m = n) :
    ∃ A1 c1, (∀ w, (Instr.slice 30 (.slice A n cap) (some (.int .i64 I)) none none).run Try.prog w = .ok (.slice A1 m c1) w) ∧ ∀ w', RgRow w' A cap l → RgRow w' A1 c1 (l.drop k) := by
  have hc := r.1
  refine ⟨cutG A cap k, cap - k, fun w => ?_, fun w' r' => rgrow_cut r' k (by omega)⟩
  rw [run_slice_l w 30 A n cap rg_el .i64 I (by omega) (by omega), rg_sz]
  simp [Result.andThen, sliced, cutG, hI, show n - k = m by omega]

theorem rg_cells {w : World} {p : Addr} {M : List Rg} (h : ∀ i, i < M.length → RgAt w (p.add (i * 2)) (M.getD i (0, 0))) : ∀ j u, (M.flatMap rgC)[j]? = some u → w.cell? (p.add j) = some u := by
  intro j u hj
  have hjl : j < M.length * 2 := by
    rcases Nat.lt_or_ge j (M.length * 2) with h | h
    · exact h
    · rw [List.getElem?_eq_none (by rw [flatG_len]; exact h)] at hj; cases hj
  obtain ⟨q, r, hr, rfl⟩ : ∃ q r, r < 2 ∧ j = q * 2 + r := ⟨j / 2, j % 2, by omega, by omega⟩
  have hi : q < M.length := by omega
  obtain ⟨k0, k1⟩ := h q hi
  have e := flatG_get M q hi r hr
  rw [hj] at e
  generalize M.getD q (0, 0) = y at *
  have hr : r = 0 ∨ r = 1 := by omega
  rcases hr with rfl | rfl <;> simp [rgC] at e <;> subst e
  · exact k0
  · have e2 : p.add (q * 2 + 1) = ⟨(p.add (q * 2)).block, (p.add (q * 2)).off + 1, none⟩ := by
      have e3 : p.add (q * 2 + 1) = (p.add (q * 2)).add 1 := by
        unfold Addr.add
        by_cases h : q = 0
        · subst h; simp
        · have h4 : ¬ q * 2 = 0 := by omega
          simp [h4, Nat.add_assoc]
      rw [e3]
      generalize p.add (q * 2) = y
      unfold Addr.add
      simp
    rw [e2]; exact k1
theorem flatG_ones (L : List Rg) : ∀ u ∈ L.flatMap rgC, u.oneCell' = true := by
  intro u hu
  obtain ⟨x, _, h⟩ := List.mem_flatMap.1 hu
  exact rgC_one x u h
theorem append_nil_rg {w : World} {base : Nat} {ty : TypeId} {v : Value} {n : Nat} {xs : List Value} (hown : w.ownsRow base 26 2 v n xs) (c : Nat) :
    (Builtin.append_ #[30, 30] ty #[v, .slice none 0 c]).run Try.prog w = .ok v w := by
  obtain ⟨u0, hu0, hz0, hz1, hz2⟩ := info_parts rg_info
  rcases hown.2 with ⟨rfl, rfl⟩ | ⟨g, cap, cur, rfl, _, _, hnc, _⟩
  · simp [Builtin.append_, run_underlying Try.underlying30, sizeOf, typeInfo, hu0, Builtin.lenOf, Builtin.firstCells]
  · simp [Builtin.append_, run_underlying Try.underlying30, sizeOf, typeInfo, hu0, Builtin.lenOf, Builtin.firstCells, hnc, storeCells]
theorem append_rgrow {w : World} {ops : Array Oper} {rest : List Oper} {o : Oper} {a : Act} {Q : Exit → Act → World → Prop} (hgd' : o.guard = none) (s x : Operand)
    (ho : o.op = .call { callee := .builtin .append, args := #[s, x], argTypes := #[30, 30] })
    (base : Nat) (v : Value) (n : Nat) (L : List Rg) (hs : a.eval s = v) (hown : w.ownsRow base 26 2 v n (L.flatMap rgC)) (hW : ∀ y ∈ L, rgWf y)
    (A : Option Addr) (m c : Nat) (M : List Rg) (hx : a.eval x = .slice A m c) (hm : m = M.length) (cap : Nat) (hr : RgRow w A cap M) (n' : Nat) (hn' : n' = n + m) (hlen : n + m ≤ 100000) (hbase : base ≤ w.heap.size)
    (h : ∀ A' cap' w', w'.ownsRow base 26 2 (.slice A' n' cap') n' ((L ++ M).flatMap rgC) → Below base w w' → wpList Try.prog ops Q rest (a.put o.dst (.slice A' n' cap')) w') :
    wpList Try.prog ops Q (o :: rest) a w := by
  subst hn'
  obtain ⟨u0, hu0, hz0, hz1, hz2⟩ := info_parts rg_info
  have hLM : ∀ y ∈ L ++ M, rgWf y := fun z hz => (List.mem_append.1 hz).elim (hW z) (hr.2.2.1 z)
  cases A with
  | none =>
    have hM : M = [] := by
      by_cases hne : M = []
      · exact hne
      · obtain ⟨ad, h, _⟩ := hr.2.2.2 hne; cases h
    subst hM
    subst hm
    refine wpList_plain hgd' fun K hK => ?_
    unfold Oper.wp execOp
    simp only [ho, resolve, invoke, builtin, Sem.run_bind, Sem.run_pure, Result.andThen_ok, List.map_toArray, List.map_cons, List.map_nil, hs, hx, List.length_nil, append_nil_rg hown c]
    have hown' : w.ownsRow base 26 2 v (n + 0) ((L ++ []).flatMap rgC) := by simpa using hown
    obtain ⟨A', cap', rfl, _, hrow⟩ := rg_of_own hown' hLM
    exact hK _ _ (h A' cap' w hown' (Below.refl _ _))
  | some ad =>
    have hcs : ∀ j u, (M.flatMap rgC)[j]? = some u → w.cell? (ad.add j) = some u := by
      by_cases hne : M = []
      · subst hne; intro j u hj; simp at hj
      · obtain ⟨ad', e, _, hc⟩ := hr.2.2.2 hne
        injection e with e; subst e
        exact rg_cells hc
    refine wpList_append_own_at w hgd' s x 30 ho base 26 u0 _ 2 16 Try.underlying30 hu0 hz0 hz1 hz2 rfl (by decide) v n (L.flatMap rgC) hs hown ad m c (M.flatMap rgC) hx (by rw [flatG_len, hm])
      hcs (flatG_ones M) (by unfold maxLen; omega) (by omega) hbase ?_
    intro v' w' hown' hg _ _
    rw [← flatG_app] at hown'
    obtain ⟨A', cap', rfl, _, hrow⟩ := rg_of_own hown' hLM
    exact h A' cap' w' hown' ((Below.refl base w).grown hg hbase (fun k hk => (hown.lt k hk).1))

/-- slices.Grow of nil: an own row that is empty -/
theorem grow_any (n : Nat) (hn : n ≤ 100000) (w : World) :
    Calls Try.prog 27 #[.slice none 0 0, .int .i64 n] w fun e w' => ∃ A cap, e = .returned (.slice A 0 cap) ∧ w'.ownsRow w.heap.size 26 2 (.slice A 0 cap) 0 (([] : List Rg).flatMap rgC) ∧ Below w.heap.size w w' := by
  have B0 := Lib.hid (Below.refl w.heap.size w)
  by_cases h0 : n = 0
  · subst h0
    go_enter Try.func27, Try.ntmps27
    go_wp2_with fail
    go_ret
    exact ⟨none, 0, rfl, World.ownsRow_nil _ _ _ _, B0.out⟩
  · obtain ⟨u0, hu0, hz0, hz1, hz2⟩ := info_parts rg_info
    have h1 : (0 : Int) < (n : Int) := by omega
    have hr := Lib.run_append_nil_zeros (P := Try.prog) (ty := 30) w 30 3 26 u0 _ .i64 .i64 Try.underlying30 Try.underlying3 hu0 hz0 n (by omega) (by omega) (by omega) (by rw [hz2]; omega)
    have hg1 := grownCap_ge w n 0 26
    have hg2 := grownCap_le_maxLen w n 0 26 (by unfold maxLen; omega)
    have hsz : ∀ k, (Builtin.zeroCells (Value.agg #[.int .i64 0, .int .i64 0]).cells k).size = k * 2 := fun k => size_zeroCells _ k
    generalize grownCap w n 0 26 = gc at *
    have B1 := Lib.hid (bel_al (below_drewG (Below.refl w.heap.size w)) (.cells (Builtin.zeroCells (Value.agg #[.int .i64 0, .int .i64 0]).cells n ++ Builtin.zeroCells (Value.agg #[.int .i64 0, .int .i64 0]).cells (gc - n)) 26))
    have O1 : (w.drew.alloc (.cells (Builtin.zeroCells (Value.agg #[.int .i64 0, .int .i64 0]).cells n ++ Builtin.zeroCells (Value.agg #[.int .i64 0, .int .i64 0]).cells (gc - n)) 26)).ownsRow w.heap.size 26 2 (.slice (some ⟨w.heap.size, 0, none⟩) 0 gc) 0 (([] : List Rg).flatMap rgC) := by
      refine ⟨rfl, .inr ⟨w.heap.size, gc, _, rfl, Nat.le_refl _, by exact Array.getElem?_push_size, Nat.zero_le _, hg2, ?_, by simp⟩⟩
      rw [Array.size_append, hsz, hsz]; omega
    replace O1 := Lib.hid O1
    obtain ⟨W, hW⟩ : ∃ W, w.drew.alloc (.cells (Builtin.zeroCells (Value.agg #[.int .i64 0, .int .i64 0]).cells n ++ Builtin.zeroCells (Value.agg #[.int .i64 0, .int .i64 0]).cells (gc - n)) 26) = W := ⟨_, rfl⟩
    rw [hW] at O1 B1 hr
    clear hW hsz
    go_enter Try.func27, Try.ntmps27
    go_wp2_with (first
      | (at_builtin
         refine Lib.wpList_append_run _ rfl _ _ _ _ rfl _ _ rfl rfl _ _ hr ?_))
    go_ret
    exact ⟨_, gc, rfl, O1.out, B1.out⟩

/-- a part: a slice that reads as regions -/
structure PartG where
  A : Option Addr
  cap : Nat
  L : List Rg
def PartG.v (p : PartG) : Value := .slice p.A p.L.length p.cap
def flatP (P : List PartG) : List Rg := P.flatMap PartG.L
theorem flatP_take (P : List PartG) (k : Nat) (h : k < P.length) : flatP (P.take (k + 1)) = flatP (P.take k) ++ P[k].L := by
  rw [List.take_succ_eq_append_getElem h]
  simp only [flatP, List.flatMap_append, List.flatMap_cons, List.flatMap_nil, List.append_nil]
theorem flatP_len (P : List PartG) (k : Nat) : (flatP (P.take k)).length ≤ (flatP P).length := by
  conv => rhs; rw [← List.take_append_drop k P]
  simp only [flatP, List.flatMap_append, List.length_append]
  omega
/-- the list of parts, in block g -/
structure PartsG (w : World) (g : Nat) (P : List PartG) : Prop where
  cells : HasB w g 30 (P.map PartG.v)
  ok : ∀ p ∈ P, RgRow w p.A p.cap p.L
theorem PartsG.below {w w' : World} {g : Nat} {P : List PartG} (h : PartsG w g P) (b : Below w.heap.size w w') : PartsG w' g P := ⟨h.cells.below b, fun p hp => (h.ok p hp).below b⟩
theorem PartsG.cell {w : World} {g : Nat} {P : List PartG} (h : PartsG w g P) (k : Nat) (hk : k < P.length) : w.cell? ⟨g, k, none⟩ = some (.slice P[k].A P[k].L.length P[k].cap) := by
  rw [h.cells.cell k]
  simp [List.getElem?_eq_getElem hk, PartG.v]
theorem addr0I (g k : Nat) : (⟨g, 0, none⟩ : Addr).add k = ⟨g, k, none⟩ := addr0G g k
set_option maxHeartbeats 1000000 in
theorem concat_any (P : List PartG) (g m : Nat) (w : World) (hm : P.length = m) (hP : PartsG w g P) (hn : (flatP P).length ≤ 10000) (hp : m ≤ 100) :
    Calls Try.prog 23 #[.slice (some ⟨g, 0, none⟩) m m] w fun e w' => ∃ A cap, e = .returned (.slice A (flatP P).length cap) ∧ RgRow w' A cap (flatP P) ∧ Below w.heap.size w w' := by
  have HM := Lib.hid hm
  have HP := Lib.hid hP
  have FL := Lib.hid (flatP_len P)
  have FT := Lib.hid (flatP_take P)
  have FA := Lib.hid (show flatP (P.take m) = flatP P by rw [← hm, List.take_length])
  have WP := Lib.hid (show ∀ x ∈ flatP P, rgWf x from fun x hx => by
    obtain ⟨p, hp, hx⟩ := List.mem_flatMap.1 hx
    exact (hP.ok p hp).2.2.1 x hx)
  have WT := Lib.hid (fun k => show ∀ x ∈ flatP (P.take k), rgWf x from fun x hx => by
    obtain ⟨p, hp, hx⟩ := List.mem_flatMap.1 hx
    exact (hP.ok p (List.mem_of_mem_take hp)).2.2.1 x hx)
  have HN := Lib.hid hn
  have B0 := Lib.hid (Below.refl w.heap.size w)
  clear hP hm hn
  go_enter Try.func23, Try.ntmps23
  go_wp2_with fail
  go_loop [3, 5, 11] (fun s p i => ∃ (k z : Nat), k ≤ m ∧ i = .int .i64 k ∧ s = .int .i64 z ∧ Hid ((flatP (P.take k)).length = z)) (fun _ _ i => m - (intOf i).toNat)
  case atStart => exact ⟨0, 0, Nat.zero_le _, rfl, rfl, Lib.hid rfl⟩
  case round =>
    obtain ⟨k, z, hk, rfl, rfl, HZ⟩ := hrel
    by_cases hlt : k < m
    · have hkP : k < P.length := by rw [HM.out]; exact hlt
      have c0 := HP.out.cell k hkP
      have hb : z + P[k].L.length ≤ 10000 := by
        have h1 := FL.out (k + 1)
        rw [FT.out k hkP, List.length_append, HZ.out] at h1
        have := HN.out
        omega
      have FN : Hid ((flatP (P.take (k + 1))).length = z + P[k].L.length) := Lib.hid (by rw [FT.out k hkP, List.length_append, HZ.out])
      clear FT FL HZ
      have hkm : (k : Int) < (m : Int) := by omega
      generalize P[k].L.length = n at *
      generalize P[k].A = A at *
      generalize P[k].cap = c at *
      have hz0 : ¬ ((z : Int) + (n : Int) < 0) := by omega
      go_wp2
      go_round
      case rel => exact ⟨k + 1, z + n, by omega, by go_num, by go_num, FN⟩
      case measure => simp [intOf]; omega
    · obtain rfl : k = m := by omega
      have HZ2 : Hid ((flatP P).length = z) := Lib.hid (by rw [← FA.out]; exact HZ.out)
      have hz := HN.out
      rw [HZ2.out] at hz
      have GC := Lib.hid (grow_any z (by omega))
      clear HZ
      go_wp2_with fail
      refine (GC.out _).mono ?_; rintro e w1 ⟨A1, c1, rfl, o1, hb1⟩
      have O1 := Lib.hid o1
      have B1 := Lib.hid hb1
      clear o1 hb1 GC
      go_wp2_with fail
      go_loopw [6, 8, 27] (fun o p i wr => ∃ (j y : Nat) (A : Option Addr) (cap : Nat), j ≤ k ∧ i = .int .i64 j ∧ o = .slice A y cap ∧ Hid ((flatP (P.take j)).length = y) ∧ Hid (wr.ownsRow w.heap.size 26 2 (.slice A y cap) y ((flatP (P.take j)).flatMap rgC)) ∧ Hid (Below w.heap.size w wr)) (fun _ _ i _ => k - (intOf i).toNat)
      case atStart => exact ⟨0, 0, A1, c1, Nat.zero_le _, rfl, rfl, Lib.hid rfl, O1, B1⟩
      case round =>
        obtain ⟨j, y, A, cap, hj, rfl, rfl, HY, OY, HB⟩ := hrel
        by_cases hlt2 : j < k
        · have hjP : j < P.length := by rw [HM.out]; exact hlt2
          have c0 := (HP.out.below HB.out).cell j hjP
          have R0 := Lib.hid ((HP.out.below HB.out).ok P[j] (List.getElem_mem hjP))
          have hb : y + P[j].L.length ≤ 10000 := by
            have h1 := FL.out (j + 1)
            rw [FT.out j hjP, List.length_append, HY.out] at h1
            have := HN.out
            omega
          have FN : Hid ((flatP (P.take (j + 1))).length = y + P[j].L.length) := Lib.hid (by rw [FT.out j hjP, List.length_append, HY.out])
          have FE := Lib.hid (FT.out j hjP)
          have WJ := Lib.hid (WT.out j)
          have hbs := HB.out.size
          clear HY
          have hkm : (j : Int) < (k : Int) := by omega
          generalize flatP (P.take j) = F at *
          generalize hF2 : flatP (P.take (j + 1)) = F2 at *
          replace hF2 := Lib.hid hF2
          generalize P[j] = p at *
          obtain ⟨pA, pc, pL⟩ := p
          simp only at c0 R0 hb FN FE
          have hpl : ∃ n, pL.length = n := ⟨_, rfl⟩
          obtain ⟨n, hpl⟩ := hpl
          have HPL := Lib.hid hpl
          rw [hpl] at c0 hb FN
          clear hpl
          go_wp2_with (first
            | (at_builtin
               refine append_rgrow rfl (.tmp 31) (.tmp 32) rfl w.heap.size _ y F rfl OY.out WJ.out pA n pc pL rfl HPL.out.symm pc R0.out (y + n) rfl (by omega) hbs ?_
               intro A7 c7 w7 own7 bel7
               have S2 := Lib.hid own7
               have B7 := Lib.hid (HB.out.trans (bel7.mono (Nat.le_refl _)))
               clear own7 bel7))
          go_roundw
          case rel => exact ⟨j + 1, y + n, A7, c7, by omega, by go_num, rfl, by rw [hF2.out]; exact FN, by rw [hF2.out, FE.out]; exact S2, B7⟩
          case measure => simp [intOf]; omega
        · obtain rfl : j = k := by omega
          have hy : y = z := by rw [← HY.out, FA.out, HZ2.out]
          subst hy
          have oy := OY.out
          rw [FA.out] at oy
          obtain ⟨A5, c5, he, _, hrow⟩ := rg_of_own oy WP.out
          obtain ⟨rfl, rfl⟩ : A5 = A ∧ c5 = cap := by injection he with h1 h2 h3; exact ⟨h1.symm, h3.symm⟩
          have RO := Lib.hid hrow
          clear he hrow oy OY
          go_wp2_with fail
          go_ret
          exact ⟨_, _, (by rw [HZ2.out]; rfl), RO.out, HB.out⟩
end Go.Proofs.Ytalglocplebonaa.Mm
