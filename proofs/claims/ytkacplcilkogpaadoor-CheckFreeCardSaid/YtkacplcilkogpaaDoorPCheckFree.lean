/- The statement CheckFree, walked. -/
import Derived.Test.YtkacplcilkogpaaDoorPChkTr
namespace Go.Proofs.YtkacplcilkogpaaDoor.Mm
open Go.ChangeShapes Go.WideShapes Go.ChangeAt Go.RowKit
set_option linter.unusedVariables false
set_option linter.unusedSimpArgs false
set_option maxRecDepth 10000

theorem app_ndL {B : Nat} {w : World} {v : Value} {N : List (NdR × Value)} {ops : Array Oper} {rest : List Oper} {o : Oper} {a : Act} {Q : Exit → Act → World → Prop} (hgd : o.guard = none) (s x : Operand)
    (ho : o.op = .call { callee := .builtin .append, args := #[s, x], argTypes := #[26, 26] })
    (O : NdO w B v N) (hs : a.eval s = v) (y : NdR × Value) (hy : y.2.oneCell' = true) (q : Nat) (hx : a.eval x = .slice (some ⟨q, 0, none⟩) 1 1) (hq : HasB w q 37 (ndP y)) (hn : N.length ≤ 100000) (hB : B ≤ w.heap.size)
    (h : ∀ v' w', NdO w' B v' (N ++ [y]) → w.grownBy w' v.ownBlock → wpList Tryd.prog ops Q rest (a.put o.dst v') w') : wpList Tryd.prog ops Q (o :: rest) a w := by
  obtain ⟨u0, hu0, hz0, hz1, hz2⟩ := info_parts nd_info
  refine wpList_append_own_at w hgd s x 26 ho B 37 u0 _ 7 80 Tryd.underlying26 hu0 hz0 hz1 hz2 rfl (by decide) v N.length _ hs O ⟨q, 0, none⟩ 1 1 (ndP y) hx rfl
    (cellsN hq) (ndC_one y.1 y.2 hy) (by unfold maxLen; omega) (by omega) hB ?_
  intro v' w' r1 r2 _ _
  refine h v' w' ?_ r2
  show w'.ownsRow B 37 7 v' (N ++ [y]).length ((N ++ [y]).flatMap ndP)
  rw [List.flatMap_append, List.length_append]
  simpa using r1
def noN : Bs := [110, 111, 110, 101]
def freeB (b : Int) : Bool := decide (kindF (b % 14) = 0)
def frN (l : List Int) : List (NdR × Value) := (l.filter freeB).map fun b => ndK (b % 14) noN
theorem frN_snoc (l : List Int) (b : Int) : frN (l ++ [b]) = if kindF (b % 14) = 0 then frN l ++ [ndK (b % 14) noN] else frN l := by
  unfold frN
  rw [List.filter_append, List.map_append]
  by_cases h : kindF (b % 14) = 0 <;> simp [freeB, h]
theorem frN_ls (l : List Int) : ∀ p ∈ frN l, ∃ A l c, p.2 = .slice A l c := fun p hp => by
  obtain ⟨u, _, rfl⟩ := List.mem_map.1 hp
  exact ⟨none, 0, 0, rfl⟩
theorem frN_us (D : List Dc) (l : List Int) : rightE D (usN (frN l)) = rightE D [] := right_free D _ (fun u hu => by
  unfold usN frN at hu
  rw [List.map_map] at hu
  obtain ⟨b, hb, rfl⟩ := List.mem_map.1 hu
  exact of_decide_eq_true (List.mem_filter.1 hb).2)
theorem frN_len (l : List Int) : (frN l).length ≤ l.length := by unfold frN; rw [List.length_map]; exact List.length_filter_le _ _
theorem kindF_no {z : Int} (h2 : ¬ z = 2) (h3 : ¬ z = 3) (h7 : ¬ z = 7) (h8 : ¬ z = 8) : kindF z = 0 := by unfold kindF; rw [if_neg (by omega), if_neg (by omega)]
theorem kindF_yes {z : Int} (h : z = 2 ∨ z = 3 ∨ z = 7 ∨ z = 8) : ¬ kindF z = 0 := by rcases h with h | h | h | h <;> subst h <;> decide
set_option maxHeartbeats 32000000 in
theorem checkFree_walk (A : Option Addr) (n cap : Nat) (A' : Option Addr) (cap' : Nat) (ks : List Int) (w : World) (hD : ∃ D : List Dc, n = D.length ∧ DcsAt w A cap D) (hU : RowAt w A' cap' ks) (hE : EnvC w) :
    Calls Tryd.prog 4 #[.slice A n cap, .slice A' ks.length cap'] w fun e w' => e = .returned (.bool true) ∧ Below w.heap.size w w' := by
  obtain ⟨D, hn, hD⟩ := hD
  have HN := Lib.hid hn.symm
  have RD := Lib.hid hD
  have RU := Lib.hid hU
  have AW := Lib.hid (fun W (k : Below w.heap.size w W) => awakeC W (hE.below k))
  have B0 := Lib.hid (Below.refl w.heap.size w)
  obtain ⟨m, hm⟩ : ∃ m, ks.length = m := ⟨_, rfl⟩
  have HM := Lib.hid hm
  rw [hm]
  clear hn hm hD hU hE
  by_cases h50 : 50 < n
  · have hi : (50 : Int) < (n : Int) := by omega
    go_enter Tryd.func4, Tryd.ntmps4
    go_wp2_with fail
    refine (AW.out _ B0.out).mono ?_; rintro e w1 ⟨rfl, hb⟩
    have B1 := Lib.hid hb
    clear hb
    go_wp2_with fail
    refine (AW.out _ B1.out).mono ?_; rintro e w2 ⟨rfl, hb⟩
    have B2 := Lib.hid (bel_then B1.out hb)
    clear hb
    go_wp2
    go_ret
    exact ⟨rfl, B2.out⟩
  by_cases h51 : 50 < m
  · have hi : ¬ (50 : Int) < (n : Int) := by omega
    have hj : (50 : Int) < (m : Int) := by omega
    go_enter Tryd.func4, Tryd.ntmps4
    go_wp2_with fail
    refine (AW.out _ B0.out).mono ?_; rintro e w1 ⟨rfl, hb⟩
    have B1 := Lib.hid hb
    clear hb
    go_wp2_with fail
    refine (AW.out _ B1.out).mono ?_; rintro e w2 ⟨rfl, hb⟩
    have B2 := Lib.hid (bel_then B1.out hb)
    clear hb
    go_wp2
    go_ret
    exact ⟨rfl, B2.out⟩
  have hi : ¬ (50 : Int) < (n : Int) := by omega
  have hj : ¬ (50 : Int) < (m : Int) := by omega
  go_enter Tryd.func4, Tryd.ntmps4
  go_wp2_with fail
  refine (AW.out _ B0.out).mono ?_; rintro e w1 ⟨rfl, hb⟩
  have B1 := Lib.hid hb
  clear hb AW
  obtain ⟨w2, e2, T2⟩ : ∃ w2, w1.alloc (.cells #[.slice none 0 0, .slice none 0 0, .int .i64 0] 28) = w2 ∧ Hid (TrS w w1.heap.size (.slice none 0 0) [] (.slice none 0 0) [] w2) := ⟨_, rfl, Lib.hid (TrS.new w w1 B1.out)⟩
  go_wp2
  go_loopw [6] (fun i wd => ∃ (k : Nat) (dv : Value), i = .int .i64 k ∧ k ≤ n ∧ Hid (TrS w w1.heap.size dv (D.take k) (.slice none 0 0) [] wd) ∧ Hid (∀ d ∈ D.take k, d.1.length ≤ 100000)) (fun i _ => n - (intOf i).toNat)
  case atStart => exact ⟨0, _, rfl, Nat.zero_le _, T2, Lib.hid (fun d h => by simp at h)⟩
  case round =>
    obtain ⟨k, dv, rfl, hk, HT, HI⟩ := hrel
    clear T2 e2 B1
    by_cases hlt : k < n
    · obtain ⟨x, rfl, hxb, hc⟩ := RD.out.2.2 (by rw [HN.out]; omega)
      have CW := Lib.hid (fun (W : World) (b : Below w.heap.size w W) => (⟨(b.cell (by rw [block_add]; exact hxb)).trans (hc k (by rw [HN.out]; exact hlt)).1, (b.cell (p := ⟨(x.add (k * 2)).block, (x.add (k * 2)).off + 1, none⟩) (by show (x.add (k * 2)).block < _; rw [block_add]; exact hxb)).trans (hc k (by rw [HN.out]; exact hlt)).2⟩ : W.cell? (x.add (k * 2)) = some (.string (strB (D.getD k dz0).1)) ∧ W.cell? ⟨(x.add (k * 2)).block, (x.add (k * 2)).off + 1, none⟩ = some (.int .i64 (D.getD k dz0).2)))
      have KM := Lib.hid (take_snocD D k dz0 (by rw [HN.out]; exact hlt))
      clear hc hxb
      generalize D.getD k dz0 = d at *
      obtain ⟨s, z⟩ := d
      simp only at CW
      obtain ⟨c0, c1⟩ := CW.out wr HT.out.b
      have hki : (k : Int) < (n : Int) := by omega
      by_cases h20 : 20 < (strB s).size
      · have h20i : (20 : Int) < ((strB s).size : Int) := by omega
        go_wp2
        go_ret
        exact ⟨rfl, HT.out.b⟩
      · have h20i : ¬ (20 : Int) < ((strB s).size : Int) := by omega
        have I9 : Hid (∀ d ∈ D.take (k + 1), d.1.length ≤ 100000) := Lib.hid (fun d hd => by
          rw [KM.out] at hd
          rcases List.mem_append.1 hd with hd | hd
          · exact HI.out d hd
          · rw [List.mem_singleton.1 hd]; show s.length ≤ _; rw [← strB_size]; omega)
        obtain ⟨Ad, nd, kd, hdv⟩ : ∃ A n c, dv = .slice A n c := by obtain ⟨A, c, e⟩ := own_form HT.out.d; exact ⟨A, _, c, e⟩
        subst hdv
        have BD := Lib.hid (below_drewP HT.out.b)
        obtain ⟨W7, e7, T7, Q7⟩ : ∃ W7, wr.drew.alloc (.cells #[.string (strB s), .int .i64 z] 31) = W7 ∧ Hid (TrS w w1.heap.size (.slice Ad nd kd) (D.take k) (.slice none 0 0) [] W7) ∧ Hid (HasB W7 wr.heap.size 31 [.string (strB s), .int .i64 z]) := ⟨_, rfl, Lib.hid (HT.out.bel (bel_al (below_drewP (Below.refl _ wr)) _)), Lib.hid (HasB.new wr.drew _ _)⟩
        have t0 := HT.out.h.cell 0
        have u0 := T7.out.h.cell 0
        simp only [List.getElem?_cons_zero] at t0 u0
        have KS := Lib.hid (fun (w' : World) (b : Below w.heap.size w w') => (show (fun w' => w'.cell? (x.add (k * 2)) = some (.string (strB s)) ∧ w'.cell? ⟨(x.add (k * 2)).block, (x.add (k * 2)).off + 1, none⟩ = some (.int .i64 z)) w' from CW.out w' b))
        clear HI c1
        go_wp2_with fail
        refine wp_region_noPanic ?_
        refine wp_region_held_drew (S := (fun w' => w'.cell? (x.add (k * 2)) = some (.string (strB s)) ∧ w'.cell? ⟨(x.add (k * 2)).block, (x.add (k * 2)).off + 1, none⟩ = some (.int .i64 z))) (by kernel_rfl) ?_ (fun hHeld => ?_)
        · (try dsimp only)
          exact KS.out _ BD.out
        refine wpAnyH_take (i := 0) (oi := { dst := some 36, op := Op.fieldAddr 28 (Operand.tmp 5) 0, type := 0, pos := "law.go:100", after := #[], guard := none }) (v := ?_) rfl (by kernel_rfl) (by kernel_rfl) (by kernel_rfl) (fun _ _ _ h => h) (Or.inl ⟨by rfl, ?_⟩) (by assumption) ?_
        rotate_left
        · intro w hSw; (try dsimp only at hSw); go_simp <;> (with_reducible rfl)
        (try simp only [Act.put, List.setIfInBounds_toArray, List.set_cons_zero, List.set_cons_succ])
        refine wpAnyH_take (i := 2) (oi := { dst := some 38, op := Op.move (Operand.tmp 0), type := 22, pos := "law.go:100", after := #[], guard := none }) (v := ?_) rfl (by kernel_rfl) (by kernel_rfl) (by kernel_rfl) (fun _ _ _ h => h) (Or.inl ⟨by rfl, ?_⟩) (by assumption) ?_
        rotate_left
        · intro w hSw; (try dsimp only at hSw); go_simp <;> (with_reducible rfl)
        (try simp only [Act.put, List.setIfInBounds_toArray, List.set_cons_zero, List.set_cons_succ])
        refine wpAnyH_take (i := 3) (oi := { dst := some 39, op := Op.move (Operand.tmp 6), type := 3, pos := "law.go:100", after := #[], guard := none }) (v := ?_) rfl (by kernel_rfl) (by kernel_rfl) (by kernel_rfl) (fun _ _ _ h => h) (Or.inl ⟨by rfl, ?_⟩) (by assumption) ?_
        rotate_left
        · intro w hSw; (try dsimp only at hSw); go_simp <;> (with_reducible rfl)
        (try simp only [Act.put, List.setIfInBounds_toArray, List.set_cons_zero, List.set_cons_succ])
        refine wpAnyH_take (i := 4) (oi := { dst := some 40, op := Op.indexAddr 22 (Operand.tmp 38) (Operand.tmp 39), type := 0, pos := "law.go:100", after := #[{ on := 2, ground := Ground.data }, { on := 3, ground := Ground.data }], guard := none }) (v := ?_) rfl (by kernel_rfl) (by kernel_rfl) (by kernel_rfl) (fun _ _ _ h => h) (Or.inl ⟨by rfl, ?_⟩) (by assumption) ?_
        rotate_left
        · intro w hSw; (try dsimp only at hSw); go_simp <;> (with_reducible rfl)
        (try simp only [Act.put, List.setIfInBounds_toArray, List.set_cons_zero, List.set_cons_succ])
        refine wpAnyH_take (i := 5) (oi := { dst := some 41, op := Op.fieldAddr 30 (Operand.tmp 40) 0, type := 0, pos := "law.go:100", after := #[{ on := 4, ground := Ground.data }], guard := none }) (v := ?_) rfl (by kernel_rfl) (by kernel_rfl) (by kernel_rfl) (fun _ _ _ h => h) (Or.inl ⟨by rfl, ?_⟩) (by assumption) ?_
        rotate_left
        · intro w hSw; (try dsimp only at hSw); go_simp <;> (with_reducible rfl)
        (try simp only [Act.put, List.setIfInBounds_toArray, List.set_cons_zero, List.set_cons_succ])
        refine wpAnyH_take (i := 6) (oi := { dst := some 42, op := Op.load 9 (Operand.tmp 41), type := 9, pos := "law.go:100", after := #[{ on := 5, ground := Ground.data }], guard := none }) (v := ?_) rfl (by kernel_rfl) (by kernel_rfl) (by kernel_rfl) (fun _ _ _ h => h) (Or.inl ⟨by rfl, ?_⟩) (by assumption) ?_
        rotate_left
        · intro w hSw; (try dsimp only at hSw); go_simp <;> (with_reducible rfl)
        (try simp only [Act.put, List.setIfInBounds_toArray, List.set_cons_zero, List.set_cons_succ])
        refine wpAnyH_take (i := 7) (oi := { dst := some 43, op := Op.move (Operand.tmp 0), type := 22, pos := "law.go:100", after := #[], guard := none }) (v := ?_) rfl (by kernel_rfl) (by kernel_rfl) (by kernel_rfl) (fun _ _ _ h => h) (Or.inl ⟨by rfl, ?_⟩) (by assumption) ?_
        rotate_left
        · intro w hSw; (try dsimp only at hSw); go_simp <;> (with_reducible rfl)
        (try simp only [Act.put, List.setIfInBounds_toArray, List.set_cons_zero, List.set_cons_succ])
        refine wpAnyH_take (i := 8) (oi := { dst := some 44, op := Op.move (Operand.tmp 6), type := 3, pos := "law.go:100", after := #[], guard := none }) (v := ?_) rfl (by kernel_rfl) (by kernel_rfl) (by kernel_rfl) (fun _ _ _ h => h) (Or.inl ⟨by rfl, ?_⟩) (by assumption) ?_
        rotate_left
        · intro w hSw; (try dsimp only at hSw); go_simp <;> (with_reducible rfl)
        (try simp only [Act.put, List.setIfInBounds_toArray, List.set_cons_zero, List.set_cons_succ])
        refine wpAnyH_take (i := 9) (oi := { dst := some 45, op := Op.indexAddr 22 (Operand.tmp 43) (Operand.tmp 44), type := 0, pos := "law.go:100", after := #[{ on := 7, ground := Ground.data }, { on := 8, ground := Ground.data }], guard := none }) (v := ?_) rfl (by kernel_rfl) (by kernel_rfl) (by kernel_rfl) (fun _ _ _ h => h) (Or.inl ⟨by rfl, ?_⟩) (by assumption) ?_
        rotate_left
        · intro w hSw; (try dsimp only at hSw); go_simp <;> (with_reducible rfl)
        (try simp only [Act.put, List.setIfInBounds_toArray, List.set_cons_zero, List.set_cons_succ])
        refine wpAnyH_take (i := 10) (oi := { dst := some 46, op := Op.fieldAddr 30 (Operand.tmp 45) 1, type := 0, pos := "law.go:100", after := #[{ on := 9, ground := Ground.data }], guard := none }) (v := ?_) rfl (by kernel_rfl) (by kernel_rfl) (by kernel_rfl) (fun _ _ _ h => h) (Or.inl ⟨by rfl, ?_⟩) (by assumption) ?_
        rotate_left
        · intro w hSw; (try dsimp only at hSw); go_simp <;> (with_reducible rfl)
        (try simp only [Act.put, List.setIfInBounds_toArray, List.set_cons_zero, List.set_cons_succ])
        refine wpAnyH_take (i := 11) (oi := { dst := some 47, op := Op.load 3 (Operand.tmp 46), type := 3, pos := "law.go:100", after := #[{ on := 10, ground := Ground.data }], guard := none }) (v := ?_) rfl (by kernel_rfl) (by kernel_rfl) (by kernel_rfl) (fun _ _ _ h => h) (Or.inl ⟨by rfl, ?_⟩) (by assumption) ?_
        rotate_left
        · intro w hSw; (try dsimp only at hSw); go_simp <;> (with_reducible rfl)
        (try simp only [Act.put, List.setIfInBounds_toArray, List.set_cons_zero, List.set_cons_succ])
        refine wpAnyH_take (i := 12) (oi := { dst := some 48, op := Op.build 31 #[(0, Operand.tmp 42), (1, Operand.tmp 47)], type := 31, pos := "law.go:100", after := #[{ on := 6, ground := Ground.data }, { on := 11, ground := Ground.data }], guard := none }) (v := ?_) rfl (by kernel_rfl) (by kernel_rfl) (by kernel_rfl) (fun _ _ _ h => h) (Or.inl ⟨by rfl, ?_⟩) (by assumption) ?_
        rotate_left
        · intro w hSw; (try dsimp only at hSw); go_simp <;> (with_reducible rfl)
        (try simp only [Act.put, List.setIfInBounds_toArray, List.set_cons_zero, List.set_cons_succ])
        refine wpAnyH_ready (rs := [1, 13]) (by kernel_rfl) (by simp) ?_
        refine AllReadyH.cons (o := { dst := some 37, op := Op.load 25 (Operand.tmp 36), type := 25, pos := "law.go:100", after := #[{ on := 0, ground := Ground.data }], guard := none }) rfl (fun K hK => ?_) ?_
        · go_simp
          refine hK.out _ _ ?_ (fun hHeld => ?_)
          · (try dsimp only)
            first | exact KS.out _ BD.out | exact KS.out _ T7.out.b
          clear hK K
          (try simp only [Act.put, List.setIfInBounds_toArray, List.set_cons_zero, List.set_cons_succ])
          refine wpAnyH_ready (rs := [13]) (by kernel_rfl) (by simp) ?_
          refine AllReadyH.cons (o := { dst := some 49, op := Op.buildSlice 25 1 #[(0, Operand.tmp 48)], type := 25, pos := "law.go:100", after := #[{ on := 12, ground := Ground.data }], guard := none }) rfl (fun K hK => ?_) ?_
          · go_simp
            refine hK.out _ _ ?_ (fun hHeld => ?_)
            · (try dsimp only)
              exact KS.out _ T7.out.b
            clear hK K
            (try simp only [Act.put, List.setIfInBounds_toArray, List.set_cons_zero, List.set_cons_succ])
            refine wpAnyH_ready (rs := [14]) (by kernel_rfl) (by simp) ?_
            refine AllReadyH.cons (o := { dst := some 50, op := Op.call { callee := Callee.builtin Builtin.append, args := #[Operand.tmp 37, Operand.tmp 49], argTypes := #[25, 25] }, type := 25, pos := "law.go:100", after := #[{ on := 1, ground := Ground.data }, { on := 13, ground := Ground.data }], guard := none }) rfl (fun K hK => ?_) ?_
            · refine app_dcO (.tmp 37) (.tmp 49) rfl T7.out.d rfl (s, z) wr.heap.size rfl Q7.out (by rw [List.length_take]; omega) T7.out.b.size ?_
              intro v8 w8 O8 g8 n8 one8
              obtain ⟨A8, l8, k8, rfl⟩ : ∃ A n c, v8 = .slice A n c := by obtain ⟨A, c, e⟩ := own_form O8; exact ⟨A, _, c, e⟩
              obtain ⟨T9, c8, f8, B8⟩ := T7.out.dec O8 g8
              have B8 := Lib.hid B8
              have T9 := Lib.hid T9
              have c8 := c8
              clear O8 g8 n8
              refine hK.out _ _ ?_ (fun hHeld => ?_)
              · (try dsimp only)
                exact KS.out _ B8.out
              clear hK K
              (try simp only [Act.put, List.setIfInBounds_toArray, List.set_cons_zero, List.set_cons_succ])
              refine wpAnyH_take (i := 15) (oi := { dst := some 51, op := Op.fieldAddr 28 (Operand.tmp 5) 0, type := 0, pos := "law.go:100", after := #[{ on := 0, ground := Ground.phase }, { on := 1, ground := Ground.phase }, { on := 2, ground := Ground.phase }, { on := 3, ground := Ground.phase }, { on := 4, ground := Ground.phase }, { on := 5, ground := Ground.phase }, { on := 6, ground := Ground.phase }, { on := 7, ground := Ground.phase }, { on := 8, ground := Ground.phase }, { on := 9, ground := Ground.phase }, { on := 10, ground := Ground.phase }, { on := 11, ground := Ground.phase }, { on := 12, ground := Ground.phase }, { on := 13, ground := Ground.phase }, { on := 14, ground := Ground.phase }], guard := none }) (v := ?_) rfl (by kernel_rfl) (by kernel_rfl) (by kernel_rfl) (fun _ _ _ h => h) (Or.inl ⟨by rfl, ?_⟩) (by assumption) ?_
              rotate_left
              · intro w hSw; (try dsimp only at hSw); go_simp <;> (with_reducible rfl)
              (try simp only [Act.put, List.setIfInBounds_toArray, List.set_cons_zero, List.set_cons_succ])
              refine wpAnyH_ready (rs := [16]) (by kernel_rfl) (by simp) ?_
              refine AllReadyH.cons (o := { dst := none, op := Op.store 25 (Operand.tmp 51) (Operand.tmp 50), type := 0, pos := "law.go:100", after := #[{ on := 15, ground := Ground.data }, { on := 14, ground := Ground.data }, { on := 14, ground := Ground.chain }, { on := 0, ground := Ground.phase }, { on := 1, ground := Ground.phase }, { on := 2, ground := Ground.phase }, { on := 3, ground := Ground.phase }, { on := 4, ground := Ground.phase }, { on := 5, ground := Ground.phase }, { on := 6, ground := Ground.phase }, { on := 7, ground := Ground.phase }, { on := 8, ground := Ground.phase }, { on := 9, ground := Ground.phase }, { on := 10, ground := Ground.phase }, { on := 11, ground := Ground.phase }, { on := 12, ground := Ground.phase }, { on := 13, ground := Ground.phase }, { on := 14, ground := Ground.phase }], guard := none }) rfl (fun K hK => ?_) ?_
              · go_simp
                refine hK.out _ _ ?_ (fun hHeld => ?_)
                · (try dsimp only)
                  exact KS.out _ T9.out.b
                clear hK K
                (try simp only [Act.put, List.setIfInBounds_toArray, List.set_cons_zero, List.set_cons_succ])
                refine wpAnyH_done (by kernel_rfl) ?_ _
                refine NoPanic.normal ?_
                have T10 := Lib.hid (show TrS w w1.heap.size (.slice A8 l8 k8) (D.take (k + 1)) (.slice none 0 0) [] _ by rw [KM.out]; exact T9.out)
                generalize w8.setCell ⟨w1.heap.size, 0, none⟩ (.slice A8 l8 k8) = w9 at *
                clear hHeld T9 B8 c8 f8
                go_wp2
                go_roundw
                case rel => exact ⟨k + 1, _, by go_num, by omega, T10, I9⟩
                case measure => simp [intOf]; omega
              exact AllReadyH.nil
            exact AllReadyH.nil
          exact AllReadyH.nil
        refine AllReadyH.cons (o := { dst := some 49, op := Op.buildSlice 25 1 #[(0, Operand.tmp 48)], type := 25, pos := "law.go:100", after := #[{ on := 12, ground := Ground.data }], guard := none }) rfl (fun K hK => ?_) ?_
        · go_simp
          refine hK.out _ _ ?_ (fun hHeld => ?_)
          · (try dsimp only)
            exact KS.out _ T7.out.b
          clear hK K
          (try simp only [Act.put, List.setIfInBounds_toArray, List.set_cons_zero, List.set_cons_succ])
          refine wpAnyH_ready (rs := [1]) (by kernel_rfl) (by simp) ?_
          refine AllReadyH.cons (o := { dst := some 37, op := Op.load 25 (Operand.tmp 36), type := 25, pos := "law.go:100", after := #[{ on := 0, ground := Ground.data }], guard := none }) rfl (fun K hK => ?_) ?_
          · go_simp
            refine hK.out _ _ ?_ (fun hHeld => ?_)
            · (try dsimp only)
              first | exact KS.out _ BD.out | exact KS.out _ T7.out.b
            clear hK K
            (try simp only [Act.put, List.setIfInBounds_toArray, List.set_cons_zero, List.set_cons_succ])
            refine wpAnyH_ready (rs := [14]) (by kernel_rfl) (by simp) ?_
            refine AllReadyH.cons (o := { dst := some 50, op := Op.call { callee := Callee.builtin Builtin.append, args := #[Operand.tmp 37, Operand.tmp 49], argTypes := #[25, 25] }, type := 25, pos := "law.go:100", after := #[{ on := 1, ground := Ground.data }, { on := 13, ground := Ground.data }], guard := none }) rfl (fun K hK => ?_) ?_
            · refine app_dcO (.tmp 37) (.tmp 49) rfl T7.out.d rfl (s, z) wr.heap.size rfl Q7.out (by rw [List.length_take]; omega) T7.out.b.size ?_
              intro v8 w8 O8 g8 n8 one8
              obtain ⟨A8, l8, k8, rfl⟩ : ∃ A n c, v8 = .slice A n c := by obtain ⟨A, c, e⟩ := own_form O8; exact ⟨A, _, c, e⟩
              obtain ⟨T9, c8, f8, B8⟩ := T7.out.dec O8 g8
              have B8 := Lib.hid B8
              have T9 := Lib.hid T9
              have c8 := c8
              clear O8 g8 n8
              refine hK.out _ _ ?_ (fun hHeld => ?_)
              · (try dsimp only)
                exact KS.out _ B8.out
              clear hK K
              (try simp only [Act.put, List.setIfInBounds_toArray, List.set_cons_zero, List.set_cons_succ])
              refine wpAnyH_take (i := 15) (oi := { dst := some 51, op := Op.fieldAddr 28 (Operand.tmp 5) 0, type := 0, pos := "law.go:100", after := #[{ on := 0, ground := Ground.phase }, { on := 1, ground := Ground.phase }, { on := 2, ground := Ground.phase }, { on := 3, ground := Ground.phase }, { on := 4, ground := Ground.phase }, { on := 5, ground := Ground.phase }, { on := 6, ground := Ground.phase }, { on := 7, ground := Ground.phase }, { on := 8, ground := Ground.phase }, { on := 9, ground := Ground.phase }, { on := 10, ground := Ground.phase }, { on := 11, ground := Ground.phase }, { on := 12, ground := Ground.phase }, { on := 13, ground := Ground.phase }, { on := 14, ground := Ground.phase }], guard := none }) (v := ?_) rfl (by kernel_rfl) (by kernel_rfl) (by kernel_rfl) (fun _ _ _ h => h) (Or.inl ⟨by rfl, ?_⟩) (by assumption) ?_
              rotate_left
              · intro w hSw; (try dsimp only at hSw); go_simp <;> (with_reducible rfl)
              (try simp only [Act.put, List.setIfInBounds_toArray, List.set_cons_zero, List.set_cons_succ])
              refine wpAnyH_ready (rs := [16]) (by kernel_rfl) (by simp) ?_
              refine AllReadyH.cons (o := { dst := none, op := Op.store 25 (Operand.tmp 51) (Operand.tmp 50), type := 0, pos := "law.go:100", after := #[{ on := 15, ground := Ground.data }, { on := 14, ground := Ground.data }, { on := 14, ground := Ground.chain }, { on := 0, ground := Ground.phase }, { on := 1, ground := Ground.phase }, { on := 2, ground := Ground.phase }, { on := 3, ground := Ground.phase }, { on := 4, ground := Ground.phase }, { on := 5, ground := Ground.phase }, { on := 6, ground := Ground.phase }, { on := 7, ground := Ground.phase }, { on := 8, ground := Ground.phase }, { on := 9, ground := Ground.phase }, { on := 10, ground := Ground.phase }, { on := 11, ground := Ground.phase }, { on := 12, ground := Ground.phase }, { on := 13, ground := Ground.phase }, { on := 14, ground := Ground.phase }], guard := none }) rfl (fun K hK => ?_) ?_
              · go_simp
                refine hK.out _ _ ?_ (fun hHeld => ?_)
                · (try dsimp only)
                  exact KS.out _ T9.out.b
                clear hK K
                (try simp only [Act.put, List.setIfInBounds_toArray, List.set_cons_zero, List.set_cons_succ])
                refine wpAnyH_done (by kernel_rfl) ?_ _
                refine NoPanic.normal ?_
                have T10 := Lib.hid (show TrS w w1.heap.size (.slice A8 l8 k8) (D.take (k + 1)) (.slice none 0 0) [] _ by rw [KM.out]; exact T9.out)
                generalize w8.setCell ⟨w1.heap.size, 0, none⟩ (.slice A8 l8 k8) = w9 at *
                clear hHeld T9 B8 c8 f8
                go_wp2
                go_roundw
                case rel => exact ⟨k + 1, _, by go_num, by omega, T10, I9⟩
                case measure => simp [intOf]; omega
              exact AllReadyH.nil
            exact AllReadyH.nil
          exact AllReadyH.nil
        exact AllReadyH.nil
    · obtain rfl : k = n := by omega
      have HE : Hid (D.take k = D) := Lib.hid (List.take_of_length_le (by rw [HN.out]; exact Nat.le_refl _))
      have HS : Hid (∀ d ∈ D, d.1.length ≤ 100000) := Lib.hid (by have := HI.out; rwa [HE.out] at this)
      have HT2 : Hid (TrS w w1.heap.size dv D (.slice none 0 0) [] wr) := Lib.hid (by have := HT.out; rwa [HE.out] at this)
      obtain ⟨Ad, nd, kd, hdv⟩ : ∃ A n c, dv = .slice A n c := by obtain ⟨A, c, e⟩ := own_form HT2.out.d; exact ⟨A, _, c, e⟩
      subst hdv
      have hkl : D.length ≤ 100000 := by rw [HN.out]; omega
      have CR := rightT HT2.out hkl HS.out (Nat.zero_le _) (fun p hp => absurd hp (by simp)) 0
      rw [show usN [] = [] from rfl] at CR
      obtain ⟨rr, hrr⟩ : ∃ rr, rightE D [] = rr := ⟨_, rfl⟩
      have HR := Lib.hid hrr
      rw [hrr] at CR
      unfold treeV at CR
      replace CR := Lib.hid CR
      have t0 := HT2.out.h.cell 0
      have t1 := HT2.out.h.cell 1
      have t2 := HT2.out.h.cell 2
      simp only [List.getElem?_cons_zero, List.getElem?_cons_succ] at t0 t1 t2
      clear HT HI HE hrr hkl
      go_wp2_with fail
      refine CR.out.mono ?_; rintro e w3 ⟨rfl, b3⟩
      have T3 := Lib.hid (HT2.out.bel b3)
      clear b3 CR t0 t1 t2
      go_wp2
      go_loopw [8] (fun i wd => ∃ (p : Nat) (nv : Value), i = .int .i64 p ∧ p ≤ m ∧ Hid (TrS w w1.heap.size (.slice Ad nd kd) D nv (frN (ks.take p)) wd)) (fun i _ => m - (intOf i).toNat)
      case atStart => exact ⟨0, _, rfl, Nat.zero_le _, T3⟩
      case round =>
        obtain ⟨p, nv, rfl, hp, HT⟩ := hrel
        clear T3 HT2
        by_cases hlt2 : p < m
        · obtain ⟨r1, r2, r3, r4⟩ := RU.out.below HT.out.b
          obtain ⟨y, rfl, hyb, hc⟩ := r4 (by intro e; have := HM.out; rw [e] at this; simp at this; omega)
          have c0 := hc p (by rw [HM.out]; exact hlt2)
          have KB := Lib.hid (r3 (ks.getD p 0) (by rw [List.getD_eq_getElem?_getD, List.getElem?_eq_getElem (by rw [HM.out]; exact hlt2)]; exact List.getElem_mem _))
          have KM := Lib.hid (take_snocD ks p 0 (by rw [HM.out]; exact hlt2))
          have KL : Hid ((frN (ks.take p)).length ≤ 100000) := Lib.hid (Nat.le_trans (frN_len _) (by rw [List.length_take]; omega))
          clear hc hyb r1 r2 r3 r4
          generalize ks.getD p 0 = b at *
          have hb0 : 0 ≤ b := KB.out.1
          have hb1 : b ≤ 255 := by have := KB.out.2; omega
          have KF := Lib.hid (show frN (ks.take (p + 1)) = if kindF (b % 14) = 0 then frN (ks.take p) ++ [ndK (b % 14) noN] else frN (ks.take p) by rw [KM.out, frN_snoc])
          have hpi : (p : Int) < (m : Int) := by omega
          clear KM KB
          by_cases hz : b % 14 = 2 ∨ b % 14 = 3 ∨ b % 14 = 7 ∨ b % 14 = 8
          · have T10 := Lib.hid (show TrS w w1.heap.size (.slice Ad nd kd) D nv (frN (ks.take (p + 1))) wr by rw [KF.out, if_neg (kindF_yes hz)]; exact HT.out)
            clear KF
            rcases hz with hz | hz | hz | hz
            all_goals
              go_wp2
              go_roundw
              case rel => exact ⟨p + 1, _, by go_num, by omega, T10⟩
              case measure => simp [intOf]; omega
          · have h2 : ¬ b % 14 = 2 := fun h => hz (.inl h)
            have h3 : ¬ b % 14 = 3 := fun h => hz (.inr (.inl h))
            have h7 : ¬ b % 14 = 7 := fun h => hz (.inr (.inr (.inl h)))
            have h8 : ¬ b % 14 = 8 := fun h => hz (.inr (.inr (.inr h)))
            replace KF := Lib.hid (KF.out.trans (if_pos (kindF_no h2 h3 h7 h8)))
            have d2 : (b % 14 != 2) = true := by simpa using h2
            have d3 : (b % 14 != 3) = true := by simpa using h3
            have d7 : (b % 14 != 7) = true := by simpa using h7
            have d8 : (b % 14 != 8) = true := by simpa using h8
            clear hz
            obtain ⟨W7, e7, T7, Q7⟩ : ∃ W7, wr.alloc (.cells #[.int .i64 (b % 14), .int .i64 0, .int .i64 0, .int .i64 0, .string ⟨#[110, 111, 110, 101]⟩, .int .u32 0, .slice none 0 0] 37) = W7 ∧ Hid (TrS w w1.heap.size (.slice Ad nd kd) D nv (frN (ks.take p)) W7) ∧ Hid (HasB W7 wr.heap.size 37 (ndP (ndK (b % 14) noN))) := ⟨_, rfl, Lib.hid (HT.out.bel (bel_al (Below.refl _ wr) _)), Lib.hid (HasB.new wr _ _)⟩
            have t0 := HT.out.h.cell 1
            have u0 := T7.out.h.cell 1
            simp only [List.getElem?_cons_zero, List.getElem?_cons_succ] at t0 u0
            go_wp2_with (at_builtin; refine app_ndL rfl (.tmp 81) (.tmp 84) rfl T7.out.n rfl (ndK (b % 14) noN) rfl wr.heap.size rfl Q7.out KL.out T7.out.b.size ?_; intro v8 w8 O8 g8; obtain ⟨A8, l8, k8, rfl⟩ : ∃ A n c, v8 = .slice A n c := (by obtain ⟨A, c, e⟩ := own_form O8; exact ⟨A, _, c, e⟩); obtain ⟨T9, c8, f8, B8⟩ := T7.out.nod O8 g8; have T9 := Lib.hid T9; clear O8 g8 B8)
            have T10 := Lib.hid (show TrS w w1.heap.size (.slice Ad nd kd) D (.slice A8 l8 k8) (frN (ks.take (p + 1))) _ by rw [KF.out]; exact T9.out)
            clear T9 KF
            go_wp2
            go_roundw
            case rel => exact ⟨p + 1, _, by go_num, by omega, T10⟩
            case measure => simp [intOf]; omega
        · obtain rfl : p = m := by omega
          obtain ⟨An, nn, kn, hnv⟩ : ∃ A n c, nv = .slice A n c := by obtain ⟨A, c, e⟩ := own_form HT.out.n; exact ⟨A, _, c, e⟩
          subst hnv
          have HE : Hid (ks.take p = ks) := Lib.hid (List.take_of_length_le (by rw [HM.out]; exact Nat.le_refl _))
          have HT3 : Hid (TrS w w1.heap.size (.slice Ad nd kd) D (.slice An nn kn) (frN ks) wr) := Lib.hid (by have := HT.out; rwa [HE.out] at this)
          have CR := rightT HT3.out (by rw [HN.out]; omega) HS.out (Nat.le_trans (frN_len ks) (by rw [HM.out]; omega)) (frN_ls ks) 0
          rw [frN_us, HR.out] at CR
          unfold treeV at CR
          replace CR := Lib.hid CR
          have t0 := HT3.out.h.cell 0
          have t1 := HT3.out.h.cell 1
          have t2 := HT3.out.h.cell 2
          simp only [List.getElem?_cons_zero, List.getElem?_cons_succ] at t0 t1 t2
          clear HT HE
          go_wp2_with fail
          refine CR.out.mono ?_; rintro e w4 ⟨rfl, b4⟩
          have T4 := Lib.hid (HT3.out.bel b4)
          clear b4 CR
          go_wp2
          go_ret
          exact ⟨by first | rfl | simp, T4.out.b⟩
end Go.Proofs.YtkacplcilkogpaaDoor.Mm
