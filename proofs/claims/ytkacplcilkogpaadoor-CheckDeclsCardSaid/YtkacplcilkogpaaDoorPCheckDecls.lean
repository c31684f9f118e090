/- The statement CheckDecls, walked. -/
import Derived.Test.YtkacplcilkogpaaDoorPChkTr
namespace Go.Proofs.YtkacplcilkogpaaDoor.Mm
open Go.ChangeShapes Go.WideShapes Go.ChangeAt Go.RowKit
set_option linter.unusedVariables false
set_option linter.unusedSimpArgs false
set_option maxRecDepth 10000

def kdU (u : Bool × Bs) : NdR × Value := ndK (if u.1 then 3 else 2) u.2
theorem kdU_us (U : List (Bool × Bs)) : usN (U.map kdU) = U.map (kOf 2 3) := by
  unfold usN
  rw [List.map_map]
  rfl
theorem kdU_ls (U : List (Bool × Bs)) : ∀ p ∈ U.map kdU, ∃ A l c, p.2 = .slice A l c := fun p hp => by
  obtain ⟨u, _, rfl⟩ := List.mem_map.1 hp
  exact ⟨none, 0, 0, rfl⟩
structure CdI (D : List Dc) (k v a : Nat) : Prop where
  v : v = (varsL (D.take k)).length
  a : a = (arrsL (D.take k)).length
  s : ∀ d ∈ D.take k, d.1.length ≤ 100000
theorem CdI.vars {D : List Dc} {k v a : Nat} {s : Bs} {z : Int} (h : CdI D k v a) (hk : D.take (k + 1) = D.take k ++ [(s, z)]) (hs : s.length ≤ 100000) (hz : z = -1) : CdI D (k + 1) (v + 1) a := by
  refine ⟨?_, ?_, ?_⟩ <;> rw [hk]
  · rw [vars_snoc, if_pos hz, List.length_append, ← h.v]; rfl
  · rw [arrs_snoc, if_pos hz]; exact h.a
  · intro d hd
    rcases List.mem_append.1 hd with hd | hd
    · exact h.s d hd
    · rw [List.mem_singleton.1 hd]; exact hs
theorem CdI.arrs {D : List Dc} {k v a : Nat} {s : Bs} {z : Int} (h : CdI D k v a) (hk : D.take (k + 1) = D.take k ++ [(s, z)]) (hs : s.length ≤ 100000) (hz : ¬ z = -1) : CdI D (k + 1) v (a + 1) := by
  refine ⟨?_, ?_, ?_⟩ <;> rw [hk]
  · rw [vars_snoc, if_neg hz]; exact h.v
  · rw [arrs_snoc, if_neg hz, List.length_append, ← h.a]; rfl
  · intro d hd
    rcases List.mem_append.1 hd with hd | hd
    · exact h.s d hd
    · rw [List.mem_singleton.1 hd]; exact hs
set_option maxHeartbeats 32000000 in
theorem checkDecls_walk (A : Option Addr) (n cap : Nat) (A' : Option Addr) (m cap' : Nat) (w : World) (hD : ∃ D : List Dc, n = D.length ∧ DcsAt w A cap D) (hU : ∃ U : List (Bool × Bs), m = U.length ∧ UssAt w A' cap' U) (hE : EnvC w) :
    Calls Tryd.prog 3 #[.slice A n cap, .slice A' m cap'] w fun e w' => e = .returned (.bool true) ∧ Below w.heap.size w w' := by
  obtain ⟨D, hn, hD⟩ := hD
  obtain ⟨U, hm, hU⟩ := hU
  have HN := Lib.hid hn.symm
  have HM := Lib.hid hm.symm
  have RD := Lib.hid hD
  have RU := Lib.hid hU
  have AW := Lib.hid (fun W (k : Below w.heap.size w W) => awakeC W (hE.below k))
  have B0 := Lib.hid (Below.refl w.heap.size w)
  clear hn hm hD hU hE
  by_cases h50 : 50 < n
  · have hi : (50 : Int) < (n : Int) := by omega
    go_enter Tryd.func3, Tryd.ntmps3
    go_wp2_with fail
    refine (AW.out _ B0.out).mono ?_; rintro e w1 ⟨rfl, hb⟩
    have B1 := Lib.hid hb
    clear hb
    go_wp2_with fail
    refine (AW.out _ B1.out).mono ?_; rintro e w2 ⟨rfl, hb⟩
    have B2 := Lib.hid (bel_then B1.out hb)
    clear hb
    go_wp2
    go_ret
    exact ⟨rfl, B2.out⟩
  by_cases h51 : 50 < m
  · have hi : ¬ (50 : Int) < (n : Int) := by omega
    have hj : (50 : Int) < (m : Int) := by omega
    go_enter Tryd.func3, Tryd.ntmps3
    go_wp2_with fail
    refine (AW.out _ B0.out).mono ?_; rintro e w1 ⟨rfl, hb⟩
    have B1 := Lib.hid hb
    clear hb
    go_wp2_with fail
    refine (AW.out _ B1.out).mono ?_; rintro e w2 ⟨rfl, hb⟩
    have B2 := Lib.hid (bel_then B1.out hb)
    clear hb
    go_wp2
    go_ret
    exact ⟨rfl, B2.out⟩
  have hi : ¬ (50 : Int) < (n : Int) := by omega
  have hj : ¬ (50 : Int) < (m : Int) := by omega
  go_enter Tryd.func3, Tryd.ntmps3
  go_wp2_with fail
  refine (AW.out _ B0.out).mono ?_; rintro e w1 ⟨rfl, hb⟩
  have B1 := Lib.hid hb
  clear hb AW
  obtain ⟨w2, e2, T2⟩ : ∃ w2, w1.alloc (.cells #[.slice none 0 0, .slice none 0 0, .int .i64 0] 28) = w2 ∧ Hid (TrS w w1.heap.size (.slice none 0 0) [] (.slice none 0 0) [] w2) := ⟨_, rfl, Lib.hid (TrS.new w w1 B1.out)⟩
  go_wp2
  go_loopw [6, 7, 8] (fun va ar i wd => ∃ (k v a : Nat) (dv : Value), va = .int .i64 v ∧ ar = .int .i64 a ∧ i = .int .i64 k ∧ k ≤ n ∧ v ≤ k ∧ a ≤ k ∧ Hid (TrS w w1.heap.size dv (D.take k) (.slice none 0 0) [] wd) ∧ Hid (CdI D k v a)) (fun _ _ i _ => n - (intOf i).toNat)
  case atStart => exact ⟨0, 0, 0, _, rfl, rfl, rfl, Nat.zero_le _, Nat.zero_le _, Nat.zero_le _, T2, Lib.hid ⟨rfl, rfl, fun d h => by simp at h⟩⟩
  case round =>
    obtain ⟨k, v, a, dv, rfl, rfl, rfl, hk, hv, ha, HT, HI⟩ := hrel
    clear T2 e2 B1
    by_cases hlt : k < n
    · obtain ⟨x, rfl, hxb, hc⟩ := RD.out.2.2 (by rw [HN.out]; omega)
      have CW := Lib.hid (fun (W : World) (b : Below w.heap.size w W) => (⟨(b.cell (by rw [block_add]; exact hxb)).trans (hc k (by rw [HN.out]; exact hlt)).1, (b.cell (p := ⟨(x.add (k * 2)).block, (x.add (k * 2)).off + 1, none⟩) (by show (x.add (k * 2)).block < _; rw [block_add]; exact hxb)).trans (hc k (by rw [HN.out]; exact hlt)).2⟩ : W.cell? (x.add (k * 2)) = some (.string (strB (D.getD k dz0).1)) ∧ W.cell? ⟨(x.add (k * 2)).block, (x.add (k * 2)).off + 1, none⟩ = some (.int .i64 (D.getD k dz0).2)))
      have KM := Lib.hid (take_snocD D k dz0 (by rw [HN.out]; exact hlt))
      clear hc hxb
      generalize D.getD k dz0 = d at *
      obtain ⟨s, z⟩ := d
      simp only at CW
      obtain ⟨c0, c1⟩ := CW.out wr HT.out.b
      have hki : (k : Int) < (n : Int) := by omega
      have vi : (v : Int) ≤ 50 := by omega
      have ai : (a : Int) ≤ 50 := by omega
      by_cases h20 : 20 < (strB s).size
      · have h20i : (20 : Int) < ((strB s).size : Int) := by omega
        go_wp2
        go_ret
        exact ⟨rfl, HT.out.b⟩
      · have h20i : ¬ (20 : Int) < ((strB s).size : Int) := by omega
        have HL : Hid (s.length ≤ 100000) := Lib.hid (by rw [← strB_size]; omega)
        have IV := Lib.hid (fun h => HI.out.vars KM.out HL.out h)
        have IA := Lib.hid (fun h => HI.out.arrs KM.out HL.out h)
        obtain ⟨Ad, nd, kd, hdv⟩ : ∃ A n c, dv = .slice A n c := by obtain ⟨A, c, e⟩ := own_form HT.out.d; exact ⟨A, _, c, e⟩
        subst hdv
        have BD := Lib.hid (below_drewP HT.out.b)
        obtain ⟨W7, e7, T7, Q7⟩ : ∃ W7, wr.drew.alloc (.cells #[.string (strB s), .int .i64 z] 31) = W7 ∧ Hid (TrS w w1.heap.size (.slice Ad nd kd) (D.take k) (.slice none 0 0) [] W7) ∧ Hid (HasB W7 wr.heap.size 31 [.string (strB s), .int .i64 z]) := ⟨_, rfl, Lib.hid (HT.out.bel (bel_al (below_drewP (Below.refl _ wr)) _)), Lib.hid (HasB.new wr.drew _ _)⟩
        have t0 := HT.out.h.cell 0
        have u0 := T7.out.h.cell 0
        simp only [List.getElem?_cons_zero] at t0 u0
        have KS := Lib.hid (fun (w' : World) (b : Below w.heap.size w w') => (show (fun w' => w'.cell? (x.add (k * 2)) = some (.string (strB s)) ∧ w'.cell? ⟨(x.add (k * 2)).block, (x.add (k * 2)).off + 1, none⟩ = some (.int .i64 z)) w' from CW.out w' b))
        clear HI c1
        go_wp2_with fail
        refine wp_region_noPanic ?_
        refine wp_region_held_drew (S := (fun w' => w'.cell? (x.add (k * 2)) = some (.string (strB s)) ∧ w'.cell? ⟨(x.add (k * 2)).block, (x.add (k * 2)).off + 1, none⟩ = some (.int .i64 z))) (by kernel_rfl) ?_ (fun hHeld => ?_)
        · (try dsimp only)
          exact KS.out _ BD.out
        refine wpAnyH_take (i := 0) (oi := { dst := some 37, op := Op.fieldAddr 28 (Operand.tmp 5) 0, type := 0, pos := "law.go:70", after := #[], guard := none }) (v := ?_) rfl (by kernel_rfl) (by kernel_rfl) (by kernel_rfl) (fun _ _ _ h => h) (Or.inl ⟨by rfl, ?_⟩) (by assumption) ?_
        rotate_left
        · intro w hSw; (try dsimp only at hSw); go_simp <;> (with_reducible rfl)
        (try simp only [Act.put, List.setIfInBounds_toArray, List.set_cons_zero, List.set_cons_succ])
        refine wpAnyH_take (i := 2) (oi := { dst := some 39, op := Op.move (Operand.tmp 0), type := 22, pos := "law.go:70", after := #[], guard := none }) (v := ?_) rfl (by kernel_rfl) (by kernel_rfl) (by kernel_rfl) (fun _ _ _ h => h) (Or.inl ⟨by rfl, ?_⟩) (by assumption) ?_
        rotate_left
        · intro w hSw; (try dsimp only at hSw); go_simp <;> (with_reducible rfl)
        (try simp only [Act.put, List.setIfInBounds_toArray, List.set_cons_zero, List.set_cons_succ])
        refine wpAnyH_take (i := 3) (oi := { dst := some 40, op := Op.move (Operand.tmp 8), type := 3, pos := "law.go:70", after := #[], guard := none }) (v := ?_) rfl (by kernel_rfl) (by kernel_rfl) (by kernel_rfl) (fun _ _ _ h => h) (Or.inl ⟨by rfl, ?_⟩) (by assumption) ?_
        rotate_left
        · intro w hSw; (try dsimp only at hSw); go_simp <;> (with_reducible rfl)
        (try simp only [Act.put, List.setIfInBounds_toArray, List.set_cons_zero, List.set_cons_succ])
        refine wpAnyH_take (i := 4) (oi := { dst := some 41, op := Op.indexAddr 22 (Operand.tmp 39) (Operand.tmp 40), type := 0, pos := "law.go:70", after := #[{ on := 2, ground := Ground.data }, { on := 3, ground := Ground.data }], guard := none }) (v := ?_) rfl (by kernel_rfl) (by kernel_rfl) (by kernel_rfl) (fun _ _ _ h => h) (Or.inl ⟨by rfl, ?_⟩) (by assumption) ?_
        rotate_left
        · intro w hSw; (try dsimp only at hSw); go_simp <;> (with_reducible rfl)
        (try simp only [Act.put, List.setIfInBounds_toArray, List.set_cons_zero, List.set_cons_succ])
        refine wpAnyH_take (i := 5) (oi := { dst := some 42, op := Op.fieldAddr 30 (Operand.tmp 41) 0, type := 0, pos := "law.go:70", after := #[{ on := 4, ground := Ground.data }], guard := none }) (v := ?_) rfl (by kernel_rfl) (by kernel_rfl) (by kernel_rfl) (fun _ _ _ h => h) (Or.inl ⟨by rfl, ?_⟩) (by assumption) ?_
        rotate_left
        · intro w hSw; (try dsimp only at hSw); go_simp <;> (with_reducible rfl)
        (try simp only [Act.put, List.setIfInBounds_toArray, List.set_cons_zero, List.set_cons_succ])
        refine wpAnyH_take (i := 6) (oi := { dst := some 43, op := Op.load 9 (Operand.tmp 42), type := 9, pos := "law.go:70", after := #[{ on := 5, ground := Ground.data }], guard := none }) (v := ?_) rfl (by kernel_rfl) (by kernel_rfl) (by kernel_rfl) (fun _ _ _ h => h) (Or.inl ⟨by rfl, ?_⟩) (by assumption) ?_
        rotate_left
        · intro w hSw; (try dsimp only at hSw); go_simp <;> (with_reducible rfl)
        (try simp only [Act.put, List.setIfInBounds_toArray, List.set_cons_zero, List.set_cons_succ])
        refine wpAnyH_take (i := 7) (oi := { dst := some 44, op := Op.move (Operand.tmp 0), type := 22, pos := "law.go:70", after := #[], guard := none }) (v := ?_) rfl (by kernel_rfl) (by kernel_rfl) (by kernel_rfl) (fun _ _ _ h => h) (Or.inl ⟨by rfl, ?_⟩) (by assumption) ?_
        rotate_left
        · intro w hSw; (try dsimp only at hSw); go_simp <;> (with_reducible rfl)
        (try simp only [Act.put, List.setIfInBounds_toArray, List.set_cons_zero, List.set_cons_succ])
        refine wpAnyH_take (i := 8) (oi := { dst := some 45, op := Op.move (Operand.tmp 8), type := 3, pos := "law.go:70", after := #[], guard := none }) (v := ?_) rfl (by kernel_rfl) (by kernel_rfl) (by kernel_rfl) (fun _ _ _ h => h) (Or.inl ⟨by rfl, ?_⟩) (by assumption) ?_
        rotate_left
        · intro w hSw; (try dsimp only at hSw); go_simp <;> (with_reducible rfl)
        (try simp only [Act.put, List.setIfInBounds_toArray, List.set_cons_zero, List.set_cons_succ])
        refine wpAnyH_take (i := 9) (oi := { dst := some 46, op := Op.indexAddr 22 (Operand.tmp 44) (Operand.tmp 45), type := 0, pos := "law.go:70", after := #[{ on := 7, ground := Ground.data }, { on := 8, ground := Ground.data }], guard := none }) (v := ?_) rfl (by kernel_rfl) (by kernel_rfl) (by kernel_rfl) (fun _ _ _ h => h) (Or.inl ⟨by rfl, ?_⟩) (by assumption) ?_
        rotate_left
        · intro w hSw; (try dsimp only at hSw); go_simp <;> (with_reducible rfl)
        (try simp only [Act.put, List.setIfInBounds_toArray, List.set_cons_zero, List.set_cons_succ])
        refine wpAnyH_take (i := 10) (oi := { dst := some 47, op := Op.fieldAddr 30 (Operand.tmp 46) 1, type := 0, pos := "law.go:70", after := #[{ on := 9, ground := Ground.data }], guard := none }) (v := ?_) rfl (by kernel_rfl) (by kernel_rfl) (by kernel_rfl) (fun _ _ _ h => h) (Or.inl ⟨by rfl, ?_⟩) (by assumption) ?_
        rotate_left
        · intro w hSw; (try dsimp only at hSw); go_simp <;> (with_reducible rfl)
        (try simp only [Act.put, List.setIfInBounds_toArray, List.set_cons_zero, List.set_cons_succ])
        refine wpAnyH_take (i := 11) (oi := { dst := some 48, op := Op.load 3 (Operand.tmp 47), type := 3, pos := "law.go:70", after := #[{ on := 10, ground := Ground.data }], guard := none }) (v := ?_) rfl (by kernel_rfl) (by kernel_rfl) (by kernel_rfl) (fun _ _ _ h => h) (Or.inl ⟨by rfl, ?_⟩) (by assumption) ?_
        rotate_left
        · intro w hSw; (try dsimp only at hSw); go_simp <;> (with_reducible rfl)
        (try simp only [Act.put, List.setIfInBounds_toArray, List.set_cons_zero, List.set_cons_succ])
        refine wpAnyH_take (i := 12) (oi := { dst := some 49, op := Op.build 31 #[(0, Operand.tmp 43), (1, Operand.tmp 48)], type := 31, pos := "law.go:70", after := #[{ on := 6, ground := Ground.data }, { on := 11, ground := Ground.data }], guard := none }) (v := ?_) rfl (by kernel_rfl) (by kernel_rfl) (by kernel_rfl) (fun _ _ _ h => h) (Or.inl ⟨by rfl, ?_⟩) (by assumption) ?_
        rotate_left
        · intro w hSw; (try dsimp only at hSw); go_simp <;> (with_reducible rfl)
        (try simp only [Act.put, List.setIfInBounds_toArray, List.set_cons_zero, List.set_cons_succ])
        refine wpAnyH_ready (rs := [1, 13]) (by kernel_rfl) (by simp) ?_
        refine AllReadyH.cons (o := { dst := some 38, op := Op.load 25 (Operand.tmp 37), type := 25, pos := "law.go:70", after := #[{ on := 0, ground := Ground.data }], guard := none }) rfl (fun K hK => ?_) ?_
        · go_simp
          refine hK.out _ _ ?_ (fun hHeld => ?_)
          · (try dsimp only)
            first | exact KS.out _ BD.out | exact KS.out _ T7.out.b
          clear hK K
          (try simp only [Act.put, List.setIfInBounds_toArray, List.set_cons_zero, List.set_cons_succ])
          refine wpAnyH_ready (rs := [13]) (by kernel_rfl) (by simp) ?_
          refine AllReadyH.cons (o := { dst := some 50, op := Op.buildSlice 25 1 #[(0, Operand.tmp 49)], type := 25, pos := "law.go:70", after := #[{ on := 12, ground := Ground.data }], guard := none }) rfl (fun K hK => ?_) ?_
          · go_simp
            refine hK.out _ _ ?_ (fun hHeld => ?_)
            · (try dsimp only)
              exact KS.out _ T7.out.b
            clear hK K
            (try simp only [Act.put, List.setIfInBounds_toArray, List.set_cons_zero, List.set_cons_succ])
            refine wpAnyH_ready (rs := [14]) (by kernel_rfl) (by simp) ?_
            refine AllReadyH.cons (o := { dst := some 51, op := Op.call { callee := Callee.builtin Builtin.append, args := #[Operand.tmp 38, Operand.tmp 50], argTypes := #[25, 25] }, type := 25, pos := "law.go:70", after := #[{ on := 1, ground := Ground.data }, { on := 13, ground := Ground.data }], guard := none }) rfl (fun K hK => ?_) ?_
            · refine app_dcO (.tmp 38) (.tmp 50) rfl T7.out.d rfl (s, z) wr.heap.size rfl Q7.out (by rw [List.length_take]; omega) T7.out.b.size ?_
              intro v8 w8 O8 g8 n8 one8
              obtain ⟨A8, l8, k8, rfl⟩ : ∃ A n c, v8 = .slice A n c := by obtain ⟨A, c, e⟩ := own_form O8; exact ⟨A, _, c, e⟩
              obtain ⟨T9, c8, f8, B8⟩ := T7.out.dec O8 g8
              have B8 := Lib.hid B8
              have T9 := Lib.hid T9
              have c8 := c8
              clear O8 g8 n8
              refine hK.out _ _ ?_ (fun hHeld => ?_)
              · (try dsimp only)
                exact KS.out _ B8.out
              clear hK K
              (try simp only [Act.put, List.setIfInBounds_toArray, List.set_cons_zero, List.set_cons_succ])
              refine wpAnyH_take (i := 15) (oi := { dst := some 52, op := Op.fieldAddr 28 (Operand.tmp 5) 0, type := 0, pos := "law.go:70", after := #[{ on := 0, ground := Ground.phase }, { on := 1, ground := Ground.phase }, { on := 2, ground := Ground.phase }, { on := 3, ground := Ground.phase }, { on := 4, ground := Ground.phase }, { on := 5, ground := Ground.phase }, { on := 6, ground := Ground.phase }, { on := 7, ground := Ground.phase }, { on := 8, ground := Ground.phase }, { on := 9, ground := Ground.phase }, { on := 10, ground := Ground.phase }, { on := 11, ground := Ground.phase }, { on := 12, ground := Ground.phase }, { on := 13, ground := Ground.phase }, { on := 14, ground := Ground.phase }], guard := none }) (v := ?_) rfl (by kernel_rfl) (by kernel_rfl) (by kernel_rfl) (fun _ _ _ h => h) (Or.inl ⟨by rfl, ?_⟩) (by assumption) ?_
              rotate_left
              · intro w hSw; (try dsimp only at hSw); go_simp <;> (with_reducible rfl)
              (try simp only [Act.put, List.setIfInBounds_toArray, List.set_cons_zero, List.set_cons_succ])
              refine wpAnyH_ready (rs := [16]) (by kernel_rfl) (by simp) ?_
              refine AllReadyH.cons (o := { dst := none, op := Op.store 25 (Operand.tmp 52) (Operand.tmp 51), type := 0, pos := "law.go:70", after := #[{ on := 15, ground := Ground.data }, { on := 14, ground := Ground.data }, { on := 14, ground := Ground.chain }, { on := 0, ground := Ground.phase }, { on := 1, ground := Ground.phase }, { on := 2, ground := Ground.phase }, { on := 3, ground := Ground.phase }, { on := 4, ground := Ground.phase }, { on := 5, ground := Ground.phase }, { on := 6, ground := Ground.phase }, { on := 7, ground := Ground.phase }, { on := 8, ground := Ground.phase }, { on := 9, ground := Ground.phase }, { on := 10, ground := Ground.phase }, { on := 11, ground := Ground.phase }, { on := 12, ground := Ground.phase }, { on := 13, ground := Ground.phase }, { on := 14, ground := Ground.phase }], guard := none }) rfl (fun K hK => ?_) ?_
              · go_simp
                refine hK.out _ _ ?_ (fun hHeld => ?_)
                · (try dsimp only)
                  exact KS.out _ T9.out.b
                clear hK K
                (try simp only [Act.put, List.setIfInBounds_toArray, List.set_cons_zero, List.set_cons_succ])
                refine wpAnyH_done (by kernel_rfl) ?_ _
                refine NoPanic.normal ?_
                have T10 := Lib.hid (show TrS w w1.heap.size (.slice A8 l8 k8) (D.take (k + 1)) (.slice none 0 0) [] _ by rw [KM.out]; exact T9.out)
                generalize w8.setCell ⟨w1.heap.size, 0, none⟩ (.slice A8 l8 k8) = w9 at *
                have c9 := (CW.out w9 T9.out.b).2
                clear hHeld T9 B8 c8 f8
                by_cases hz : z = -1
                · have I9 := Lib.hid (IV.out hz)
                  subst hz
                  clear IV IA
                  go_wp2
                  go_roundw
                  case rel => exact ⟨k + 1, v + 1, a, _, by go_num, rfl, by go_num, by omega, by omega, by omega, T10, I9⟩
                  case measure => simp [intOf]; omega
                · have I9 := Lib.hid (IA.out hz)
                  clear IV IA
                  go_wp2
                  go_roundw
                  case rel => exact ⟨k + 1, v, a + 1, _, rfl, by go_num, by go_num, by omega, by omega, by omega, T10, I9⟩
                  case measure => simp [intOf]; omega
              exact AllReadyH.nil
            exact AllReadyH.nil
          exact AllReadyH.nil
        refine AllReadyH.cons (o := { dst := some 50, op := Op.buildSlice 25 1 #[(0, Operand.tmp 49)], type := 25, pos := "law.go:70", after := #[{ on := 12, ground := Ground.data }], guard := none }) rfl (fun K hK => ?_) ?_
        · go_simp
          refine hK.out _ _ ?_ (fun hHeld => ?_)
          · (try dsimp only)
            exact KS.out _ T7.out.b
          clear hK K
          (try simp only [Act.put, List.setIfInBounds_toArray, List.set_cons_zero, List.set_cons_succ])
          refine wpAnyH_ready (rs := [1]) (by kernel_rfl) (by simp) ?_
          refine AllReadyH.cons (o := { dst := some 38, op := Op.load 25 (Operand.tmp 37), type := 25, pos := "law.go:70", after := #[{ on := 0, ground := Ground.data }], guard := none }) rfl (fun K hK => ?_) ?_
          · go_simp
            refine hK.out _ _ ?_ (fun hHeld => ?_)
            · (try dsimp only)
              first | exact KS.out _ BD.out | exact KS.out _ T7.out.b
            clear hK K
            (try simp only [Act.put, List.setIfInBounds_toArray, List.set_cons_zero, List.set_cons_succ])
            refine wpAnyH_ready (rs := [14]) (by kernel_rfl) (by simp) ?_
            refine AllReadyH.cons (o := { dst := some 51, op := Op.call { callee := Callee.builtin Builtin.append, args := #[Operand.tmp 38, Operand.tmp 50], argTypes := #[25, 25] }, type := 25, pos := "law.go:70", after := #[{ on := 1, ground := Ground.data }, { on := 13, ground := Ground.data }], guard := none }) rfl (fun K hK => ?_) ?_
            · refine app_dcO (.tmp 38) (.tmp 50) rfl T7.out.d rfl (s, z) wr.heap.size rfl Q7.out (by rw [List.length_take]; omega) T7.out.b.size ?_
              intro v8 w8 O8 g8 n8 one8
              obtain ⟨A8, l8, k8, rfl⟩ : ∃ A n c, v8 = .slice A n c := by obtain ⟨A, c, e⟩ := own_form O8; exact ⟨A, _, c, e⟩
              obtain ⟨T9, c8, f8, B8⟩ := T7.out.dec O8 g8
              have B8 := Lib.hid B8
              have T9 := Lib.hid T9
              have c8 := c8
              clear O8 g8 n8
              refine hK.out _ _ ?_ (fun hHeld => ?_)
              · (try dsimp only)
                exact KS.out _ B8.out
              clear hK K
              (try simp only [Act.put, List.setIfInBounds_toArray, List.set_cons_zero, List.set_cons_succ])
              refine wpAnyH_take (i := 15) (oi := { dst := some 52, op := Op.fieldAddr 28 (Operand.tmp 5) 0, type := 0, pos := "law.go:70", after := #[{ on := 0, ground := Ground.phase }, { on := 1, ground := Ground.phase }, { on := 2, ground := Ground.phase }, { on := 3, ground := Ground.phase }, { on := 4, ground := Ground.phase }, { on := 5, ground := Ground.phase }, { on := 6, ground := Ground.phase }, { on := 7, ground := Ground.phase }, { on := 8, ground := Ground.phase }, { on := 9, ground := Ground.phase }, { on := 10, ground := Ground.phase }, { on := 11, ground := Ground.phase }, { on := 12, ground := Ground.phase }, { on := 13, ground := Ground.phase }, { on := 14, ground := Ground.phase }], guard := none }) (v := ?_) rfl (by kernel_rfl) (by kernel_rfl) (by kernel_rfl) (fun _ _ _ h => h) (Or.inl ⟨by rfl, ?_⟩) (by assumption) ?_
              rotate_left
              · intro w hSw; (try dsimp only at hSw); go_simp <;> (with_reducible rfl)
              (try simp only [Act.put, List.setIfInBounds_toArray, List.set_cons_zero, List.set_cons_succ])
              refine wpAnyH_ready (rs := [16]) (by kernel_rfl) (by simp) ?_
              refine AllReadyH.cons (o := { dst := none, op := Op.store 25 (Operand.tmp 52) (Operand.tmp 51), type := 0, pos := "law.go:70", after := #[{ on := 15, ground := Ground.data }, { on := 14, ground := Ground.data }, { on := 14, ground := Ground.chain }, { on := 0, ground := Ground.phase }, { on := 1, ground := Ground.phase }, { on := 2, ground := Ground.phase }, { on := 3, ground := Ground.phase }, { on := 4, ground := Ground.phase }, { on := 5, ground := Ground.phase }, { on := 6, ground := Ground.phase }, { on := 7, ground := Ground.phase }, { on := 8, ground := Ground.phase }, { on := 9, ground := Ground.phase }, { on := 10, ground := Ground.phase }, { on := 11, ground := Ground.phase }, { on := 12, ground := Ground.phase }, { on := 13, ground := Ground.phase }, { on := 14, ground := Ground.phase }], guard := none }) rfl (fun K hK => ?_) ?_
              · go_simp
                refine hK.out _ _ ?_ (fun hHeld => ?_)
                · (try dsimp only)
                  exact KS.out _ T9.out.b
                clear hK K
                (try simp only [Act.put, List.setIfInBounds_toArray, List.set_cons_zero, List.set_cons_succ])
                refine wpAnyH_done (by kernel_rfl) ?_ _
                refine NoPanic.normal ?_
                have T10 := Lib.hid (show TrS w w1.heap.size (.slice A8 l8 k8) (D.take (k + 1)) (.slice none 0 0) [] _ by rw [KM.out]; exact T9.out)
                generalize w8.setCell ⟨w1.heap.size, 0, none⟩ (.slice A8 l8 k8) = w9 at *
                have c9 := (CW.out w9 T9.out.b).2
                clear hHeld T9 B8 c8 f8
                by_cases hz : z = -1
                · have I9 := Lib.hid (IV.out hz)
                  subst hz
                  clear IV IA
                  go_wp2
                  go_roundw
                  case rel => exact ⟨k + 1, v + 1, a, _, by go_num, rfl, by go_num, by omega, by omega, by omega, T10, I9⟩
                  case measure => simp [intOf]; omega
                · have I9 := Lib.hid (IA.out hz)
                  clear IV IA
                  go_wp2
                  go_roundw
                  case rel => exact ⟨k + 1, v, a + 1, _, rfl, by go_num, by go_num, by omega, by omega, by omega, T10, I9⟩
                  case measure => simp [intOf]; omega
              exact AllReadyH.nil
            exact AllReadyH.nil
          exact AllReadyH.nil
        exact AllReadyH.nil
    · obtain rfl : k = n := by omega
      have HE : Hid (D.take k = D) := Lib.hid (List.take_of_length_le (by rw [HN.out]; exact Nat.le_refl _))
      have HV : Hid (v = (varsL D).length) := Lib.hid (by have := HI.out.v; rwa [HE.out] at this)
      have HA : Hid (a = (arrsL D).length) := Lib.hid (by have := HI.out.a; rwa [HE.out] at this)
      have HS : Hid (∀ d ∈ D, d.1.length ≤ 100000) := Lib.hid (by have := HI.out.s; rwa [HE.out] at this)
      have HT2 : Hid (TrS w w1.heap.size dv D (.slice none 0 0) [] wr) := Lib.hid (by have := HT.out; rwa [HE.out] at this)
      obtain ⟨Ad, nd, kd, hdv⟩ : ∃ A n c, dv = .slice A n c := by obtain ⟨A, c, e⟩ := own_form HT2.out.d; exact ⟨A, _, c, e⟩
      subst hdv
      clear HT HI HE
      go_wp2
      go_loopw [9] (fun i wd => ∃ (p : Nat) (nv : Value), i = .int .i64 p ∧ p ≤ m ∧ Hid (TrS w w1.heap.size (.slice Ad nd kd) D nv ((U.take p).map kdU) wd)) (fun i _ => m - (intOf i).toNat)
      case atStart => exact ⟨0, _, rfl, Nat.zero_le _, HT2⟩
      case round =>
        obtain ⟨p, nv, rfl, hp, HT⟩ := hrel
        clear HT2
        obtain ⟨An, nn, kn, hnv⟩ : ∃ A n c, nv = .slice A n c := by obtain ⟨A, c, e⟩ := own_form HT.out.n; exact ⟨A, _, c, e⟩
        subst hnv
        by_cases hlt2 : p < m
        · obtain ⟨y, rfl, hyb, hc⟩ := RU.out.2.2 (by rw [HM.out]; omega)
          have CW := Lib.hid (fun (W : World) (b : Below w.heap.size w W) => (⟨(b.cell (by rw [block_add]; exact hyb)).trans (hc p (by rw [HM.out]; exact hlt2)).1, (b.cell (p := ⟨(y.add (p * 2)).block, (y.add (p * 2)).off + 1, none⟩) (by show (y.add (p * 2)).block < _; rw [block_add]; exact hyb)).trans (hc p (by rw [HM.out]; exact hlt2)).2⟩ : W.cell? (y.add (p * 2)) = some (.string (strB (U.getD p us0).2)) ∧ W.cell? ⟨(y.add (p * 2)).block, (y.add (p * 2)).off + 1, none⟩ = some (.bool (U.getD p us0).1)))
          have KM := Lib.hid (take_snocD U p us0 (by rw [HM.out]; exact hlt2))
          clear hc hyb
          generalize U.getD p us0 = u at *
          obtain ⟨ub, s⟩ := u
          simp only at CW
          obtain ⟨c0, c1⟩ := CW.out wr HT.out.b
          have hpi : (p : Int) < (m : Int) := by omega
          by_cases h20 : 20 < (strB s).size
          · have h20i : (20 : Int) < ((strB s).size : Int) := by omega
            go_wp2
            go_ret
            exact ⟨rfl, HT.out.b⟩
          · have h20i : ¬ (20 : Int) < ((strB s).size : Int) := by omega
            have BD := Lib.hid (below_drewP HT.out.b)
            have t0 := HT.out.h.cell 1
            simp only [List.getElem?_cons_zero, List.getElem?_cons_succ] at t0
            have KS := Lib.hid (fun (w' : World) (b : Below w.heap.size w w') => (show (fun w' => w'.cell? (y.add (p * 2)) = some (.string (strB s)) ∧ w'.cell? ⟨(y.add (p * 2)).block, (y.add (p * 2)).off + 1, none⟩ = some (.bool ub)) w' from CW.out w' b))
            cases ub with
            | true =>
              obtain ⟨W7, e7, T7, Q7⟩ : ∃ W7, wr.drew.alloc (.cells #[.int .i64 3, .int .i64 0, .int .i64 0, .int .i64 0, .string (strB s), .int .u32 0, .slice none 0 0] 37) = W7 ∧ Hid (TrS w w1.heap.size (.slice Ad nd kd) D (.slice An nn kn) ((U.take p).map kdU) W7) ∧ Hid (HasB W7 wr.heap.size 37 (ndP (ndK 3 s))) := ⟨_, rfl, Lib.hid (HT.out.bel (bel_al (below_drewP (Below.refl _ wr)) _)), Lib.hid (HasB.new wr.drew _ _)⟩
              have u0 := T7.out.h.cell 1
              simp only [List.getElem?_cons_zero, List.getElem?_cons_succ] at u0
              go_wp2_with fail
              refine wp_region_noPanic ?_
              refine wp_region_held_drew (S := (fun w' => w'.cell? (y.add (p * 2)) = some (.string (strB s)) ∧ w'.cell? ⟨(y.add (p * 2)).block, (y.add (p * 2)).off + 1, none⟩ = some (.bool true))) (by kernel_rfl) ?_ (fun hHeld => ?_)
              · (try dsimp only)
                exact KS.out _ BD.out
              refine wpAnyH_take (i := 0) (oi := { dst := some 81, op := Op.fieldAddr 28 (Operand.tmp 5) 1, type := 0, pos := "law.go:85", after := #[], guard := none }) (v := ?_) rfl (by kernel_rfl) (by kernel_rfl) (by kernel_rfl) (fun _ _ _ h => h) (Or.inl ⟨by rfl, ?_⟩) (by assumption) ?_
              rotate_left
              · intro w hSw; (try dsimp only at hSw); go_simp <;> (with_reducible rfl)
              (try simp only [Act.put, List.setIfInBounds_toArray, List.set_cons_zero, List.set_cons_succ])
              refine wpAnyH_take (i := 2) (oi := { dst := some 83, op := Op.move (Operand.tmp 10), type := 3, pos := "law.go:85", after := #[], guard := none }) (v := ?_) rfl (by kernel_rfl) (by kernel_rfl) (by kernel_rfl) (fun _ _ _ h => h) (Or.inl ⟨by rfl, ?_⟩) (by assumption) ?_
              rotate_left
              · intro w hSw; (try dsimp only at hSw); go_simp <;> (with_reducible rfl)
              (try simp only [Act.put, List.setIfInBounds_toArray, List.set_cons_zero, List.set_cons_succ])
              refine wpAnyH_take (i := 3) (oi := { dst := some 84, op := Op.move (Operand.tmp 1), type := 23, pos := "law.go:85", after := #[], guard := none }) (v := ?_) rfl (by kernel_rfl) (by kernel_rfl) (by kernel_rfl) (fun _ _ _ h => h) (Or.inl ⟨by rfl, ?_⟩) (by assumption) ?_
              rotate_left
              · intro w hSw; (try dsimp only at hSw); go_simp <;> (with_reducible rfl)
              (try simp only [Act.put, List.setIfInBounds_toArray, List.set_cons_zero, List.set_cons_succ])
              refine wpAnyH_take (i := 4) (oi := { dst := some 85, op := Op.move (Operand.tmp 9), type := 3, pos := "law.go:85", after := #[], guard := none }) (v := ?_) rfl (by kernel_rfl) (by kernel_rfl) (by kernel_rfl) (fun _ _ _ h => h) (Or.inl ⟨by rfl, ?_⟩) (by assumption) ?_
              rotate_left
              · intro w hSw; (try dsimp only at hSw); go_simp <;> (with_reducible rfl)
              (try simp only [Act.put, List.setIfInBounds_toArray, List.set_cons_zero, List.set_cons_succ])
              refine wpAnyH_take (i := 5) (oi := { dst := some 86, op := Op.indexAddr 23 (Operand.tmp 84) (Operand.tmp 85), type := 0, pos := "law.go:85", after := #[{ on := 3, ground := Ground.data }, { on := 4, ground := Ground.data }], guard := none }) (v := ?_) rfl (by kernel_rfl) (by kernel_rfl) (by kernel_rfl) (fun _ _ _ h => h) (Or.inl ⟨by rfl, ?_⟩) (by assumption) ?_
              rotate_left
              · intro w hSw; (try dsimp only at hSw); go_simp <;> (with_reducible rfl)
              (try simp only [Act.put, List.setIfInBounds_toArray, List.set_cons_zero, List.set_cons_succ])
              refine wpAnyH_take (i := 6) (oi := { dst := some 87, op := Op.fieldAddr 33 (Operand.tmp 86) 0, type := 0, pos := "law.go:85", after := #[{ on := 5, ground := Ground.data }], guard := none }) (v := ?_) rfl (by kernel_rfl) (by kernel_rfl) (by kernel_rfl) (fun _ _ _ h => h) (Or.inl ⟨by rfl, ?_⟩) (by assumption) ?_
              rotate_left
              · intro w hSw; (try dsimp only at hSw); go_simp <;> (with_reducible rfl)
              (try simp only [Act.put, List.setIfInBounds_toArray, List.set_cons_zero, List.set_cons_succ])
              refine wpAnyH_take (i := 7) (oi := { dst := some 88, op := Op.load 9 (Operand.tmp 87), type := 9, pos := "law.go:85", after := #[{ on := 6, ground := Ground.data }], guard := none }) (v := ?_) rfl (by kernel_rfl) (by kernel_rfl) (by kernel_rfl) (fun _ _ _ h => h) (Or.inl ⟨by rfl, ?_⟩) (by assumption) ?_
              rotate_left
              · intro w hSw; (try dsimp only at hSw); go_simp <;> (with_reducible rfl)
              (try simp only [Act.put, List.setIfInBounds_toArray, List.set_cons_zero, List.set_cons_succ])
              refine wpAnyH_take (i := 8) (oi := { dst := some 89, op := Op.build 37 #[(0, Operand.tmp 83), (4, Operand.tmp 88)], type := 37, pos := "law.go:85", after := #[{ on := 2, ground := Ground.data }, { on := 7, ground := Ground.data }], guard := none }) (v := ?_) rfl (by kernel_rfl) (by kernel_rfl) (by kernel_rfl) (fun _ _ _ h => h) (Or.inl ⟨by rfl, ?_⟩) (by assumption) ?_
              rotate_left
              · intro w hSw; (try dsimp only at hSw); go_simp <;> (with_reducible rfl)
              (try simp only [Act.put, List.setIfInBounds_toArray, List.set_cons_zero, List.set_cons_succ])
              refine wpAnyH_ready (rs := [1, 9]) (by kernel_rfl) (by simp) ?_
              refine AllReadyH.cons (o := { dst := some 82, op := Op.load 26 (Operand.tmp 81), type := 26, pos := "law.go:85", after := #[{ on := 0, ground := Ground.data }], guard := none }) rfl (fun K hK => ?_) ?_
              · go_simp
                refine hK.out _ _ ?_ (fun hHeld => ?_)
                · (try dsimp only)
                  first | exact KS.out _ BD.out | exact KS.out _ T7.out.b
                clear hK K
                (try simp only [Act.put, List.setIfInBounds_toArray, List.set_cons_zero, List.set_cons_succ])
                refine wpAnyH_ready (rs := [9]) (by kernel_rfl) (by simp) ?_
                refine AllReadyH.cons (o := { dst := some 90, op := Op.buildSlice 26 1 #[(0, Operand.tmp 89)], type := 26, pos := "law.go:85", after := #[{ on := 8, ground := Ground.data }], guard := none }) rfl (fun K hK => ?_) ?_
                · go_simp
                  refine hK.out _ _ ?_ (fun hHeld => ?_)
                  · (try dsimp only)
                    exact KS.out _ T7.out.b
                  clear hK K
                  (try simp only [Act.put, List.setIfInBounds_toArray, List.set_cons_zero, List.set_cons_succ])
                  refine wpAnyH_ready (rs := [10]) (by kernel_rfl) (by simp) ?_
                  refine AllReadyH.cons (o := { dst := some 91, op := Op.call { callee := Callee.builtin Builtin.append, args := #[Operand.tmp 82, Operand.tmp 90], argTypes := #[26, 26] }, type := 26, pos := "law.go:85", after := #[{ on := 1, ground := Ground.data }, { on := 9, ground := Ground.data }], guard := none }) rfl (fun K hK => ?_) ?_
                  · refine app_ndO (.tmp 82) (.tmp 90) rfl T7.out.n rfl (ndK 3 s) rfl wr.heap.size rfl Q7.out (by rw [List.length_map, List.length_take]; omega) T7.out.b.size ?_
                    intro v8 w8 O8 g8 n8 one8
                    obtain ⟨A8, l8, k8, rfl⟩ : ∃ A n c, v8 = .slice A n c := by obtain ⟨A, c, e⟩ := own_form O8; exact ⟨A, _, c, e⟩
                    obtain ⟨T9, c8, f8, B8⟩ := T7.out.nod O8 g8
                    have B8 := Lib.hid B8
                    have T9 := Lib.hid T9
                    have c8 := c8
                    clear O8 g8 n8
                    refine hK.out _ _ ?_ (fun hHeld => ?_)
                    · (try dsimp only)
                      exact KS.out _ B8.out
                    clear hK K
                    (try simp only [Act.put, List.setIfInBounds_toArray, List.set_cons_zero, List.set_cons_succ])
                    refine wpAnyH_take (i := 11) (oi := { dst := some 92, op := Op.fieldAddr 28 (Operand.tmp 5) 1, type := 0, pos := "law.go:85", after := #[{ on := 0, ground := Ground.phase }, { on := 1, ground := Ground.phase }, { on := 2, ground := Ground.phase }, { on := 3, ground := Ground.phase }, { on := 4, ground := Ground.phase }, { on := 5, ground := Ground.phase }, { on := 6, ground := Ground.phase }, { on := 7, ground := Ground.phase }, { on := 8, ground := Ground.phase }, { on := 9, ground := Ground.phase }, { on := 10, ground := Ground.phase }], guard := none }) (v := ?_) rfl (by kernel_rfl) (by kernel_rfl) (by kernel_rfl) (fun _ _ _ h => h) (Or.inl ⟨by rfl, ?_⟩) (by assumption) ?_
                    rotate_left
                    · intro w hSw; (try dsimp only at hSw); go_simp <;> (with_reducible rfl)
                    (try simp only [Act.put, List.setIfInBounds_toArray, List.set_cons_zero, List.set_cons_succ])
                    refine wpAnyH_ready (rs := [12]) (by kernel_rfl) (by simp) ?_
                    refine AllReadyH.cons (o := { dst := none, op := Op.store 26 (Operand.tmp 92) (Operand.tmp 91), type := 0, pos := "law.go:85", after := #[{ on := 11, ground := Ground.data }, { on := 10, ground := Ground.data }, { on := 10, ground := Ground.chain }, { on := 0, ground := Ground.phase }, { on := 1, ground := Ground.phase }, { on := 2, ground := Ground.phase }, { on := 3, ground := Ground.phase }, { on := 4, ground := Ground.phase }, { on := 5, ground := Ground.phase }, { on := 6, ground := Ground.phase }, { on := 7, ground := Ground.phase }, { on := 8, ground := Ground.phase }, { on := 9, ground := Ground.phase }, { on := 10, ground := Ground.phase }], guard := none }) rfl (fun K hK => ?_) ?_
                    · go_simp
                      refine hK.out _ _ ?_ (fun hHeld => ?_)
                      · (try dsimp only)
                        exact KS.out _ T9.out.b
                      clear hK K
                      (try simp only [Act.put, List.setIfInBounds_toArray, List.set_cons_zero, List.set_cons_succ])
                      refine wpAnyH_done (by kernel_rfl) ?_ _
                      refine NoPanic.normal ?_
                      have T10 := Lib.hid (show TrS w w1.heap.size (.slice Ad nd kd) D (.slice A8 l8 k8) ((U.take (p + 1)).map kdU) _ by rw [KM.out, List.map_append]; exact T9.out)
                      generalize w8.setCell ⟨w1.heap.size, 1, none⟩ (.slice A8 l8 k8) = w9 at *
                      clear hHeld T9 B8 c8 f8
                      go_wp2
                      go_roundw
                      case rel => exact ⟨p + 1, _, by go_num, by omega, T10⟩
                      case measure => simp [intOf]; omega
                    exact AllReadyH.nil
                  exact AllReadyH.nil
                exact AllReadyH.nil
              refine AllReadyH.cons (o := { dst := some 90, op := Op.buildSlice 26 1 #[(0, Operand.tmp 89)], type := 26, pos := "law.go:85", after := #[{ on := 8, ground := Ground.data }], guard := none }) rfl (fun K hK => ?_) ?_
              · go_simp
                refine hK.out _ _ ?_ (fun hHeld => ?_)
                · (try dsimp only)
                  exact KS.out _ T7.out.b
                clear hK K
                (try simp only [Act.put, List.setIfInBounds_toArray, List.set_cons_zero, List.set_cons_succ])
                refine wpAnyH_ready (rs := [1]) (by kernel_rfl) (by simp) ?_
                refine AllReadyH.cons (o := { dst := some 82, op := Op.load 26 (Operand.tmp 81), type := 26, pos := "law.go:85", after := #[{ on := 0, ground := Ground.data }], guard := none }) rfl (fun K hK => ?_) ?_
                · go_simp
                  refine hK.out _ _ ?_ (fun hHeld => ?_)
                  · (try dsimp only)
                    first | exact KS.out _ BD.out | exact KS.out _ T7.out.b
                  clear hK K
                  (try simp only [Act.put, List.setIfInBounds_toArray, List.set_cons_zero, List.set_cons_succ])
                  refine wpAnyH_ready (rs := [10]) (by kernel_rfl) (by simp) ?_
                  refine AllReadyH.cons (o := { dst := some 91, op := Op.call { callee := Callee.builtin Builtin.append, args := #[Operand.tmp 82, Operand.tmp 90], argTypes := #[26, 26] }, type := 26, pos := "law.go:85", after := #[{ on := 1, ground := Ground.data }, { on := 9, ground := Ground.data }], guard := none }) rfl (fun K hK => ?_) ?_
                  · refine app_ndO (.tmp 82) (.tmp 90) rfl T7.out.n rfl (ndK 3 s) rfl wr.heap.size rfl Q7.out (by rw [List.length_map, List.length_take]; omega) T7.out.b.size ?_
                    intro v8 w8 O8 g8 n8 one8
                    obtain ⟨A8, l8, k8, rfl⟩ : ∃ A n c, v8 = .slice A n c := by obtain ⟨A, c, e⟩ := own_form O8; exact ⟨A, _, c, e⟩
                    obtain ⟨T9, c8, f8, B8⟩ := T7.out.nod O8 g8
                    have B8 := Lib.hid B8
                    have T9 := Lib.hid T9
                    have c8 := c8
                    clear O8 g8 n8
                    refine hK.out _ _ ?_ (fun hHeld => ?_)
                    · (try dsimp only)
                      exact KS.out _ B8.out
                    clear hK K
                    (try simp only [Act.put, List.setIfInBounds_toArray, List.set_cons_zero, List.set_cons_succ])
                    refine wpAnyH_take (i := 11) (oi := { dst := some 92, op := Op.fieldAddr 28 (Operand.tmp 5) 1, type := 0, pos := "law.go:85", after := #[{ on := 0, ground := Ground.phase }, { on := 1, ground := Ground.phase }, { on := 2, ground := Ground.phase }, { on := 3, ground := Ground.phase }, { on := 4, ground := Ground.phase }, { on := 5, ground := Ground.phase }, { on := 6, ground := Ground.phase }, { on := 7, ground := Ground.phase }, { on := 8, ground := Ground.phase }, { on := 9, ground := Ground.phase }, { on := 10, ground := Ground.phase }], guard := none }) (v := ?_) rfl (by kernel_rfl) (by kernel_rfl) (by kernel_rfl) (fun _ _ _ h => h) (Or.inl ⟨by rfl, ?_⟩) (by assumption) ?_
                    rotate_left
                    · intro w hSw; (try dsimp only at hSw); go_simp <;> (with_reducible rfl)
                    (try simp only [Act.put, List.setIfInBounds_toArray, List.set_cons_zero, List.set_cons_succ])
                    refine wpAnyH_ready (rs := [12]) (by kernel_rfl) (by simp) ?_
                    refine AllReadyH.cons (o := { dst := none, op := Op.store 26 (Operand.tmp 92) (Operand.tmp 91), type := 0, pos := "law.go:85", after := #[{ on := 11, ground := Ground.data }, { on := 10, ground := Ground.data }, { on := 10, ground := Ground.chain }, { on := 0, ground := Ground.phase }, { on := 1, ground := Ground.phase }, { on := 2, ground := Ground.phase }, { on := 3, ground := Ground.phase }, { on := 4, ground := Ground.phase }, { on := 5, ground := Ground.phase }, { on := 6, ground := Ground.phase }, { on := 7, ground := Ground.phase }, { on := 8, ground := Ground.phase }, { on := 9, ground := Ground.phase }, { on := 10, ground := Ground.phase }], guard := none }) rfl (fun K hK => ?_) ?_
                    · go_simp
                      refine hK.out _ _ ?_ (fun hHeld => ?_)
                      · (try dsimp only)
                        exact KS.out _ T9.out.b
                      clear hK K
                      (try simp only [Act.put, List.setIfInBounds_toArray, List.set_cons_zero, List.set_cons_succ])
                      refine wpAnyH_done (by kernel_rfl) ?_ _
                      refine NoPanic.normal ?_
                      have T10 := Lib.hid (show TrS w w1.heap.size (.slice Ad nd kd) D (.slice A8 l8 k8) ((U.take (p + 1)).map kdU) _ by rw [KM.out, List.map_append]; exact T9.out)
                      generalize w8.setCell ⟨w1.heap.size, 1, none⟩ (.slice A8 l8 k8) = w9 at *
                      clear hHeld T9 B8 c8 f8
                      go_wp2
                      go_roundw
                      case rel => exact ⟨p + 1, _, by go_num, by omega, T10⟩
                      case measure => simp [intOf]; omega
                    exact AllReadyH.nil
                  exact AllReadyH.nil
                exact AllReadyH.nil
              exact AllReadyH.nil
            | false =>
              obtain ⟨W7, e7, T7, Q7⟩ : ∃ W7, wr.drew.alloc (.cells #[.int .i64 2, .int .i64 0, .int .i64 0, .int .i64 0, .string (strB s), .int .u32 0, .slice none 0 0] 37) = W7 ∧ Hid (TrS w w1.heap.size (.slice Ad nd kd) D (.slice An nn kn) ((U.take p).map kdU) W7) ∧ Hid (HasB W7 wr.heap.size 37 (ndP (ndK 2 s))) := ⟨_, rfl, Lib.hid (HT.out.bel (bel_al (below_drewP (Below.refl _ wr)) _)), Lib.hid (HasB.new wr.drew _ _)⟩
              have u0 := T7.out.h.cell 1
              simp only [List.getElem?_cons_zero, List.getElem?_cons_succ] at u0
              go_wp2_with fail
              refine wp_region_noPanic ?_
              refine wp_region_held_drew (S := (fun w' => w'.cell? (y.add (p * 2)) = some (.string (strB s)) ∧ w'.cell? ⟨(y.add (p * 2)).block, (y.add (p * 2)).off + 1, none⟩ = some (.bool false))) (by kernel_rfl) ?_ (fun hHeld => ?_)
              · (try dsimp only)
                exact KS.out _ BD.out
              refine wpAnyH_take (i := 0) (oi := { dst := some 81, op := Op.fieldAddr 28 (Operand.tmp 5) 1, type := 0, pos := "law.go:85", after := #[], guard := none }) (v := ?_) rfl (by kernel_rfl) (by kernel_rfl) (by kernel_rfl) (fun _ _ _ h => h) (Or.inl ⟨by rfl, ?_⟩) (by assumption) ?_
              rotate_left
              · intro w hSw; (try dsimp only at hSw); go_simp <;> (with_reducible rfl)
              (try simp only [Act.put, List.setIfInBounds_toArray, List.set_cons_zero, List.set_cons_succ])
              refine wpAnyH_take (i := 2) (oi := { dst := some 83, op := Op.move (Operand.tmp 10), type := 3, pos := "law.go:85", after := #[], guard := none }) (v := ?_) rfl (by kernel_rfl) (by kernel_rfl) (by kernel_rfl) (fun _ _ _ h => h) (Or.inl ⟨by rfl, ?_⟩) (by assumption) ?_
              rotate_left
              · intro w hSw; (try dsimp only at hSw); go_simp <;> (with_reducible rfl)
              (try simp only [Act.put, List.setIfInBounds_toArray, List.set_cons_zero, List.set_cons_succ])
              refine wpAnyH_take (i := 3) (oi := { dst := some 84, op := Op.move (Operand.tmp 1), type := 23, pos := "law.go:85", after := #[], guard := none }) (v := ?_) rfl (by kernel_rfl) (by kernel_rfl) (by kernel_rfl) (fun _ _ _ h => h) (Or.inl ⟨by rfl, ?_⟩) (by assumption) ?_
              rotate_left
              · intro w hSw; (try dsimp only at hSw); go_simp <;> (with_reducible rfl)
              (try simp only [Act.put, List.setIfInBounds_toArray, List.set_cons_zero, List.set_cons_succ])
              refine wpAnyH_take (i := 4) (oi := { dst := some 85, op := Op.move (Operand.tmp 9), type := 3, pos := "law.go:85", after := #[], guard := none }) (v := ?_) rfl (by kernel_rfl) (by kernel_rfl) (by kernel_rfl) (fun _ _ _ h => h) (Or.inl ⟨by rfl, ?_⟩) (by assumption) ?_
              rotate_left
              · intro w hSw; (try dsimp only at hSw); go_simp <;> (with_reducible rfl)
              (try simp only [Act.put, List.setIfInBounds_toArray, List.set_cons_zero, List.set_cons_succ])
              refine wpAnyH_take (i := 5) (oi := { dst := some 86, op := Op.indexAddr 23 (Operand.tmp 84) (Operand.tmp 85), type := 0, pos := "law.go:85", after := #[{ on := 3, ground := Ground.data }, { on := 4, ground := Ground.data }], guard := none }) (v := ?_) rfl (by kernel_rfl) (by kernel_rfl) (by kernel_rfl) (fun _ _ _ h => h) (Or.inl ⟨by rfl, ?_⟩) (by assumption) ?_
              rotate_left
              · intro w hSw; (try dsimp only at hSw); go_simp <;> (with_reducible rfl)
              (try simp only [Act.put, List.setIfInBounds_toArray, List.set_cons_zero, List.set_cons_succ])
              refine wpAnyH_take (i := 6) (oi := { dst := some 87, op := Op.fieldAddr 33 (Operand.tmp 86) 0, type := 0, pos := "law.go:85", after := #[{ on := 5, ground := Ground.data }], guard := none }) (v := ?_) rfl (by kernel_rfl) (by kernel_rfl) (by kernel_rfl) (fun _ _ _ h => h) (Or.inl ⟨by rfl, ?_⟩) (by assumption) ?_
              rotate_left
              · intro w hSw; (try dsimp only at hSw); go_simp <;> (with_reducible rfl)
              (try simp only [Act.put, List.setIfInBounds_toArray, List.set_cons_zero, List.set_cons_succ])
              refine wpAnyH_take (i := 7) (oi := { dst := some 88, op := Op.load 9 (Operand.tmp 87), type := 9, pos := "law.go:85", after := #[{ on := 6, ground := Ground.data }], guard := none }) (v := ?_) rfl (by kernel_rfl) (by kernel_rfl) (by kernel_rfl) (fun _ _ _ h => h) (Or.inl ⟨by rfl, ?_⟩) (by assumption) ?_
              rotate_left
              · intro w hSw; (try dsimp only at hSw); go_simp <;> (with_reducible rfl)
              (try simp only [Act.put, List.setIfInBounds_toArray, List.set_cons_zero, List.set_cons_succ])
              refine wpAnyH_take (i := 8) (oi := { dst := some 89, op := Op.build 37 #[(0, Operand.tmp 83), (4, Operand.tmp 88)], type := 37, pos := "law.go:85", after := #[{ on := 2, ground := Ground.data }, { on := 7, ground := Ground.data }], guard := none }) (v := ?_) rfl (by kernel_rfl) (by kernel_rfl) (by kernel_rfl) (fun _ _ _ h => h) (Or.inl ⟨by rfl, ?_⟩) (by assumption) ?_
              rotate_left
              · intro w hSw; (try dsimp only at hSw); go_simp <;> (with_reducible rfl)
              (try simp only [Act.put, List.setIfInBounds_toArray, List.set_cons_zero, List.set_cons_succ])
              refine wpAnyH_ready (rs := [1, 9]) (by kernel_rfl) (by simp) ?_
              refine AllReadyH.cons (o := { dst := some 82, op := Op.load 26 (Operand.tmp 81), type := 26, pos := "law.go:85", after := #[{ on := 0, ground := Ground.data }], guard := none }) rfl (fun K hK => ?_) ?_
              · go_simp
                refine hK.out _ _ ?_ (fun hHeld => ?_)
                · (try dsimp only)
                  first | exact KS.out _ BD.out | exact KS.out _ T7.out.b
                clear hK K
                (try simp only [Act.put, List.setIfInBounds_toArray, List.set_cons_zero, List.set_cons_succ])
                refine wpAnyH_ready (rs := [9]) (by kernel_rfl) (by simp) ?_
                refine AllReadyH.cons (o := { dst := some 90, op := Op.buildSlice 26 1 #[(0, Operand.tmp 89)], type := 26, pos := "law.go:85", after := #[{ on := 8, ground := Ground.data }], guard := none }) rfl (fun K hK => ?_) ?_
                · go_simp
                  refine hK.out _ _ ?_ (fun hHeld => ?_)
                  · (try dsimp only)
                    exact KS.out _ T7.out.b
                  clear hK K
                  (try simp only [Act.put, List.setIfInBounds_toArray, List.set_cons_zero, List.set_cons_succ])
                  refine wpAnyH_ready (rs := [10]) (by kernel_rfl) (by simp) ?_
                  refine AllReadyH.cons (o := { dst := some 91, op := Op.call { callee := Callee.builtin Builtin.append, args := #[Operand.tmp 82, Operand.tmp 90], argTypes := #[26, 26] }, type := 26, pos := "law.go:85", after := #[{ on := 1, ground := Ground.data }, { on := 9, ground := Ground.data }], guard := none }) rfl (fun K hK => ?_) ?_
                  · refine app_ndO (.tmp 82) (.tmp 90) rfl T7.out.n rfl (ndK 2 s) rfl wr.heap.size rfl Q7.out (by rw [List.length_map, List.length_take]; omega) T7.out.b.size ?_
                    intro v8 w8 O8 g8 n8 one8
                    obtain ⟨A8, l8, k8, rfl⟩ : ∃ A n c, v8 = .slice A n c := by obtain ⟨A, c, e⟩ := own_form O8; exact ⟨A, _, c, e⟩
                    obtain ⟨T9, c8, f8, B8⟩ := T7.out.nod O8 g8
                    have B8 := Lib.hid B8
                    have T9 := Lib.hid T9
                    have c8 := c8
                    clear O8 g8 n8
                    refine hK.out _ _ ?_ (fun hHeld => ?_)
                    · (try dsimp only)
                      exact KS.out _ B8.out
                    clear hK K
                    (try simp only [Act.put, List.setIfInBounds_toArray, List.set_cons_zero, List.set_cons_succ])
                    refine wpAnyH_take (i := 11) (oi := { dst := some 92, op := Op.fieldAddr 28 (Operand.tmp 5) 1, type := 0, pos := "law.go:85", after := #[{ on := 0, ground := Ground.phase }, { on := 1, ground := Ground.phase }, { on := 2, ground := Ground.phase }, { on := 3, ground := Ground.phase }, { on := 4, ground := Ground.phase }, { on := 5, ground := Ground.phase }, { on := 6, ground := Ground.phase }, { on := 7, ground := Ground.phase }, { on := 8, ground := Ground.phase }, { on := 9, ground := Ground.phase }, { on := 10, ground := Ground.phase }], guard := none }) (v := ?_) rfl (by kernel_rfl) (by kernel_rfl) (by kernel_rfl) (fun _ _ _ h => h) (Or.inl ⟨by rfl, ?_⟩) (by assumption) ?_
                    rotate_left
                    · intro w hSw; (try dsimp only at hSw); go_simp <;> (with_reducible rfl)
                    (try simp only [Act.put, List.setIfInBounds_toArray, List.set_cons_zero, List.set_cons_succ])
                    refine wpAnyH_ready (rs := [12]) (by kernel_rfl) (by simp) ?_
                    refine AllReadyH.cons (o := { dst := none, op := Op.store 26 (Operand.tmp 92) (Operand.tmp 91), type := 0, pos := "law.go:85", after := #[{ on := 11, ground := Ground.data }, { on := 10, ground := Ground.data }, { on := 10, ground := Ground.chain }, { on := 0, ground := Ground.phase }, { on := 1, ground := Ground.phase }, { on := 2, ground := Ground.phase }, { on := 3, ground := Ground.phase }, { on := 4, ground := Ground.phase }, { on := 5, ground := Ground.phase }, { on := 6, ground := Ground.phase }, { on := 7, ground := Ground.phase }, { on := 8, ground := Ground.phase }, { on := 9, ground := Ground.phase }, { on := 10, ground := Ground.phase }], guard := none }) rfl (fun K hK => ?_) ?_
                    · go_simp
                      refine hK.out _ _ ?_ (fun hHeld => ?_)
                      · (try dsimp only)
                        exact KS.out _ T9.out.b
                      clear hK K
                      (try simp only [Act.put, List.setIfInBounds_toArray, List.set_cons_zero, List.set_cons_succ])
                      refine wpAnyH_done (by kernel_rfl) ?_ _
                      refine NoPanic.normal ?_
                      have T10 := Lib.hid (show TrS w w1.heap.size (.slice Ad nd kd) D (.slice A8 l8 k8) ((U.take (p + 1)).map kdU) _ by rw [KM.out, List.map_append]; exact T9.out)
                      generalize w8.setCell ⟨w1.heap.size, 1, none⟩ (.slice A8 l8 k8) = w9 at *
                      clear hHeld T9 B8 c8 f8
                      go_wp2
                      go_roundw
                      case rel => exact ⟨p + 1, _, by go_num, by omega, T10⟩
                      case measure => simp [intOf]; omega
                    exact AllReadyH.nil
                  exact AllReadyH.nil
                exact AllReadyH.nil
              refine AllReadyH.cons (o := { dst := some 90, op := Op.buildSlice 26 1 #[(0, Operand.tmp 89)], type := 26, pos := "law.go:85", after := #[{ on := 8, ground := Ground.data }], guard := none }) rfl (fun K hK => ?_) ?_
              · go_simp
                refine hK.out _ _ ?_ (fun hHeld => ?_)
                · (try dsimp only)
                  exact KS.out _ T7.out.b
                clear hK K
                (try simp only [Act.put, List.setIfInBounds_toArray, List.set_cons_zero, List.set_cons_succ])
                refine wpAnyH_ready (rs := [1]) (by kernel_rfl) (by simp) ?_
                refine AllReadyH.cons (o := { dst := some 82, op := Op.load 26 (Operand.tmp 81), type := 26, pos := "law.go:85", after := #[{ on := 0, ground := Ground.data }], guard := none }) rfl (fun K hK => ?_) ?_
                · go_simp
                  refine hK.out _ _ ?_ (fun hHeld => ?_)
                  · (try dsimp only)
                    first | exact KS.out _ BD.out | exact KS.out _ T7.out.b
                  clear hK K
                  (try simp only [Act.put, List.setIfInBounds_toArray, List.set_cons_zero, List.set_cons_succ])
                  refine wpAnyH_ready (rs := [10]) (by kernel_rfl) (by simp) ?_
                  refine AllReadyH.cons (o := { dst := some 91, op := Op.call { callee := Callee.builtin Builtin.append, args := #[Operand.tmp 82, Operand.tmp 90], argTypes := #[26, 26] }, type := 26, pos := "law.go:85", after := #[{ on := 1, ground := Ground.data }, { on := 9, ground := Ground.data }], guard := none }) rfl (fun K hK => ?_) ?_
                  · refine app_ndO (.tmp 82) (.tmp 90) rfl T7.out.n rfl (ndK 2 s) rfl wr.heap.size rfl Q7.out (by rw [List.length_map, List.length_take]; omega) T7.out.b.size ?_
                    intro v8 w8 O8 g8 n8 one8
                    obtain ⟨A8, l8, k8, rfl⟩ : ∃ A n c, v8 = .slice A n c := by obtain ⟨A, c, e⟩ := own_form O8; exact ⟨A, _, c, e⟩
                    obtain ⟨T9, c8, f8, B8⟩ := T7.out.nod O8 g8
                    have B8 := Lib.hid B8
                    have T9 := Lib.hid T9
                    have c8 := c8
                    clear O8 g8 n8
                    refine hK.out _ _ ?_ (fun hHeld => ?_)
                    · (try dsimp only)
                      exact KS.out _ B8.out
                    clear hK K
                    (try simp only [Act.put, List.setIfInBounds_toArray, List.set_cons_zero, List.set_cons_succ])
                    refine wpAnyH_take (i := 11) (oi := { dst := some 92, op := Op.fieldAddr 28 (Operand.tmp 5) 1, type := 0, pos := "law.go:85", after := #[{ on := 0, ground := Ground.phase }, { on := 1, ground := Ground.phase }, { on := 2, ground := Ground.phase }, { on := 3, ground := Ground.phase }, { on := 4, ground := Ground.phase }, { on := 5, ground := Ground.phase }, { on := 6, ground := Ground.phase }, { on := 7, ground := Ground.phase }, { on := 8, ground := Ground.phase }, { on := 9, ground := Ground.phase }, { on := 10, ground := Ground.phase }], guard := none }) (v := ?_) rfl (by kernel_rfl) (by kernel_rfl) (by kernel_rfl) (fun _ _ _ h => h) (Or.inl ⟨by rfl, ?_⟩) (by assumption) ?_
                    rotate_left
                    · intro w hSw; (try dsimp only at hSw); go_simp <;> (with_reducible rfl)
                    (try simp only [Act.put, List.setIfInBounds_toArray, List.set_cons_zero, List.set_cons_succ])
                    refine wpAnyH_ready (rs := [12]) (by kernel_rfl) (by simp) ?_
                    refine AllReadyH.cons (o := { dst := none, op := Op.store 26 (Operand.tmp 92) (Operand.tmp 91), type := 0, pos := "law.go:85", after := #[{ on := 11, ground := Ground.data }, { on := 10, ground := Ground.data }, { on := 10, ground := Ground.chain }, { on := 0, ground := Ground.phase }, { on := 1, ground := Ground.phase }, { on := 2, ground := Ground.phase }, { on := 3, ground := Ground.phase }, { on := 4, ground := Ground.phase }, { on := 5, ground := Ground.phase }, { on := 6, ground := Ground.phase }, { on := 7, ground := Ground.phase }, { on := 8, ground := Ground.phase }, { on := 9, ground := Ground.phase }, { on := 10, ground := Ground.phase }], guard := none }) rfl (fun K hK => ?_) ?_
                    · go_simp
                      refine hK.out _ _ ?_ (fun hHeld => ?_)
                      · (try dsimp only)
                        exact KS.out _ T9.out.b
                      clear hK K
                      (try simp only [Act.put, List.setIfInBounds_toArray, List.set_cons_zero, List.set_cons_succ])
                      refine wpAnyH_done (by kernel_rfl) ?_ _
                      refine NoPanic.normal ?_
                      have T10 := Lib.hid (show TrS w w1.heap.size (.slice Ad nd kd) D (.slice A8 l8 k8) ((U.take (p + 1)).map kdU) _ by rw [KM.out, List.map_append]; exact T9.out)
                      generalize w8.setCell ⟨w1.heap.size, 1, none⟩ (.slice A8 l8 k8) = w9 at *
                      clear hHeld T9 B8 c8 f8
                      go_wp2
                      go_roundw
                      case rel => exact ⟨p + 1, _, by go_num, by omega, T10⟩
                      case measure => simp [intOf]; omega
                    exact AllReadyH.nil
                  exact AllReadyH.nil
                exact AllReadyH.nil
              exact AllReadyH.nil
        · obtain rfl : p = m := by omega
          have HE : Hid (U.take p = U) := Lib.hid (List.take_of_length_le (by rw [HM.out]; exact Nat.le_refl _))
          have HT3 : Hid (TrS w w1.heap.size (.slice Ad nd kd) D (.slice An nn kn) (U.map kdU) wr) := Lib.hid (by have := HT.out; rwa [HE.out] at this)
          have hkl : D.length ≤ 100000 := by rw [HN.out]; omega
          have CR := rightT HT3.out hkl HS.out (by rw [List.length_map, HM.out]; omega) (kdU_ls U) 0
          rw [kdU_us, right_ref D U 2 3 rfl rfl] at CR
          have CQ := Lib.hid (fun W (b : Below w.heap.size w W) => rright_any A A' cap cap' D U W (RD.out.below b) (RU.out.below b) (by rw [HN.out]; omega) (by rw [HM.out]; omega))
          rw [HN.out, HM.out] at CQ
          have CV := Lib.hid (fun W (T : TrS w w1.heap.size (.slice Ad nd kd) D (.slice An nn kn) (U.map kdU) W) => vars_any (.slice Ad nd kd) (.slice An nn kn) 0 D W (own_0 T.d) hkl HS.out)
          have CA := Lib.hid (fun W (T : TrS w w1.heap.size (.slice Ad nd kd) D (.slice An nn kn) (U.map kdU) W) => arrs_any (.slice Ad nd kd) (.slice An nn kn) 0 D W (own_0 T.d) hkl HS.out)
          generalize rightR D U = rr at *
          unfold treeV at CR CV CA
          replace CR := Lib.hid CR
          have t0 := HT3.out.h.cell 0
          have t1 := HT3.out.h.cell 1
          have t2 := HT3.out.h.cell 2
          simp only [List.getElem?_cons_zero, List.getElem?_cons_succ] at t0 t1 t2
          clear HT HE hkl
          go_wp2_with fail
          refine CR.out.mono ?_; rintro e w3 ⟨rfl, b3⟩
          have T3 := Lib.hid (HT3.out.bel b3)
          have C3 := Lib.hid (CQ.out w3 T3.out.b)
          clear b3 CR CQ
          go_wp2_with fail
          refine C3.out.mono ?_; rintro e w4 ⟨rfl, b4⟩
          have T4 := Lib.hid (T3.out.bel b4)
          have C4 := Lib.hid (CV.out w4 T4.out)
          have t0 := T4.out.h.cell 0
          have t1 := T4.out.h.cell 1
          have t2 := T4.out.h.cell 2
          simp only [List.getElem?_cons_zero, List.getElem?_cons_succ] at t0 t1 t2
          clear b4 C3 CV
          go_wp2_with fail
          refine C4.out.mono ?_; rintro e w5 ⟨v5, rfl, o5, b5⟩
          obtain ⟨A5, k5, rfl⟩ := own_form o5
          rw [← HV.out]
          have T5 := Lib.hid (T4.out.bel b5)
          have C5 := Lib.hid (CA.out w5 T5.out)
          have t0 := T5.out.h.cell 0
          have t1 := T5.out.h.cell 1
          have t2 := T5.out.h.cell 2
          simp only [List.getElem?_cons_zero, List.getElem?_cons_succ] at t0 t1 t2
          clear b5 C4 CA o5
          go_wp2_with fail
          refine C5.out.mono ?_; rintro e w6 ⟨v6, rfl, o6, b6⟩
          obtain ⟨A6, k6, rfl⟩ := own_form o6
          rw [← HA.out]
          have T6 := Lib.hid (T5.out.bel b6)
          clear b6 C5 o6
          go_wp2
          go_ret
          exact ⟨by first | rfl | simp, T6.out.b⟩
end Go.Proofs.YtkacplcilkogpaaDoor.Mm
