/- The statement CheckMore, walked. -/
import Derived.Test.YtkacplcilkogpaaDoorPChkMo
import Derived.Deep.CutRange
namespace Go.Proofs.YtkacplcilkogpaaDoor.Mm
open Go.ChangeShapes Go.WideShapes Go.ChangeAt Go.RowKit
set_option linter.unusedVariables false
set_option linter.unusedSimpArgs false
set_option maxRecDepth 10000

set_option maxHeartbeats 64000000 in
theorem checkMore_walk (s : ByteArray) (arr : Bool) (w : World) (hs : s.size ≤ maxLen) (hE : EnvC w) :
    Calls Tryd.prog 5 #[.string s, .bool arr] w fun e w' => e = .returned (.bool true) ∧ Below w.heap.size w w' := by
  have AW := Lib.hid (fun W (k : Below w.heap.size w W) => awakeC W (hE.below k))
  have HE := Lib.hid (fun W (k : Below w.heap.size w W) => hE.below k)
  have B0 := Lib.hid (Below.refl w.heap.size w)
  clear hE
  by_cases hz : 1500 < s.size
  · have hzi : (1500 : Int) < (s.size : Int) := by omega
    go_enter Tryd.func5, Tryd.ntmps5
    go_wp2_with fail
    refine (AW.out _ B0.out).mono ?_; rintro e w1 ⟨rfl, hb⟩
    have B1 := Lib.hid hb
    clear hb
    go_wp2_with fail
    refine (AW.out _ B1.out).mono ?_; rintro e w2 ⟨rfl, hb⟩
    have B2 := Lib.hid (bel_then B1.out hb)
    clear hb
    go_wp2
    go_ret
    exact ⟨rfl, B2.out⟩
  have hzi : ¬ (1500 : Int) < (s.size : Int) := by omega
  have CR := Lib.hid (fun W (k : Below w.heap.size w W) => ckread_any s (by omega) W (HE.out W k))
  cases e1 : ckE s.data.toList with
  | error y =>
    obtain ⟨k, x⟩ := y
    have hx : ¬ x = 0 := by
      unfold ckE at e1
      cases hp : parE s.data.toList with
      | error y =>
        rw [hp] at e1
        obtain ⟨k', x'⟩ := y
        simp only at e1
        injection e1 with e1; injection e1 with e2 e3
        subst e3
        unfold parE at hp
        cases hr : readE s.data.toList with
        | error y => rw [hr] at hp; obtain ⟨a, b⟩ := y; injection hp with hp; injection hp with h1 h2; subst h1 h2; have := readE_er hr; omega
        | ok ws =>
          rw [hr] at hp
          simp only at hp
          split at hp
          · injection hp with hp; injection hp with h1 h2; omega
          · split at hp
            · injection hp with hp; injection hp with h1 h2; omega
            · cases hp
      | ok y =>
        obtain ⟨D, b⟩ := y
        rw [hp] at e1
        simp only at e1
        split at e1
        · cases e1
        · rename_i h0
          injection e1 with e1; injection e1 with e2 e3
          subst e3
          exact h0
    have C1 := fun W (k : Below w.heap.size w W) => CR.out W k
    unfold CkP at C1
    rw [e1] at C1
    simp only at C1
    replace C1 := Lib.hid C1
    clear e1 CR
    go_enter Tryd.func5, Tryd.ntmps5
    go_wp2_with fail
    refine (AW.out _ B0.out).mono ?_; rintro e w1 ⟨rfl, hb⟩
    have B1 := Lib.hid hb
    clear hb
    go_wp2_with fail
    refine (C1.out _ B1.out).mono ?_; rintro e w2 ⟨rfl, hb⟩
    have B2 := Lib.hid (bel_then B1.out hb)
    clear hb
    unfold treeV
    obtain ⟨wa, w3, ea, e3, HZ, H3, B3⟩ := tc_st w2 (.slice none 0 0) (.slice none 0 0) (.int .i64 0)
    have z0 := HZ.out.cell 0
    have y0 := HZ.out.frozen 0
    have z1 := HZ.out.cell 1
    have y1 := HZ.out.frozen 1
    have z2 := HZ.out.cell 2
    have y2 := HZ.out.frozen 2
    simp only [List.getElem?_cons_zero, List.getElem?_cons_succ] at z0 z1 z2
    have B4 := Lib.hid (bel_then B2.out B3.out)
    go_wp2
    go_ret
    exact ⟨rfl, B4.out⟩
  | ok y =>
    obtain ⟨D, b⟩ := y
    obtain ⟨e2, e0⟩ := ckE_ok e1
    obtain ⟨ws, d, _, hrl, G⟩ := parE_ok e2
    have HR := Lib.hid (right_more D (usF b) [110, 111, 110, 101, 57, 57, 57, 57, 120] arr e0 G.new)
    have hcf := G.few
    have hdf := G.dfew
    have hnm := Lib.hid (fun x (hx : x ∈ D) => Nat.le_trans (G.names x hx) (by omega : 10 ≤ 100000))
    have C1 := fun W (k : Below w.heap.size w W) => CR.out W k
    unfold CkP at C1
    rw [e1] at C1
    simp only at C1
    replace C1 := Lib.hid C1
    clear e1 CR e2 e0 hrl G
    go_enter Tryd.func5, Tryd.ntmps5
    go_wp2_with fail
    refine (AW.out _ B0.out).mono ?_; rintro e w1 ⟨rfl, hb⟩
    have B1 := Lib.hid hb
    clear hb
    go_wp2_with fail
    refine (C1.out _ B1.out).mono ?_; rintro e w2 ⟨A, B, ca, cb, N, rfl, T, hN, hc, hb⟩
    have B2 := Lib.hid (bel_then B1.out hb)
    have HT := Lib.hid T
    have hND := Lib.hid hN
    have hNC := Lib.hid hc
    clear hb T hN hc C1
    unfold treeV
    generalize rt 0 b = bb at *
    obtain ⟨wa, w3, ea, e3, HZ, H3, B3⟩ := tc_st w2 (.slice A D.length ca) (.slice B N.length cb) (.int .i64 bb)
    have z0 := HZ.out.cell 0
    have y0 := HZ.out.frozen 0
    have z1 := HZ.out.cell 1
    have y1 := HZ.out.frozen 1
    have z2 := HZ.out.cell 2
    have y2 := HZ.out.frozen 2
    simp only [List.getElem?_cons_zero, List.getElem?_cons_succ] at z0 z1 z2
    have B4 := Lib.hid (bel_then B2.out B3.out)
    have T3 := Lib.hid (HT.out.below B3.out)
    have T3D := Lib.hid T3.out.decls
    obtain ⟨sz, hsz⟩ : ∃ sz : Int, sz = if arr then 5 else -1 := ⟨_, rfl⟩
    have HSZ := Lib.hid hsz
    clear hsz
    go_upto_if 28 with fail
    go_cut [8] from 28 to 29 (fun s8 wx => s8 = .int .i64 sz ∧ wx = w3)
    case first =>
      cases arr with
      | true =>
        have : sz = 5 := HSZ.out
        subst this
        go_wp2_with fail
        go_meet
        exact ⟨rfl, rfl⟩
      | false =>
        have : sz = -1 := HSZ.out
        subst this
        go_wp2_with fail
        go_meet
        exact ⟨rfl, rfl⟩
    obtain ⟨rfl, hwc⟩ := hcut
    obtain rfl : w3 = wc := hwc.symm
    have HR1 : Hid ((rightE (D ++ [([110, 111, 110, 101, 57, 57, 57, 57, 120], sz)]) (usF b) = 0 ↔ fullB D arr = false) ∧ rightE (D ++ [([110, 111, 110, 101, 57, 57, 57, 57, 120], sz)] ++ [([110, 111, 110, 101, 57, 57, 57, 57, 120], -1)]) (usF b) = 9) := Lib.hid (by rw [HSZ.out]; exact HR.out)
    clear HR HSZ z0 z1 z2 y0 y1 y2 HZ ea e3
    have n0 := H3.out.cell 0
    have n1 := H3.out.cell 1
    have n2 := H3.out.cell 2
    simp only [List.getElem?_cons_zero, List.getElem?_cons_succ] at n0 n1 n2
    go_upto_region 9 with fail
    go_cut [9] from 29 to 42 (fun s9 wx => ∃ (jx : Nat) (Ax : Option Addr) (lx kx : Nat), s9 = .pointer (some ⟨jx, 0, none⟩) ∧ (HasB wx jx 28 [.slice Ax lx kx, .slice B N.length cb, .int .i64 bb] ∧ DcO wx w3.heap.size (.slice Ax lx kx) (D ++ [([110, 111, 110, 101, 57, 57, 57, 57, 120], sz)]) ∧ Below w3.heap.size w3 wx ∧ w3.heap.size ≤ jx))
    case first =>
        have KS := Lib.hid (fun (w' : World) (k : Below w3.heap.size w3 w') => (show (fun w' => w'.cell? ⟨w2.heap.size, 0, none⟩ = some (.slice A D.length ca) ∧ w'.cell? ⟨w2.heap.size, 1, none⟩ = some (.slice B N.length cb) ∧ w'.cell? ⟨w2.heap.size, 2, none⟩ = some (.int .i64 bb)) w' from ⟨(H3.out.below k).cell 0, (H3.out.below k).cell 1, (H3.out.below k).cell 2⟩))
        have M_ := Lib.hid (Mo.start w3 ([110, 111, 110, 101, 57, 57, 57, 57, 120], sz))
        obtain ⟨W_0, e_0, M_0⟩ : ∃ W', w3.drew.alloc (.cells #[] 31) = W' ∧ Hid (Mo w3 W' (some (.slice (some ⟨w3.heap.size, 0, none⟩) 0 0, [])) none none ([110, 111, 110, 101, 57, 57, 57, 57, 120], sz)) := M_.out.e0
        obtain ⟨W_6, e_6, M_6⟩ : ∃ W', w3.drew.alloc (.cells #[.string ⟨#[110, 111, 110, 101, 57, 57, 57, 57, 120]⟩, .int .i64 sz] 31) = W' ∧ Hid (Mo w3 W' none (some w3.heap.size) none ([110, 111, 110, 101, 57, 57, 57, 57, 120], sz)) := M_.out.q0
        obtain ⟨W_x, e_x, M_x⟩ : ∃ W', w3.drew.alloc (.cells #[.slice none 0 0, .slice none 0 0, .int .i64 0] 28) = W' ∧ Hid (Mo w3 W' none none (some w3.heap.size) ([110, 111, 110, 101, 57, 57, 57, 57, 120], sz)) := M_.out.x0
        refine wp_region_noPanic ?_
        refine wp_region_held_drew (S := (fun w' => w'.cell? ⟨w2.heap.size, 0, none⟩ = some (.slice A D.length ca) ∧ w'.cell? ⟨w2.heap.size, 1, none⟩ = some (.slice B N.length cb) ∧ w'.cell? ⟨w2.heap.size, 2, none⟩ = some (.int .i64 bb))) (by kernel_rfl) ?_ (fun hHeld => ?_)
        · (try dsimp only)
          exact KS.out _ M_.out.b
        refine wpAnyH_take (i := 1) (oi := { dst := some 30, op := Op.fieldAddr 28 (Operand.tmp 5) 0, type := 0, pos := "law.go:125", after := #[], guard := none }) (v := ?_) rfl (by kernel_rfl) (by kernel_rfl) (by kernel_rfl) (fun _ _ _ h => h) (Or.inl ⟨by rfl, ?_⟩) (by assumption) ?_
        rotate_left
        · intro w hSw; (try dsimp only at hSw); go_simp <;> (with_reducible rfl)
        (try simp only [Act.put, List.setIfInBounds_toArray, List.set_cons_zero, List.set_cons_succ])
        refine wpAnyH_take (i := 2) (oi := { dst := some 31, op := Op.load 25 (Operand.tmp 30), type := 25, pos := "law.go:125", after := #[{ on := 1, ground := Ground.data }], guard := none }) (v := ?_) rfl (by kernel_rfl) (by kernel_rfl) (by kernel_rfl) (fun _ _ _ h => h) (Or.inl ⟨by rfl, ?_⟩) (by assumption) ?_
        rotate_left
        · intro w hSw; (try dsimp only at hSw); go_simp <;> (with_reducible rfl)
        (try simp only [Act.put, List.setIfInBounds_toArray, List.set_cons_zero, List.set_cons_succ])
        refine wpAnyH_take (i := 4) (oi := { dst := some 33, op := Op.move (Operand.tmp 8), type := 3, pos := "law.go:125", after := #[], guard := none }) (v := ?_) rfl (by kernel_rfl) (by kernel_rfl) (by kernel_rfl) (fun _ _ _ h => h) (Or.inl ⟨by rfl, ?_⟩) (by assumption) ?_
        rotate_left
        · intro w hSw; (try dsimp only at hSw); go_simp <;> (with_reducible rfl)
        (try simp only [Act.put, List.setIfInBounds_toArray, List.set_cons_zero, List.set_cons_succ])
        refine wpAnyH_take (i := 5) (oi := { dst := some 34, op := Op.build 31 #[(0, Operand.const (Value.string { data := #[110, 111, 110, 101, 57, 57, 57, 57, 120] })), (1, Operand.tmp 33)], type := 31, pos := "law.go:125", after := #[{ on := 4, ground := Ground.data }], guard := none }) (v := ?_) rfl (by kernel_rfl) (by kernel_rfl) (by kernel_rfl) (fun _ _ _ h => h) (Or.inl ⟨by rfl, ?_⟩) (by assumption) ?_
        rotate_left
        · intro w hSw; (try dsimp only at hSw); go_simp <;> (with_reducible rfl)
        (try simp only [Act.put, List.setIfInBounds_toArray, List.set_cons_zero, List.set_cons_succ])
        refine wpAnyH_take (i := 8) (oi := { dst := some 37, op := Op.fieldAddr 28 (Operand.tmp 5) 1, type := 0, pos := "law.go:125", after := #[], guard := none }) (v := ?_) rfl (by kernel_rfl) (by kernel_rfl) (by kernel_rfl) (fun _ _ _ h => h) (Or.inl ⟨by rfl, ?_⟩) (by assumption) ?_
        rotate_left
        · intro w hSw; (try dsimp only at hSw); go_simp <;> (with_reducible rfl)
        (try simp only [Act.put, List.setIfInBounds_toArray, List.set_cons_zero, List.set_cons_succ])
        refine wpAnyH_take (i := 9) (oi := { dst := some 38, op := Op.load 26 (Operand.tmp 37), type := 26, pos := "law.go:125", after := #[{ on := 8, ground := Ground.data }], guard := none }) (v := ?_) rfl (by kernel_rfl) (by kernel_rfl) (by kernel_rfl) (fun _ _ _ h => h) (Or.inl ⟨by rfl, ?_⟩) (by assumption) ?_
        rotate_left
        · intro w hSw; (try dsimp only at hSw); go_simp <;> (with_reducible rfl)
        (try simp only [Act.put, List.setIfInBounds_toArray, List.set_cons_zero, List.set_cons_succ])
        refine wpAnyH_take (i := 10) (oi := { dst := some 39, op := Op.fieldAddr 28 (Operand.tmp 5) 2, type := 0, pos := "law.go:125", after := #[], guard := none }) (v := ?_) rfl (by kernel_rfl) (by kernel_rfl) (by kernel_rfl) (fun _ _ _ h => h) (Or.inl ⟨by rfl, ?_⟩) (by assumption) ?_
        rotate_left
        · intro w hSw; (try dsimp only at hSw); go_simp <;> (with_reducible rfl)
        (try simp only [Act.put, List.setIfInBounds_toArray, List.set_cons_zero, List.set_cons_succ])
        refine wpAnyH_take (i := 11) (oi := { dst := some 40, op := Op.load 3 (Operand.tmp 39), type := 3, pos := "law.go:125", after := #[{ on := 10, ground := Ground.data }], guard := none }) (v := ?_) rfl (by kernel_rfl) (by kernel_rfl) (by kernel_rfl) (fun _ _ _ h => h) (Or.inl ⟨by rfl, ?_⟩) (by assumption) ?_
        rotate_left
        · intro w hSw; (try dsimp only at hSw); go_simp <;> (with_reducible rfl)
        (try simp only [Act.put, List.setIfInBounds_toArray, List.set_cons_zero, List.set_cons_succ])
        refine wpAnyH_ready (rs := [0, 6, 13]) (by kernel_rfl) (by simp) ?_
        refine AllReadyH.cons (o := { dst := some 29, op := Op.buildSlice 25 0 #[], type := 25, pos := "law.go:125", after := #[], guard := none }) rfl (fun K hK => ?_) ?_
        · go_simp
          obtain ⟨W_06, e_06, M_06⟩ : ∃ W', W_0.alloc (.cells #[.string ⟨#[110, 111, 110, 101, 57, 57, 57, 57, 120]⟩, .int .i64 sz] 31) = W' ∧ Hid (Mo w3 W' (some (.slice (some ⟨w3.heap.size, 0, none⟩) 0 0, [])) (some W_0.heap.size) none ([110, 111, 110, 101, 57, 57, 57, 57, 120], sz)) := M_0.out.q0
          obtain ⟨W_0x, e_0x, M_0x⟩ : ∃ W', W_0.alloc (.cells #[.slice none 0 0, .slice none 0 0, .int .i64 0] 28) = W' ∧ Hid (Mo w3 W' (some (.slice (some ⟨w3.heap.size, 0, none⟩) 0 0, [])) none (some W_0.heap.size) ([110, 111, 110, 101, 57, 57, 57, 57, 120], sz)) := M_0.out.x0
          refine hK.out _ _ ?_ (fun hHeld => ?_)
          · (try dsimp only)
            exact KS.out _ M_0.out.b
          clear hK K
          (try simp only [Act.put, List.setIfInBounds_toArray, List.set_cons_zero, List.set_cons_succ])
          refine wpAnyH_ready (rs := [3, 6, 13]) (by kernel_rfl) (by simp) ?_
          refine AllReadyH.cons (o := { dst := some 32, op := Op.call { callee := Callee.builtin Builtin.append, args := #[Operand.tmp 29, Operand.tmp 31], argTypes := #[25, 25] }, type := 25, pos := "law.go:125", after := #[{ on := 0, ground := Ground.data }, { on := 2, ground := Ground.data }], guard := none }) rfl (fun K hK => ?_) ?_
          · refine app_allO (.tmp 29) (.tmp 31) rfl (M_0.out.e _ _ rfl) rfl (own_belowP T3D.out M_0.out.b) rfl (by omega) M_0.out.b.size ?_
            intro v3 W_03 O3 g3 n3
            obtain ⟨A3, l3, k3, rfl⟩ : ∃ A n c, v3 = .slice A n c := by obtain ⟨A, c, e⟩ := own_form O3; exact ⟨A, _, c, e⟩
            have M_03 : Hid (Mo w3 W_03 (some (.slice A3 l3 k3, D)) none none ([110, 111, 110, 101, 57, 57, 57, 57, 120], sz)) := Lib.hid (M_0.out.ap O3 g3 n3)
            clear O3 g3 n3
            obtain ⟨W_036, e_036, M_036⟩ : ∃ W', W_03.alloc (.cells #[.string ⟨#[110, 111, 110, 101, 57, 57, 57, 57, 120]⟩, .int .i64 sz] 31) = W' ∧ Hid (Mo w3 W' (some (.slice A3 l3 k3, D)) (some W_03.heap.size) none ([110, 111, 110, 101, 57, 57, 57, 57, 120], sz)) := M_03.out.q0
            obtain ⟨W_03x, e_03x, M_03x⟩ : ∃ W', W_03.alloc (.cells #[.slice none 0 0, .slice none 0 0, .int .i64 0] 28) = W' ∧ Hid (Mo w3 W' (some (.slice A3 l3 k3, D)) none (some W_03.heap.size) ([110, 111, 110, 101, 57, 57, 57, 57, 120], sz)) := M_03.out.x0
            refine hK.out _ _ ?_ (fun hHeld => ?_)
            · (try dsimp only)
              exact KS.out _ M_03.out.b
            clear hK K
            (try simp only [Act.put, List.setIfInBounds_toArray, List.set_cons_zero, List.set_cons_succ])
            refine wpAnyH_ready (rs := [6, 13]) (by kernel_rfl) (by simp) ?_
            refine AllReadyH.cons (o := { dst := some 35, op := Op.buildSlice 25 1 #[(0, Operand.tmp 34)], type := 25, pos := "law.go:125", after := #[{ on := 5, ground := Ground.data }], guard := none }) rfl (fun K hK => ?_) ?_
            · go_simp
              obtain ⟨W_036x, e_036x, M_036x⟩ : ∃ W', W_036.alloc (.cells #[.slice none 0 0, .slice none 0 0, .int .i64 0] 28) = W' ∧ Hid (Mo w3 W' (some (.slice A3 l3 k3, D)) (some W_03.heap.size) (some W_036.heap.size) ([110, 111, 110, 101, 57, 57, 57, 57, 120], sz)) := M_036.out.x0
              refine hK.out _ _ ?_ (fun hHeld => ?_)
              · (try dsimp only)
                exact KS.out _ M_036.out.b
              clear hK K
              (try simp only [Act.put, List.setIfInBounds_toArray, List.set_cons_zero, List.set_cons_succ])
              refine wpAnyH_ready (rs := [7, 13]) (by kernel_rfl) (by simp) ?_
              refine AllReadyH.cons (o := { dst := some 36, op := Op.call { callee := Callee.builtin Builtin.append, args := #[Operand.tmp 32, Operand.tmp 35], argTypes := #[25, 25] }, type := 25, pos := "law.go:125", after := #[{ on := 3, ground := Ground.data }, { on := 6, ground := Ground.data }, { on := 3, ground := Ground.chain }], guard := none }) rfl (fun K hK => ?_) ?_
              · refine app_dcO (.tmp 32) (.tmp 35) rfl (M_036.out.e _ _ rfl) rfl ([110, 111, 110, 101, 57, 57, 57, 57, 120], sz) W_03.heap.size rfl (M_036.out.q _ rfl).1 (by omega) M_036.out.b.size ?_
                intro v7 W_0367 O7 g7 n7 one7
                obtain ⟨A7, l7, k7, rfl⟩ : ∃ A n c, v7 = .slice A n c := by obtain ⟨A, c, e⟩ := own_form O7; exact ⟨A, _, c, e⟩
                have M_0367 : Hid (Mo w3 W_0367 (some (.slice A7 l7 k7, D ++ [([110, 111, 110, 101, 57, 57, 57, 57, 120], sz)])) (some W_03.heap.size) none ([110, 111, 110, 101, 57, 57, 57, 57, 120], sz)) := Lib.hid (M_036.out.ap O7 g7 n7)
                clear O7 g7 n7 one7
                obtain ⟨W_0367x, e_0367x, M_0367x⟩ : ∃ W', W_0367.alloc (.cells #[.slice none 0 0, .slice none 0 0, .int .i64 0] 28) = W' ∧ Hid (Mo w3 W' (some (.slice A7 l7 k7, D ++ [([110, 111, 110, 101, 57, 57, 57, 57, 120], sz)])) (some W_03.heap.size) (some W_0367.heap.size) ([110, 111, 110, 101, 57, 57, 57, 57, 120], sz)) := M_0367.out.x0
                refine hK.out _ _ ?_ (fun hHeld => ?_)
                · (try dsimp only)
                  exact KS.out _ M_0367.out.b
                clear hK K
                (try simp only [Act.put, List.setIfInBounds_toArray, List.set_cons_zero, List.set_cons_succ])
                refine wpAnyH_take (i := 12) (oi := { dst := some 41, op := Op.build 28 #[(0, Operand.tmp 36), (1, Operand.tmp 38), (2, Operand.tmp 40)], type := 28, pos := "law.go:125", after := #[{ on := 7, ground := Ground.data }, { on := 9, ground := Ground.data }, { on := 11, ground := Ground.data }], guard := none }) (v := ?_) rfl (by kernel_rfl) (by kernel_rfl) (by kernel_rfl) (fun _ _ _ h => h) (Or.inl ⟨by rfl, ?_⟩) (by assumption) ?_
                rotate_left
                · intro w hSw; (try dsimp only at hSw); go_simp <;> (with_reducible rfl)
                (try simp only [Act.put, List.setIfInBounds_toArray, List.set_cons_zero, List.set_cons_succ])
                refine wpAnyH_ready (rs := [13]) (by kernel_rfl) (by simp) ?_
                refine AllReadyH.cons (o := { dst := some 9, op := Op.alloc 28, type := 0, pos := "law.go:125", after := #[], guard := none }) rfl (fun K hK => ?_) ?_
                · go_simp
                  have X0 := (M_0367x.out.x _ rfl).1.cell 0
                  have X1 := (M_0367x.out.x _ rfl).1.cell 1
                  have X2 := (M_0367x.out.x _ rfl).1.cell 2
                  have Y0 := (M_0367x.out.x _ rfl).1.frozen 0
                  have Y1 := (M_0367x.out.x _ rfl).1.frozen 1
                  have Y2 := (M_0367x.out.x _ rfl).1.frozen 2
                  simp only [List.getElem?_cons_zero, List.getElem?_cons_succ] at X0 X1 X2
                  obtain ⟨WF, eF, HF⟩ := M_0367x.out.fin (nv := (.slice B N.length cb)) (b := bb)
                  refine hK.out _ _ ?_ (fun hHeld => ?_)
                  · (try dsimp only)
                    exact KS.out _ M_0367x.out.b
                  clear hK K
                  (try simp only [Act.put, List.setIfInBounds_toArray, List.set_cons_zero, List.set_cons_succ])
                  refine wpAnyH_ready (rs := [14]) (by kernel_rfl) (by simp) ?_
                  refine AllReadyH.cons (o := { dst := none, op := Op.store 28 (Operand.tmp 9) (Operand.tmp 41), type := 0, pos := "law.go:125", after := #[{ on := 13, ground := Ground.data }, { on := 12, ground := Ground.data }, { on := 7, ground := Ground.chain }, { on := 0, ground := Ground.phase }, { on := 1, ground := Ground.phase }, { on := 2, ground := Ground.phase }, { on := 3, ground := Ground.phase }, { on := 4, ground := Ground.phase }, { on := 5, ground := Ground.phase }, { on := 6, ground := Ground.phase }, { on := 7, ground := Ground.phase }, { on := 8, ground := Ground.phase }, { on := 9, ground := Ground.phase }, { on := 10, ground := Ground.phase }, { on := 11, ground := Ground.phase }, { on := 12, ground := Ground.phase }, { on := 13, ground := Ground.phase }], guard := none }) rfl (fun K hK => ?_) ?_
                  · go_simp
                    refine hK.out _ _ ?_ (fun hHeld => ?_)
                    · (try dsimp only)
                      exact KS.out _ HF.out.2.2.1
                    clear hK K
                    (try simp only [Act.put, List.setIfInBounds_toArray, List.set_cons_zero, List.set_cons_succ])
                    refine wpAnyH_done (by kernel_rfl) ?_ _
                    refine NoPanic.normal ?_
                    clear hHeld
                    go_wp2_with fail
                    go_meet
                    exact ⟨_, _, _, _, rfl, HF.out⟩
                  exact AllReadyH.nil
                exact AllReadyH.nil
              refine AllReadyH.cons (o := { dst := some 9, op := Op.alloc 28, type := 0, pos := "law.go:125", after := #[], guard := none }) rfl (fun K hK => ?_) ?_
              · go_simp
                refine hK.out _ _ ?_ (fun hHeld => ?_)
                · (try dsimp only)
                  exact KS.out _ M_036x.out.b
                clear hK K
                (try simp only [Act.put, List.setIfInBounds_toArray, List.set_cons_zero, List.set_cons_succ])
                refine wpAnyH_ready (rs := [7]) (by kernel_rfl) (by simp) ?_
                refine AllReadyH.cons (o := { dst := some 36, op := Op.call { callee := Callee.builtin Builtin.append, args := #[Operand.tmp 32, Operand.tmp 35], argTypes := #[25, 25] }, type := 25, pos := "law.go:125", after := #[{ on := 3, ground := Ground.data }, { on := 6, ground := Ground.data }, { on := 3, ground := Ground.chain }], guard := none }) rfl (fun K hK => ?_) ?_
                · refine app_dcO (.tmp 32) (.tmp 35) rfl (M_036x.out.e _ _ rfl) rfl ([110, 111, 110, 101, 57, 57, 57, 57, 120], sz) W_03.heap.size rfl (M_036x.out.q _ rfl).1 (by omega) M_036x.out.b.size ?_
                  intro v7 W_036x7 O7 g7 n7 one7
                  obtain ⟨A7, l7, k7, rfl⟩ : ∃ A n c, v7 = .slice A n c := by obtain ⟨A, c, e⟩ := own_form O7; exact ⟨A, _, c, e⟩
                  have M_036x7 : Hid (Mo w3 W_036x7 (some (.slice A7 l7 k7, D ++ [([110, 111, 110, 101, 57, 57, 57, 57, 120], sz)])) (some W_03.heap.size) (some W_036.heap.size) ([110, 111, 110, 101, 57, 57, 57, 57, 120], sz)) := Lib.hid (M_036x.out.ap O7 g7 n7)
                  clear O7 g7 n7 one7
                  have X0 := (M_036x7.out.x _ rfl).1.cell 0
                  have X1 := (M_036x7.out.x _ rfl).1.cell 1
                  have X2 := (M_036x7.out.x _ rfl).1.cell 2
                  have Y0 := (M_036x7.out.x _ rfl).1.frozen 0
                  have Y1 := (M_036x7.out.x _ rfl).1.frozen 1
                  have Y2 := (M_036x7.out.x _ rfl).1.frozen 2
                  simp only [List.getElem?_cons_zero, List.getElem?_cons_succ] at X0 X1 X2
                  obtain ⟨WF, eF, HF⟩ := M_036x7.out.fin (nv := (.slice B N.length cb)) (b := bb)
                  refine hK.out _ _ ?_ (fun hHeld => ?_)
                  · (try dsimp only)
                    exact KS.out _ M_036x7.out.b
                  clear hK K
                  (try simp only [Act.put, List.setIfInBounds_toArray, List.set_cons_zero, List.set_cons_succ])
                  refine wpAnyH_take (i := 12) (oi := { dst := some 41, op := Op.build 28 #[(0, Operand.tmp 36), (1, Operand.tmp 38), (2, Operand.tmp 40)], type := 28, pos := "law.go:125", after := #[{ on := 7, ground := Ground.data }, { on := 9, ground := Ground.data }, { on := 11, ground := Ground.data }], guard := none }) (v := ?_) rfl (by kernel_rfl) (by kernel_rfl) (by kernel_rfl) (fun _ _ _ h => h) (Or.inl ⟨by rfl, ?_⟩) (by assumption) ?_
                  rotate_left
                  · intro w hSw; (try dsimp only at hSw); go_simp <;> (with_reducible rfl)
                  (try simp only [Act.put, List.setIfInBounds_toArray, List.set_cons_zero, List.set_cons_succ])
                  refine wpAnyH_ready (rs := [14]) (by kernel_rfl) (by simp) ?_
                  refine AllReadyH.cons (o := { dst := none, op := Op.store 28 (Operand.tmp 9) (Operand.tmp 41), type := 0, pos := "law.go:125", after := #[{ on := 13, ground := Ground.data }, { on := 12, ground := Ground.data }, { on := 7, ground := Ground.chain }, { on := 0, ground := Ground.phase }, { on := 1, ground := Ground.phase }, { on := 2, ground := Ground.phase }, { on := 3, ground := Ground.phase }, { on := 4, ground := Ground.phase }, { on := 5, ground := Ground.phase }, { on := 6, ground := Ground.phase }, { on := 7, ground := Ground.phase }, { on := 8, ground := Ground.phase }, { on := 9, ground := Ground.phase }, { on := 10, ground := Ground.phase }, { on := 11, ground := Ground.phase }, { on := 12, ground := Ground.phase }, { on := 13, ground := Ground.phase }], guard := none }) rfl (fun K hK => ?_) ?_
                  · go_simp
                    refine hK.out _ _ ?_ (fun hHeld => ?_)
                    · (try dsimp only)
                      exact KS.out _ HF.out.2.2.1
                    clear hK K
                    (try simp only [Act.put, List.setIfInBounds_toArray, List.set_cons_zero, List.set_cons_succ])
                    refine wpAnyH_done (by kernel_rfl) ?_ _
                    refine NoPanic.normal ?_
                    clear hHeld
                    go_wp2_with fail
                    go_meet
                    exact ⟨_, _, _, _, rfl, HF.out⟩
                  exact AllReadyH.nil
                exact AllReadyH.nil
              exact AllReadyH.nil
            refine AllReadyH.cons (o := { dst := some 9, op := Op.alloc 28, type := 0, pos := "law.go:125", after := #[], guard := none }) rfl (fun K hK => ?_) ?_
            · go_simp
              obtain ⟨W_03x6, e_03x6, M_03x6⟩ : ∃ W', W_03x.alloc (.cells #[.string ⟨#[110, 111, 110, 101, 57, 57, 57, 57, 120]⟩, .int .i64 sz] 31) = W' ∧ Hid (Mo w3 W' (some (.slice A3 l3 k3, D)) (some W_03x.heap.size) (some W_03.heap.size) ([110, 111, 110, 101, 57, 57, 57, 57, 120], sz)) := M_03x.out.q0
              refine hK.out _ _ ?_ (fun hHeld => ?_)
              · (try dsimp only)
                exact KS.out _ M_03x.out.b
              clear hK K
              (try simp only [Act.put, List.setIfInBounds_toArray, List.set_cons_zero, List.set_cons_succ])
              refine wpAnyH_ready (rs := [6]) (by kernel_rfl) (by simp) ?_
              refine AllReadyH.cons (o := { dst := some 35, op := Op.buildSlice 25 1 #[(0, Operand.tmp 34)], type := 25, pos := "law.go:125", after := #[{ on := 5, ground := Ground.data }], guard := none }) rfl (fun K hK => ?_) ?_
              · go_simp
                refine hK.out _ _ ?_ (fun hHeld => ?_)
                · (try dsimp only)
                  exact KS.out _ M_03x6.out.b
                clear hK K
                (try simp only [Act.put, List.setIfInBounds_toArray, List.set_cons_zero, List.set_cons_succ])
                refine wpAnyH_ready (rs := [7]) (by kernel_rfl) (by simp) ?_
                refine AllReadyH.cons (o := { dst := some 36, op := Op.call { callee := Callee.builtin Builtin.append, args := #[Operand.tmp 32, Operand.tmp 35], argTypes := #[25, 25] }, type := 25, pos := "law.go:125", after := #[{ on := 3, ground := Ground.data }, { on := 6, ground := Ground.data }, { on := 3, ground := Ground.chain }], guard := none }) rfl (fun K hK => ?_) ?_
                · refine app_dcO (.tmp 32) (.tmp 35) rfl (M_03x6.out.e _ _ rfl) rfl ([110, 111, 110, 101, 57, 57, 57, 57, 120], sz) W_03x.heap.size rfl (M_03x6.out.q _ rfl).1 (by omega) M_03x6.out.b.size ?_
                  intro v7 W_03x67 O7 g7 n7 one7
                  obtain ⟨A7, l7, k7, rfl⟩ : ∃ A n c, v7 = .slice A n c := by obtain ⟨A, c, e⟩ := own_form O7; exact ⟨A, _, c, e⟩
                  have M_03x67 : Hid (Mo w3 W_03x67 (some (.slice A7 l7 k7, D ++ [([110, 111, 110, 101, 57, 57, 57, 57, 120], sz)])) (some W_03x.heap.size) (some W_03.heap.size) ([110, 111, 110, 101, 57, 57, 57, 57, 120], sz)) := Lib.hid (M_03x6.out.ap O7 g7 n7)
                  clear O7 g7 n7 one7
                  have X0 := (M_03x67.out.x _ rfl).1.cell 0
                  have X1 := (M_03x67.out.x _ rfl).1.cell 1
                  have X2 := (M_03x67.out.x _ rfl).1.cell 2
                  have Y0 := (M_03x67.out.x _ rfl).1.frozen 0
                  have Y1 := (M_03x67.out.x _ rfl).1.frozen 1
                  have Y2 := (M_03x67.out.x _ rfl).1.frozen 2
                  simp only [List.getElem?_cons_zero, List.getElem?_cons_succ] at X0 X1 X2
                  obtain ⟨WF, eF, HF⟩ := M_03x67.out.fin (nv := (.slice B N.length cb)) (b := bb)
                  refine hK.out _ _ ?_ (fun hHeld => ?_)
                  · (try dsimp only)
                    exact KS.out _ M_03x67.out.b
                  clear hK K
                  (try simp only [Act.put, List.setIfInBounds_toArray, List.set_cons_zero, List.set_cons_succ])
                  refine wpAnyH_take (i := 12) (oi := { dst := some 41, op := Op.build 28 #[(0, Operand.tmp 36), (1, Operand.tmp 38), (2, Operand.tmp 40)], type := 28, pos := "law.go:125", after := #[{ on := 7, ground := Ground.data }, { on := 9, ground := Ground.data }, { on := 11, ground := Ground.data }], guard := none }) (v := ?_) rfl (by kernel_rfl) (by kernel_rfl) (by kernel_rfl) (fun _ _ _ h => h) (Or.inl ⟨by rfl, ?_⟩) (by assumption) ?_
                  rotate_left
                  · intro w hSw; (try dsimp only at hSw); go_simp <;> (with_reducible rfl)
                  (try simp only [Act.put, List.setIfInBounds_toArray, List.set_cons_zero, List.set_cons_succ])
                  refine wpAnyH_ready (rs := [14]) (by kernel_rfl) (by simp) ?_
                  refine AllReadyH.cons (o := { dst := none, op := Op.store 28 (Operand.tmp 9) (Operand.tmp 41), type := 0, pos := "law.go:125", after := #[{ on := 13, ground := Ground.data }, { on := 12, ground := Ground.data }, { on := 7, ground := Ground.chain }, { on := 0, ground := Ground.phase }, { on := 1, ground := Ground.phase }, { on := 2, ground := Ground.phase }, { on := 3, ground := Ground.phase }, { on := 4, ground := Ground.phase }, { on := 5, ground := Ground.phase }, { on := 6, ground := Ground.phase }, { on := 7, ground := Ground.phase }, { on := 8, ground := Ground.phase }, { on := 9, ground := Ground.phase }, { on := 10, ground := Ground.phase }, { on := 11, ground := Ground.phase }, { on := 12, ground := Ground.phase }, { on := 13, ground := Ground.phase }], guard := none }) rfl (fun K hK => ?_) ?_
                  · go_simp
                    refine hK.out _ _ ?_ (fun hHeld => ?_)
                    · (try dsimp only)
                      exact KS.out _ HF.out.2.2.1
                    clear hK K
                    (try simp only [Act.put, List.setIfInBounds_toArray, List.set_cons_zero, List.set_cons_succ])
                    refine wpAnyH_done (by kernel_rfl) ?_ _
                    refine NoPanic.normal ?_
                    clear hHeld
                    go_wp2_with fail
                    go_meet
                    exact ⟨_, _, _, _, rfl, HF.out⟩
                  exact AllReadyH.nil
                exact AllReadyH.nil
              exact AllReadyH.nil
            exact AllReadyH.nil
          refine AllReadyH.cons (o := { dst := some 35, op := Op.buildSlice 25 1 #[(0, Operand.tmp 34)], type := 25, pos := "law.go:125", after := #[{ on := 5, ground := Ground.data }], guard := none }) rfl (fun K hK => ?_) ?_
          · go_simp
            obtain ⟨W_06x, e_06x, M_06x⟩ : ∃ W', W_06.alloc (.cells #[.slice none 0 0, .slice none 0 0, .int .i64 0] 28) = W' ∧ Hid (Mo w3 W' (some (.slice (some ⟨w3.heap.size, 0, none⟩) 0 0, [])) (some W_0.heap.size) (some W_06.heap.size) ([110, 111, 110, 101, 57, 57, 57, 57, 120], sz)) := M_06.out.x0
            refine hK.out _ _ ?_ (fun hHeld => ?_)
            · (try dsimp only)
              exact KS.out _ M_06.out.b
            clear hK K
            (try simp only [Act.put, List.setIfInBounds_toArray, List.set_cons_zero, List.set_cons_succ])
            refine wpAnyH_ready (rs := [3, 13]) (by kernel_rfl) (by simp) ?_
            refine AllReadyH.cons (o := { dst := some 32, op := Op.call { callee := Callee.builtin Builtin.append, args := #[Operand.tmp 29, Operand.tmp 31], argTypes := #[25, 25] }, type := 25, pos := "law.go:125", after := #[{ on := 0, ground := Ground.data }, { on := 2, ground := Ground.data }], guard := none }) rfl (fun K hK => ?_) ?_
            · refine app_allO (.tmp 29) (.tmp 31) rfl (M_06.out.e _ _ rfl) rfl (own_belowP T3D.out M_06.out.b) rfl (by omega) M_06.out.b.size ?_
              intro v3 W_063 O3 g3 n3
              obtain ⟨A3, l3, k3, rfl⟩ : ∃ A n c, v3 = .slice A n c := by obtain ⟨A, c, e⟩ := own_form O3; exact ⟨A, _, c, e⟩
              have M_063 : Hid (Mo w3 W_063 (some (.slice A3 l3 k3, D)) (some W_0.heap.size) none ([110, 111, 110, 101, 57, 57, 57, 57, 120], sz)) := Lib.hid (M_06.out.ap O3 g3 n3)
              clear O3 g3 n3
              obtain ⟨W_063x, e_063x, M_063x⟩ : ∃ W', W_063.alloc (.cells #[.slice none 0 0, .slice none 0 0, .int .i64 0] 28) = W' ∧ Hid (Mo w3 W' (some (.slice A3 l3 k3, D)) (some W_0.heap.size) (some W_063.heap.size) ([110, 111, 110, 101, 57, 57, 57, 57, 120], sz)) := M_063.out.x0
              refine hK.out _ _ ?_ (fun hHeld => ?_)
              · (try dsimp only)
                exact KS.out _ M_063.out.b
              clear hK K
              (try simp only [Act.put, List.setIfInBounds_toArray, List.set_cons_zero, List.set_cons_succ])
              refine wpAnyH_ready (rs := [7, 13]) (by kernel_rfl) (by simp) ?_
              refine AllReadyH.cons (o := { dst := some 36, op := Op.call { callee := Callee.builtin Builtin.append, args := #[Operand.tmp 32, Operand.tmp 35], argTypes := #[25, 25] }, type := 25, pos := "law.go:125", after := #[{ on := 3, ground := Ground.data }, { on := 6, ground := Ground.data }, { on := 3, ground := Ground.chain }], guard := none }) rfl (fun K hK => ?_) ?_
              · refine app_dcO (.tmp 32) (.tmp 35) rfl (M_063.out.e _ _ rfl) rfl ([110, 111, 110, 101, 57, 57, 57, 57, 120], sz) W_0.heap.size rfl (M_063.out.q _ rfl).1 (by omega) M_063.out.b.size ?_
                intro v7 W_0637 O7 g7 n7 one7
                obtain ⟨A7, l7, k7, rfl⟩ : ∃ A n c, v7 = .slice A n c := by obtain ⟨A, c, e⟩ := own_form O7; exact ⟨A, _, c, e⟩
                have M_0637 : Hid (Mo w3 W_0637 (some (.slice A7 l7 k7, D ++ [([110, 111, 110, 101, 57, 57, 57, 57, 120], sz)])) (some W_0.heap.size) none ([110, 111, 110, 101, 57, 57, 57, 57, 120], sz)) := Lib.hid (M_063.out.ap O7 g7 n7)
                clear O7 g7 n7 one7
                obtain ⟨W_0637x, e_0637x, M_0637x⟩ : ∃ W', W_0637.alloc (.cells #[.slice none 0 0, .slice none 0 0, .int .i64 0] 28) = W' ∧ Hid (Mo w3 W' (some (.slice A7 l7 k7, D ++ [([110, 111, 110, 101, 57, 57, 57, 57, 120], sz)])) (some W_0.heap.size) (some W_0637.heap.size) ([110, 111, 110, 101, 57, 57, 57, 57, 120], sz)) := M_0637.out.x0
                refine hK.out _ _ ?_ (fun hHeld => ?_)
                · (try dsimp only)
                  exact KS.out _ M_0637.out.b
                clear hK K
                (try simp only [Act.put, List.setIfInBounds_toArray, List.set_cons_zero, List.set_cons_succ])
                refine wpAnyH_take (i := 12) (oi := { dst := some 41, op := Op.build 28 #[(0, Operand.tmp 36), (1, Operand.tmp 38), (2, Operand.tmp 40)], type := 28, pos := "law.go:125", after := #[{ on := 7, ground := Ground.data }, { on := 9, ground := Ground.data }, { on := 11, ground := Ground.data }], guard := none }) (v := ?_) rfl (by kernel_rfl) (by kernel_rfl) (by kernel_rfl) (fun _ _ _ h => h) (Or.inl ⟨by rfl, ?_⟩) (by assumption) ?_
                rotate_left
                · intro w hSw; (try dsimp only at hSw); go_simp <;> (with_reducible rfl)
                (try simp only [Act.put, List.setIfInBounds_toArray, List.set_cons_zero, List.set_cons_succ])
                refine wpAnyH_ready (rs := [13]) (by kernel_rfl) (by simp) ?_
                refine AllReadyH.cons (o := { dst := some 9, op := Op.alloc 28, type := 0, pos := "law.go:125", after := #[], guard := none }) rfl (fun K hK => ?_) ?_
                · go_simp
                  have X0 := (M_0637x.out.x _ rfl).1.cell 0
                  have X1 := (M_0637x.out.x _ rfl).1.cell 1
                  have X2 := (M_0637x.out.x _ rfl).1.cell 2
                  have Y0 := (M_0637x.out.x _ rfl).1.frozen 0
                  have Y1 := (M_0637x.out.x _ rfl).1.frozen 1
                  have Y2 := (M_0637x.out.x _ rfl).1.frozen 2
                  simp only [List.getElem?_cons_zero, List.getElem?_cons_succ] at X0 X1 X2
                  obtain ⟨WF, eF, HF⟩ := M_0637x.out.fin (nv := (.slice B N.length cb)) (b := bb)
                  refine hK.out _ _ ?_ (fun hHeld => ?_)
                  · (try dsimp only)
                    exact KS.out _ M_0637x.out.b
                  clear hK K
                  (try simp only [Act.put, List.setIfInBounds_toArray, List.set_cons_zero, List.set_cons_succ])
                  refine wpAnyH_ready (rs := [14]) (by kernel_rfl) (by simp) ?_
                  refine AllReadyH.cons (o := { dst := none, op := Op.store 28 (Operand.tmp 9) (Operand.tmp 41), type := 0, pos := "law.go:125", after := #[{ on := 13, ground := Ground.data }, { on := 12, ground := Ground.data }, { on := 7, ground := Ground.chain }, { on := 0, ground := Ground.phase }, { on := 1, ground := Ground.phase }, { on := 2, ground := Ground.phase }, { on := 3, ground := Ground.phase }, { on := 4, ground := Ground.phase }, { on := 5, ground := Ground.phase }, { on := 6, ground := Ground.phase }, { on := 7, ground := Ground.phase }, { on := 8, ground := Ground.phase }, { on := 9, ground := Ground.phase }, { on := 10, ground := Ground.phase }, { on := 11, ground := Ground.phase }, { on := 12, ground := Ground.phase }, { on := 13, ground := Ground.phase }], guard := none }) rfl (fun K hK => ?_) ?_
                  · go_simp
                    refine hK.out _ _ ?_ (fun hHeld => ?_)
                    · (try dsimp only)
                      exact KS.out _ HF.out.2.2.1
                    clear hK K
                    (try simp only [Act.put, List.setIfInBounds_toArray, List.set_cons_zero, List.set_cons_succ])
                    refine wpAnyH_done (by kernel_rfl) ?_ _
                    refine NoPanic.normal ?_
                    clear hHeld
                    go_wp2_with fail
                    go_meet
                    exact ⟨_, _, _, _, rfl, HF.out⟩
                  exact AllReadyH.nil
                exact AllReadyH.nil
              refine AllReadyH.cons (o := { dst := some 9, op := Op.alloc 28, type := 0, pos := "law.go:125", after := #[], guard := none }) rfl (fun K hK => ?_) ?_
              · go_simp
                refine hK.out _ _ ?_ (fun hHeld => ?_)
                · (try dsimp only)
                  exact KS.out _ M_063x.out.b
                clear hK K
                (try simp only [Act.put, List.setIfInBounds_toArray, List.set_cons_zero, List.set_cons_succ])
                refine wpAnyH_ready (rs := [7]) (by kernel_rfl) (by simp) ?_
                refine AllReadyH.cons (o := { dst := some 36, op := Op.call { callee := Callee.builtin Builtin.append, args := #[Operand.tmp 32, Operand.tmp 35], argTypes := #[25, 25] }, type := 25, pos := "law.go:125", after := #[{ on := 3, ground := Ground.data }, { on := 6, ground := Ground.data }, { on := 3, ground := Ground.chain }], guard := none }) rfl (fun K hK => ?_) ?_
                · refine app_dcO (.tmp 32) (.tmp 35) rfl (M_063x.out.e _ _ rfl) rfl ([110, 111, 110, 101, 57, 57, 57, 57, 120], sz) W_0.heap.size rfl (M_063x.out.q _ rfl).1 (by omega) M_063x.out.b.size ?_
                  intro v7 W_063x7 O7 g7 n7 one7
                  obtain ⟨A7, l7, k7, rfl⟩ : ∃ A n c, v7 = .slice A n c := by obtain ⟨A, c, e⟩ := own_form O7; exact ⟨A, _, c, e⟩
                  have M_063x7 : Hid (Mo w3 W_063x7 (some (.slice A7 l7 k7, D ++ [([110, 111, 110, 101, 57, 57, 57, 57, 120], sz)])) (some W_0.heap.size) (some W_063.heap.size) ([110, 111, 110, 101, 57, 57, 57, 57, 120], sz)) := Lib.hid (M_063x.out.ap O7 g7 n7)
                  clear O7 g7 n7 one7
                  have X0 := (M_063x7.out.x _ rfl).1.cell 0
                  have X1 := (M_063x7.out.x _ rfl).1.cell 1
                  have X2 := (M_063x7.out.x _ rfl).1.cell 2
                  have Y0 := (M_063x7.out.x _ rfl).1.frozen 0
                  have Y1 := (M_063x7.out.x _ rfl).1.frozen 1
                  have Y2 := (M_063x7.out.x _ rfl).1.frozen 2
                  simp only [List.getElem?_cons_zero, List.getElem?_cons_succ] at X0 X1 X2
                  obtain ⟨WF, eF, HF⟩ := M_063x7.out.fin (nv := (.slice B N.length cb)) (b := bb)
                  refine hK.out _ _ ?_ (fun hHeld => ?_)
                  · (try dsimp only)
                    exact KS.out _ M_063x7.out.b
                  clear hK K
                  (try simp only [Act.put, List.setIfInBounds_toArray, List.set_cons_zero, List.set_cons_succ])
                  refine wpAnyH_take (i := 12) (oi := { dst := some 41, op := Op.build 28 #[(0, Operand.tmp 36), (1, Operand.tmp 38), (2, Operand.tmp 40)], type := 28, pos := "law.go:125", after := #[{ on := 7, ground := Ground.data }, { on := 9, ground := Ground.data }, { on := 11, ground := Ground.data }], guard := none }) (v := ?_) rfl (by kernel_rfl) (by kernel_rfl) (by kernel_rfl) (fun _ _ _ h => h) (Or.inl ⟨by rfl, ?_⟩) (by assumption) ?_
                  rotate_left
                  · intro w hSw; (try dsimp only at hSw); go_simp <;> (with_reducible rfl)
                  (try simp only [Act.put, List.setIfInBounds_toArray, List.set_cons_zero, List.set_cons_succ])
                  refine wpAnyH_ready (rs := [14]) (by kernel_rfl) (by simp) ?_
                  refine AllReadyH.cons (o := { dst := none, op := Op.store 28 (Operand.tmp 9) (Operand.tmp 41), type := 0, pos := "law.go:125", after := #[{ on := 13, ground := Ground.data }, { on := 12, ground := Ground.data }, { on := 7, ground := Ground.chain }, { on := 0, ground := Ground.phase }, { on := 1, ground := Ground.phase }, { on := 2, ground := Ground.phase }, { on := 3, ground := Ground.phase }, { on := 4, ground := Ground.phase }, { on := 5, ground := Ground.phase }, { on := 6, ground := Ground.phase }, { on := 7, ground := Ground.phase }, { on := 8, ground := Ground.phase }, { on := 9, ground := Ground.phase }, { on := 10, ground := Ground.phase }, { on := 11, ground := Ground.phase }, { on := 12, ground := Ground.phase }, { on := 13, ground := Ground.phase }], guard := none }) rfl (fun K hK => ?_) ?_
                  · go_simp
                    refine hK.out _ _ ?_ (fun hHeld => ?_)
                    · (try dsimp only)
                      exact KS.out _ HF.out.2.2.1
                    clear hK K
                    (try simp only [Act.put, List.setIfInBounds_toArray, List.set_cons_zero, List.set_cons_succ])
                    refine wpAnyH_done (by kernel_rfl) ?_ _
                    refine NoPanic.normal ?_
                    clear hHeld
                    go_wp2_with fail
                    go_meet
                    exact ⟨_, _, _, _, rfl, HF.out⟩
                  exact AllReadyH.nil
                exact AllReadyH.nil
              exact AllReadyH.nil
            refine AllReadyH.cons (o := { dst := some 9, op := Op.alloc 28, type := 0, pos := "law.go:125", after := #[], guard := none }) rfl (fun K hK => ?_) ?_
            · go_simp
              refine hK.out _ _ ?_ (fun hHeld => ?_)
              · (try dsimp only)
                exact KS.out _ M_06x.out.b
              clear hK K
              (try simp only [Act.put, List.setIfInBounds_toArray, List.set_cons_zero, List.set_cons_succ])
              refine wpAnyH_ready (rs := [3]) (by kernel_rfl) (by simp) ?_
              refine AllReadyH.cons (o := { dst := some 32, op := Op.call { callee := Callee.builtin Builtin.append, args := #[Operand.tmp 29, Operand.tmp 31], argTypes := #[25, 25] }, type := 25, pos := "law.go:125", after := #[{ on := 0, ground := Ground.data }, { on := 2, ground := Ground.data }], guard := none }) rfl (fun K hK => ?_) ?_
              · refine app_allO (.tmp 29) (.tmp 31) rfl (M_06x.out.e _ _ rfl) rfl (own_belowP T3D.out M_06x.out.b) rfl (by omega) M_06x.out.b.size ?_
                intro v3 W_06x3 O3 g3 n3
                obtain ⟨A3, l3, k3, rfl⟩ : ∃ A n c, v3 = .slice A n c := by obtain ⟨A, c, e⟩ := own_form O3; exact ⟨A, _, c, e⟩
                have M_06x3 : Hid (Mo w3 W_06x3 (some (.slice A3 l3 k3, D)) (some W_0.heap.size) (some W_06.heap.size) ([110, 111, 110, 101, 57, 57, 57, 57, 120], sz)) := Lib.hid (M_06x.out.ap O3 g3 n3)
                clear O3 g3 n3
                refine hK.out _ _ ?_ (fun hHeld => ?_)
                · (try dsimp only)
                  exact KS.out _ M_06x3.out.b
                clear hK K
                (try simp only [Act.put, List.setIfInBounds_toArray, List.set_cons_zero, List.set_cons_succ])
                refine wpAnyH_ready (rs := [7]) (by kernel_rfl) (by simp) ?_
                refine AllReadyH.cons (o := { dst := some 36, op := Op.call { callee := Callee.builtin Builtin.append, args := #[Operand.tmp 32, Operand.tmp 35], argTypes := #[25, 25] }, type := 25, pos := "law.go:125", after := #[{ on := 3, ground := Ground.data }, { on := 6, ground := Ground.data }, { on := 3, ground := Ground.chain }], guard := none }) rfl (fun K hK => ?_) ?_
                · refine app_dcO (.tmp 32) (.tmp 35) rfl (M_06x3.out.e _ _ rfl) rfl ([110, 111, 110, 101, 57, 57, 57, 57, 120], sz) W_0.heap.size rfl (M_06x3.out.q _ rfl).1 (by omega) M_06x3.out.b.size ?_
                  intro v7 W_06x37 O7 g7 n7 one7
                  obtain ⟨A7, l7, k7, rfl⟩ : ∃ A n c, v7 = .slice A n c := by obtain ⟨A, c, e⟩ := own_form O7; exact ⟨A, _, c, e⟩
                  have M_06x37 : Hid (Mo w3 W_06x37 (some (.slice A7 l7 k7, D ++ [([110, 111, 110, 101, 57, 57, 57, 57, 120], sz)])) (some W_0.heap.size) (some W_06.heap.size) ([110, 111, 110, 101, 57, 57, 57, 57, 120], sz)) := Lib.hid (M_06x3.out.ap O7 g7 n7)
                  clear O7 g7 n7 one7
                  have X0 := (M_06x37.out.x _ rfl).1.cell 0
                  have X1 := (M_06x37.out.x _ rfl).1.cell 1
                  have X2 := (M_06x37.out.x _ rfl).1.cell 2
                  have Y0 := (M_06x37.out.x _ rfl).1.frozen 0
                  have Y1 := (M_06x37.out.x _ rfl).1.frozen 1
                  have Y2 := (M_06x37.out.x _ rfl).1.frozen 2
                  simp only [List.getElem?_cons_zero, List.getElem?_cons_succ] at X0 X1 X2
                  obtain ⟨WF, eF, HF⟩ := M_06x37.out.fin (nv := (.slice B N.length cb)) (b := bb)
                  refine hK.out _ _ ?_ (fun hHeld => ?_)
                  · (try dsimp only)
                    exact KS.out _ M_06x37.out.b
                  clear hK K
                  (try simp only [Act.put, List.setIfInBounds_toArray, List.set_cons_zero, List.set_cons_succ])
                  refine wpAnyH_take (i := 12) (oi := { dst := some 41, op := Op.build 28 #[(0, Operand.tmp 36), (1, Operand.tmp 38), (2, Operand.tmp 40)], type := 28, pos := "law.go:125", after := #[{ on := 7, ground := Ground.data }, { on := 9, ground := Ground.data }, { on := 11, ground := Ground.data }], guard := none }) (v := ?_) rfl (by kernel_rfl) (by kernel_rfl) (by kernel_rfl) (fun _ _ _ h => h) (Or.inl ⟨by rfl, ?_⟩) (by assumption) ?_
                  rotate_left
                  · intro w hSw; (try dsimp only at hSw); go_simp <;> (with_reducible rfl)
                  (try simp only [Act.put, List.setIfInBounds_toArray, List.set_cons_zero, List.set_cons_succ])
                  refine wpAnyH_ready (rs := [14]) (by kernel_rfl) (by simp) ?_
                  refine AllReadyH.cons (o := { dst := none, op := Op.store 28 (Operand.tmp 9) (Operand.tmp 41), type := 0, pos := "law.go:125", after := #[{ on := 13, ground := Ground.data }, { on := 12, ground := Ground.data }, { on := 7, ground := Ground.chain }, { on := 0, ground := Ground.phase }, { on := 1, ground := Ground.phase }, { on := 2, ground := Ground.phase }, { on := 3, ground := Ground.phase }, { on := 4, ground := Ground.phase }, { on := 5, ground := Ground.phase }, { on := 6, ground := Ground.phase }, { on := 7, ground := Ground.phase }, { on := 8, ground := Ground.phase }, { on := 9, ground := Ground.phase }, { on := 10, ground := Ground.phase }, { on := 11, ground := Ground.phase }, { on := 12, ground := Ground.phase }, { on := 13, ground := Ground.phase }], guard := none }) rfl (fun K hK => ?_) ?_
                  · go_simp
                    refine hK.out _ _ ?_ (fun hHeld => ?_)
                    · (try dsimp only)
                      exact KS.out _ HF.out.2.2.1
                    clear hK K
                    (try simp only [Act.put, List.setIfInBounds_toArray, List.set_cons_zero, List.set_cons_succ])
                    refine wpAnyH_done (by kernel_rfl) ?_ _
                    refine NoPanic.normal ?_
                    clear hHeld
                    go_wp2_with fail
                    go_meet
                    exact ⟨_, _, _, _, rfl, HF.out⟩
                  exact AllReadyH.nil
                exact AllReadyH.nil
              exact AllReadyH.nil
            exact AllReadyH.nil
          refine AllReadyH.cons (o := { dst := some 9, op := Op.alloc 28, type := 0, pos := "law.go:125", after := #[], guard := none }) rfl (fun K hK => ?_) ?_
          · go_simp
            obtain ⟨W_0x6, e_0x6, M_0x6⟩ : ∃ W', W_0x.alloc (.cells #[.string ⟨#[110, 111, 110, 101, 57, 57, 57, 57, 120]⟩, .int .i64 sz] 31) = W' ∧ Hid (Mo w3 W' (some (.slice (some ⟨w3.heap.size, 0, none⟩) 0 0, [])) (some W_0x.heap.size) (some W_0.heap.size) ([110, 111, 110, 101, 57, 57, 57, 57, 120], sz)) := M_0x.out.q0
            refine hK.out _ _ ?_ (fun hHeld => ?_)
            · (try dsimp only)
              exact KS.out _ M_0x.out.b
            clear hK K
            (try simp only [Act.put, List.setIfInBounds_toArray, List.set_cons_zero, List.set_cons_succ])
            refine wpAnyH_ready (rs := [3, 6]) (by kernel_rfl) (by simp) ?_
            refine AllReadyH.cons (o := { dst := some 32, op := Op.call { callee := Callee.builtin Builtin.append, args := #[Operand.tmp 29, Operand.tmp 31], argTypes := #[25, 25] }, type := 25, pos := "law.go:125", after := #[{ on := 0, ground := Ground.data }, { on := 2, ground := Ground.data }], guard := none }) rfl (fun K hK => ?_) ?_
            · refine app_allO (.tmp 29) (.tmp 31) rfl (M_0x.out.e _ _ rfl) rfl (own_belowP T3D.out M_0x.out.b) rfl (by omega) M_0x.out.b.size ?_
              intro v3 W_0x3 O3 g3 n3
              obtain ⟨A3, l3, k3, rfl⟩ : ∃ A n c, v3 = .slice A n c := by obtain ⟨A, c, e⟩ := own_form O3; exact ⟨A, _, c, e⟩
              have M_0x3 : Hid (Mo w3 W_0x3 (some (.slice A3 l3 k3, D)) none (some W_0.heap.size) ([110, 111, 110, 101, 57, 57, 57, 57, 120], sz)) := Lib.hid (M_0x.out.ap O3 g3 n3)
              clear O3 g3 n3
              obtain ⟨W_0x36, e_0x36, M_0x36⟩ : ∃ W', W_0x3.alloc (.cells #[.string ⟨#[110, 111, 110, 101, 57, 57, 57, 57, 120]⟩, .int .i64 sz] 31) = W' ∧ Hid (Mo w3 W' (some (.slice A3 l3 k3, D)) (some W_0x3.heap.size) (some W_0.heap.size) ([110, 111, 110, 101, 57, 57, 57, 57, 120], sz)) := M_0x3.out.q0
              refine hK.out _ _ ?_ (fun hHeld => ?_)
              · (try dsimp only)
                exact KS.out _ M_0x3.out.b
              clear hK K
              (try simp only [Act.put, List.setIfInBounds_toArray, List.set_cons_zero, List.set_cons_succ])
              refine wpAnyH_ready (rs := [6]) (by kernel_rfl) (by simp) ?_
              refine AllReadyH.cons (o := { dst := some 35, op := Op.buildSlice 25 1 #[(0, Operand.tmp 34)], type := 25, pos := "law.go:125", after := #[{ on := 5, ground := Ground.data }], guard := none }) rfl (fun K hK => ?_) ?_
              · go_simp
                refine hK.out _ _ ?_ (fun hHeld => ?_)
                · (try dsimp only)
                  exact KS.out _ M_0x36.out.b
                clear hK K
                (try simp only [Act.put, List.setIfInBounds_toArray, List.set_cons_zero, List.set_cons_succ])
                refine wpAnyH_ready (rs := [7]) (by kernel_rfl) (by simp) ?_
                refine AllReadyH.cons (o := { dst := some 36, op := Op.call { callee := Callee.builtin Builtin.append, args := #[Operand.tmp 32, Operand.tmp 35], argTypes := #[25, 25] }, type := 25, pos := "law.go:125", after := #[{ on := 3, ground := Ground.data }, { on := 6, ground := Ground.data }, { on := 3, ground := Ground.chain }], guard := none }) rfl (fun K hK => ?_) ?_
                · refine app_dcO (.tmp 32) (.tmp 35) rfl (M_0x36.out.e _ _ rfl) rfl ([110, 111, 110, 101, 57, 57, 57, 57, 120], sz) W_0x3.heap.size rfl (M_0x36.out.q _ rfl).1 (by omega) M_0x36.out.b.size ?_
                  intro v7 W_0x367 O7 g7 n7 one7
                  obtain ⟨A7, l7, k7, rfl⟩ : ∃ A n c, v7 = .slice A n c := by obtain ⟨A, c, e⟩ := own_form O7; exact ⟨A, _, c, e⟩
                  have M_0x367 : Hid (Mo w3 W_0x367 (some (.slice A7 l7 k7, D ++ [([110, 111, 110, 101, 57, 57, 57, 57, 120], sz)])) (some W_0x3.heap.size) (some W_0.heap.size) ([110, 111, 110, 101, 57, 57, 57, 57, 120], sz)) := Lib.hid (M_0x36.out.ap O7 g7 n7)
                  clear O7 g7 n7 one7
                  have X0 := (M_0x367.out.x _ rfl).1.cell 0
                  have X1 := (M_0x367.out.x _ rfl).1.cell 1
                  have X2 := (M_0x367.out.x _ rfl).1.cell 2
                  have Y0 := (M_0x367.out.x _ rfl).1.frozen 0
                  have Y1 := (M_0x367.out.x _ rfl).1.frozen 1
                  have Y2 := (M_0x367.out.x _ rfl).1.frozen 2
                  simp only [List.getElem?_cons_zero, List.getElem?_cons_succ] at X0 X1 X2
                  obtain ⟨WF, eF, HF⟩ := M_0x367.out.fin (nv := (.slice B N.length cb)) (b := bb)
                  refine hK.out _ _ ?_ (fun hHeld => ?_)
                  · (try dsimp only)
                    exact KS.out _ M_0x367.out.b
                  clear hK K
                  (try simp only [Act.put, List.setIfInBounds_toArray, List.set_cons_zero, List.set_cons_succ])
                  refine wpAnyH_take (i := 12) (oi := { dst := some 41, op := Op.build 28 #[(0, Operand.tmp 36), (1, Operand.tmp 38), (2, Operand.tmp 40)], type := 28, pos := "law.go:125", after := #[{ on := 7, ground := Ground.data }, { on := 9, ground := Ground.data }, { on := 11, ground := Ground.data }], guard := none }) (v := ?_) rfl (by kernel_rfl) (by kernel_rfl) (by kernel_rfl) (fun _ _ _ h => h) (Or.inl ⟨by rfl, ?_⟩) (by assumption) ?_
                  rotate_left
                  · intro w hSw; (try dsimp only at hSw); go_simp <;> (with_reducible rfl)
                  (try simp only [Act.put, List.setIfInBounds_toArray, List.set_cons_zero, List.set_cons_succ])
                  refine wpAnyH_ready (rs := [14]) (by kernel_rfl) (by simp) ?_
                  refine AllReadyH.cons (o := { dst := none, op := Op.store 28 (Operand.tmp 9) (Operand.tmp 41), type := 0, pos := "law.go:125", after := #[{ on := 13, ground := Ground.data }, { on := 12, ground := Ground.data }, { on := 7, ground := Ground.chain }, { on := 0, ground := Ground.phase }, { on := 1, ground := Ground.phase }, { on := 2, ground := Ground.phase }, { on := 3, ground := Ground.phase }, { on := 4, ground := Ground.phase }, { on := 5, ground := Ground.phase }, { on := 6, ground := Ground.phase }, { on := 7, ground := Ground.phase }, { on := 8, ground := Ground.phase }, { on := 9, ground := Ground.phase }, { on := 10, ground := Ground.phase }, { on := 11, ground := Ground.phase }, { on := 12, ground := Ground.phase }, { on := 13, ground := Ground.phase }], guard := none }) rfl (fun K hK => ?_) ?_
                  · go_simp
                    refine hK.out _ _ ?_ (fun hHeld => ?_)
                    · (try dsimp only)
                      exact KS.out _ HF.out.2.2.1
                    clear hK K
                    (try simp only [Act.put, List.setIfInBounds_toArray, List.set_cons_zero, List.set_cons_succ])
                    refine wpAnyH_done (by kernel_rfl) ?_ _
                    refine NoPanic.normal ?_
                    clear hHeld
                    go_wp2_with fail
                    go_meet
                    exact ⟨_, _, _, _, rfl, HF.out⟩
                  exact AllReadyH.nil
                exact AllReadyH.nil
              exact AllReadyH.nil
            refine AllReadyH.cons (o := { dst := some 35, op := Op.buildSlice 25 1 #[(0, Operand.tmp 34)], type := 25, pos := "law.go:125", after := #[{ on := 5, ground := Ground.data }], guard := none }) rfl (fun K hK => ?_) ?_
            · go_simp
              refine hK.out _ _ ?_ (fun hHeld => ?_)
              · (try dsimp only)
                exact KS.out _ M_0x6.out.b
              clear hK K
              (try simp only [Act.put, List.setIfInBounds_toArray, List.set_cons_zero, List.set_cons_succ])
              refine wpAnyH_ready (rs := [3]) (by kernel_rfl) (by simp) ?_
              refine AllReadyH.cons (o := { dst := some 32, op := Op.call { callee := Callee.builtin Builtin.append, args := #[Operand.tmp 29, Operand.tmp 31], argTypes := #[25, 25] }, type := 25, pos := "law.go:125", after := #[{ on := 0, ground := Ground.data }, { on := 2, ground := Ground.data }], guard := none }) rfl (fun K hK => ?_) ?_
              · refine app_allO (.tmp 29) (.tmp 31) rfl (M_0x6.out.e _ _ rfl) rfl (own_belowP T3D.out M_0x6.out.b) rfl (by omega) M_0x6.out.b.size ?_
                intro v3 W_0x63 O3 g3 n3
                obtain ⟨A3, l3, k3, rfl⟩ : ∃ A n c, v3 = .slice A n c := by obtain ⟨A, c, e⟩ := own_form O3; exact ⟨A, _, c, e⟩
                have M_0x63 : Hid (Mo w3 W_0x63 (some (.slice A3 l3 k3, D)) (some W_0x.heap.size) (some W_0.heap.size) ([110, 111, 110, 101, 57, 57, 57, 57, 120], sz)) := Lib.hid (M_0x6.out.ap O3 g3 n3)
                clear O3 g3 n3
                refine hK.out _ _ ?_ (fun hHeld => ?_)
                · (try dsimp only)
                  exact KS.out _ M_0x63.out.b
                clear hK K
                (try simp only [Act.put, List.setIfInBounds_toArray, List.set_cons_zero, List.set_cons_succ])
                refine wpAnyH_ready (rs := [7]) (by kernel_rfl) (by simp) ?_
                refine AllReadyH.cons (o := { dst := some 36, op := Op.call { callee := Callee.builtin Builtin.append, args := #[Operand.tmp 32, Operand.tmp 35], argTypes := #[25, 25] }, type := 25, pos := "law.go:125", after := #[{ on := 3, ground := Ground.data }, { on := 6, ground := Ground.data }, { on := 3, ground := Ground.chain }], guard := none }) rfl (fun K hK => ?_) ?_
                · refine app_dcO (.tmp 32) (.tmp 35) rfl (M_0x63.out.e _ _ rfl) rfl ([110, 111, 110, 101, 57, 57, 57, 57, 120], sz) W_0x.heap.size rfl (M_0x63.out.q _ rfl).1 (by omega) M_0x63.out.b.size ?_
                  intro v7 W_0x637 O7 g7 n7 one7
                  obtain ⟨A7, l7, k7, rfl⟩ : ∃ A n c, v7 = .slice A n c := by obtain ⟨A, c, e⟩ := own_form O7; exact ⟨A, _, c, e⟩
                  have M_0x637 : Hid (Mo w3 W_0x637 (some (.slice A7 l7 k7, D ++ [([110, 111, 110, 101, 57, 57, 57, 57, 120], sz)])) (some W_0x.heap.size) (some W_0.heap.size) ([110, 111, 110, 101, 57, 57, 57, 57, 120], sz)) := Lib.hid (M_0x63.out.ap O7 g7 n7)
                  clear O7 g7 n7 one7
                  have X0 := (M_0x637.out.x _ rfl).1.cell 0
                  have X1 := (M_0x637.out.x _ rfl).1.cell 1
                  have X2 := (M_0x637.out.x _ rfl).1.cell 2
                  have Y0 := (M_0x637.out.x _ rfl).1.frozen 0
                  have Y1 := (M_0x637.out.x _ rfl).1.frozen 1
                  have Y2 := (M_0x637.out.x _ rfl).1.frozen 2
                  simp only [List.getElem?_cons_zero, List.getElem?_cons_succ] at X0 X1 X2
                  obtain ⟨WF, eF, HF⟩ := M_0x637.out.fin (nv := (.slice B N.length cb)) (b := bb)
                  refine hK.out _ _ ?_ (fun hHeld => ?_)
                  · (try dsimp only)
                    exact KS.out _ M_0x637.out.b
                  clear hK K
                  (try simp only [Act.put, List.setIfInBounds_toArray, List.set_cons_zero, List.set_cons_succ])
                  refine wpAnyH_take (i := 12) (oi := { dst := some 41, op := Op.build 28 #[(0, Operand.tmp 36), (1, Operand.tmp 38), (2, Operand.tmp 40)], type := 28, pos := "law.go:125", after := #[{ on := 7, ground := Ground.data }, { on := 9, ground := Ground.data }, { on := 11, ground := Ground.data }], guard := none }) (v := ?_) rfl (by kernel_rfl) (by kernel_rfl) (by kernel_rfl) (fun _ _ _ h => h) (Or.inl ⟨by rfl, ?_⟩) (by assumption) ?_
                  rotate_left
                  · intro w hSw; (try dsimp only at hSw); go_simp <;> (with_reducible rfl)
                  (try simp only [Act.put, List.setIfInBounds_toArray, List.set_cons_zero, List.set_cons_succ])
                  refine wpAnyH_ready (rs := [14]) (by kernel_rfl) (by simp) ?_
                  refine AllReadyH.cons (o := { dst := none, op := Op.store 28 (Operand.tmp 9) (Operand.tmp 41), type := 0, pos := "law.go:125", after := #[{ on := 13, ground := Ground.data }, { on := 12, ground := Ground.data }, { on := 7, ground := Ground.chain }, { on := 0, ground := Ground.phase }, { on := 1, ground := Ground.phase }, { on := 2, ground := Ground.phase }, { on := 3, ground := Ground.phase }, { on := 4, ground := Ground.phase }, { on := 5, ground := Ground.phase }, { on := 6, ground := Ground.phase }, { on := 7, ground := Ground.phase }, { on := 8, ground := Ground.phase }, { on := 9, ground := Ground.phase }, { on := 10, ground := Ground.phase }, { on := 11, ground := Ground.phase }, { on := 12, ground := Ground.phase }, { on := 13, ground := Ground.phase }], guard := none }) rfl (fun K hK => ?_) ?_
                  · go_simp
                    refine hK.out _ _ ?_ (fun hHeld => ?_)
                    · (try dsimp only)
                      exact KS.out _ HF.out.2.2.1
                    clear hK K
                    (try simp only [Act.put, List.setIfInBounds_toArray, List.set_cons_zero, List.set_cons_succ])
                    refine wpAnyH_done (by kernel_rfl) ?_ _
                    refine NoPanic.normal ?_
                    clear hHeld
                    go_wp2_with fail
                    go_meet
                    exact ⟨_, _, _, _, rfl, HF.out⟩
                  exact AllReadyH.nil
                exact AllReadyH.nil
              exact AllReadyH.nil
            exact AllReadyH.nil
          exact AllReadyH.nil
        refine AllReadyH.cons (o := { dst := some 35, op := Op.buildSlice 25 1 #[(0, Operand.tmp 34)], type := 25, pos := "law.go:125", after := #[{ on := 5, ground := Ground.data }], guard := none }) rfl (fun K hK => ?_) ?_
        · go_simp
          obtain ⟨W_60, e_60, M_60⟩ : ∃ W', W_6.alloc (.cells #[] 31) = W' ∧ Hid (Mo w3 W' (some (.slice (some ⟨W_6.heap.size, 0, none⟩) 0 0, [])) (some w3.heap.size) none ([110, 111, 110, 101, 57, 57, 57, 57, 120], sz)) := M_6.out.e0
          obtain ⟨W_6x, e_6x, M_6x⟩ : ∃ W', W_6.alloc (.cells #[.slice none 0 0, .slice none 0 0, .int .i64 0] 28) = W' ∧ Hid (Mo w3 W' none (some w3.heap.size) (some W_6.heap.size) ([110, 111, 110, 101, 57, 57, 57, 57, 120], sz)) := M_6.out.x0
          refine hK.out _ _ ?_ (fun hHeld => ?_)
          · (try dsimp only)
            exact KS.out _ M_6.out.b
          clear hK K
          (try simp only [Act.put, List.setIfInBounds_toArray, List.set_cons_zero, List.set_cons_succ])
          refine wpAnyH_ready (rs := [0, 13]) (by kernel_rfl) (by simp) ?_
          refine AllReadyH.cons (o := { dst := some 29, op := Op.buildSlice 25 0 #[], type := 25, pos := "law.go:125", after := #[], guard := none }) rfl (fun K hK => ?_) ?_
          · go_simp
            obtain ⟨W_60x, e_60x, M_60x⟩ : ∃ W', W_60.alloc (.cells #[.slice none 0 0, .slice none 0 0, .int .i64 0] 28) = W' ∧ Hid (Mo w3 W' (some (.slice (some ⟨W_6.heap.size, 0, none⟩) 0 0, [])) (some w3.heap.size) (some W_60.heap.size) ([110, 111, 110, 101, 57, 57, 57, 57, 120], sz)) := M_60.out.x0
            refine hK.out _ _ ?_ (fun hHeld => ?_)
            · (try dsimp only)
              exact KS.out _ M_60.out.b
            clear hK K
            (try simp only [Act.put, List.setIfInBounds_toArray, List.set_cons_zero, List.set_cons_succ])
            refine wpAnyH_ready (rs := [3, 13]) (by kernel_rfl) (by simp) ?_
            refine AllReadyH.cons (o := { dst := some 32, op := Op.call { callee := Callee.builtin Builtin.append, args := #[Operand.tmp 29, Operand.tmp 31], argTypes := #[25, 25] }, type := 25, pos := "law.go:125", after := #[{ on := 0, ground := Ground.data }, { on := 2, ground := Ground.data }], guard := none }) rfl (fun K hK => ?_) ?_
            · refine app_allO (.tmp 29) (.tmp 31) rfl (M_60.out.e _ _ rfl) rfl (own_belowP T3D.out M_60.out.b) rfl (by omega) M_60.out.b.size ?_
              intro v3 W_603 O3 g3 n3
              obtain ⟨A3, l3, k3, rfl⟩ : ∃ A n c, v3 = .slice A n c := by obtain ⟨A, c, e⟩ := own_form O3; exact ⟨A, _, c, e⟩
              have M_603 : Hid (Mo w3 W_603 (some (.slice A3 l3 k3, D)) (some w3.heap.size) none ([110, 111, 110, 101, 57, 57, 57, 57, 120], sz)) := Lib.hid (M_60.out.ap O3 g3 n3)
              clear O3 g3 n3
              obtain ⟨W_603x, e_603x, M_603x⟩ : ∃ W', W_603.alloc (.cells #[.slice none 0 0, .slice none 0 0, .int .i64 0] 28) = W' ∧ Hid (Mo w3 W' (some (.slice A3 l3 k3, D)) (some w3.heap.size) (some W_603.heap.size) ([110, 111, 110, 101, 57, 57, 57, 57, 120], sz)) := M_603.out.x0
              refine hK.out _ _ ?_ (fun hHeld => ?_)
              · (try dsimp only)
                exact KS.out _ M_603.out.b
              clear hK K
              (try simp only [Act.put, List.setIfInBounds_toArray, List.set_cons_zero, List.set_cons_succ])
              refine wpAnyH_ready (rs := [7, 13]) (by kernel_rfl) (by simp) ?_
              refine AllReadyH.cons (o := { dst := some 36, op := Op.call { callee := Callee.builtin Builtin.append, args := #[Operand.tmp 32, Operand.tmp 35], argTypes := #[25, 25] }, type := 25, pos := "law.go:125", after := #[{ on := 3, ground := Ground.data }, { on := 6, ground := Ground.data }, { on := 3, ground := Ground.chain }], guard := none }) rfl (fun K hK => ?_) ?_
              · refine app_dcO (.tmp 32) (.tmp 35) rfl (M_603.out.e _ _ rfl) rfl ([110, 111, 110, 101, 57, 57, 57, 57, 120], sz) w3.heap.size rfl (M_603.out.q _ rfl).1 (by omega) M_603.out.b.size ?_
                intro v7 W_6037 O7 g7 n7 one7
                obtain ⟨A7, l7, k7, rfl⟩ : ∃ A n c, v7 = .slice A n c := by obtain ⟨A, c, e⟩ := own_form O7; exact ⟨A, _, c, e⟩
                have M_6037 : Hid (Mo w3 W_6037 (some (.slice A7 l7 k7, D ++ [([110, 111, 110, 101, 57, 57, 57, 57, 120], sz)])) (some w3.heap.size) none ([110, 111, 110, 101, 57, 57, 57, 57, 120], sz)) := Lib.hid (M_603.out.ap O7 g7 n7)
                clear O7 g7 n7 one7
                obtain ⟨W_6037x, e_6037x, M_6037x⟩ : ∃ W', W_6037.alloc (.cells #[.slice none 0 0, .slice none 0 0, .int .i64 0] 28) = W' ∧ Hid (Mo w3 W' (some (.slice A7 l7 k7, D ++ [([110, 111, 110, 101, 57, 57, 57, 57, 120], sz)])) (some w3.heap.size) (some W_6037.heap.size) ([110, 111, 110, 101, 57, 57, 57, 57, 120], sz)) := M_6037.out.x0
                refine hK.out _ _ ?_ (fun hHeld => ?_)
                · (try dsimp only)
                  exact KS.out _ M_6037.out.b
                clear hK K
                (try simp only [Act.put, List.setIfInBounds_toArray, List.set_cons_zero, List.set_cons_succ])
                refine wpAnyH_take (i := 12) (oi := { dst := some 41, op := Op.build 28 #[(0, Operand.tmp 36), (1, Operand.tmp 38), (2, Operand.tmp 40)], type := 28, pos := "law.go:125", after := #[{ on := 7, ground := Ground.data }, { on := 9, ground := Ground.data }, { on := 11, ground := Ground.data }], guard := none }) (v := ?_) rfl (by kernel_rfl) (by kernel_rfl) (by kernel_rfl) (fun _ _ _ h => h) (Or.inl ⟨by rfl, ?_⟩) (by assumption) ?_
                rotate_left
                · intro w hSw; (try dsimp only at hSw); go_simp <;> (with_reducible rfl)
                (try simp only [Act.put, List.setIfInBounds_toArray, List.set_cons_zero, List.set_cons_succ])
                refine wpAnyH_ready (rs := [13]) (by kernel_rfl) (by simp) ?_
                refine AllReadyH.cons (o := { dst := some 9, op := Op.alloc 28, type := 0, pos := "law.go:125", after := #[], guard := none }) rfl (fun K hK => ?_) ?_
                · go_simp
                  have X0 := (M_6037x.out.x _ rfl).1.cell 0
                  have X1 := (M_6037x.out.x _ rfl).1.cell 1
                  have X2 := (M_6037x.out.x _ rfl).1.cell 2
                  have Y0 := (M_6037x.out.x _ rfl).1.frozen 0
                  have Y1 := (M_6037x.out.x _ rfl).1.frozen 1
                  have Y2 := (M_6037x.out.x _ rfl).1.frozen 2
                  simp only [List.getElem?_cons_zero, List.getElem?_cons_succ] at X0 X1 X2
                  obtain ⟨WF, eF, HF⟩ := M_6037x.out.fin (nv := (.slice B N.length cb)) (b := bb)
                  refine hK.out _ _ ?_ (fun hHeld => ?_)
                  · (try dsimp only)
                    exact KS.out _ M_6037x.out.b
                  clear hK K
                  (try simp only [Act.put, List.setIfInBounds_toArray, List.set_cons_zero, List.set_cons_succ])
                  refine wpAnyH_ready (rs := [14]) (by kernel_rfl) (by simp) ?_
                  refine AllReadyH.cons (o := { dst := none, op := Op.store 28 (Operand.tmp 9) (Operand.tmp 41), type := 0, pos := "law.go:125", after := #[{ on := 13, ground := Ground.data }, { on := 12, ground := Ground.data }, { on := 7, ground := Ground.chain }, { on := 0, ground := Ground.phase }, { on := 1, ground := Ground.phase }, { on := 2, ground := Ground.phase }, { on := 3, ground := Ground.phase }, { on := 4, ground := Ground.phase }, { on := 5, ground := Ground.phase }, { on := 6, ground := Ground.phase }, { on := 7, ground := Ground.phase }, { on := 8, ground := Ground.phase }, { on := 9, ground := Ground.phase }, { on := 10, ground := Ground.phase }, { on := 11, ground := Ground.phase }, { on := 12, ground := Ground.phase }, { on := 13, ground := Ground.phase }], guard := none }) rfl (fun K hK => ?_) ?_
                  · go_simp
                    refine hK.out _ _ ?_ (fun hHeld => ?_)
                    · (try dsimp only)
                      exact KS.out _ HF.out.2.2.1
                    clear hK K
                    (try simp only [Act.put, List.setIfInBounds_toArray, List.set_cons_zero, List.set_cons_succ])
                    refine wpAnyH_done (by kernel_rfl) ?_ _
                    refine NoPanic.normal ?_
                    clear hHeld
                    go_wp2_with fail
                    go_meet
                    exact ⟨_, _, _, _, rfl, HF.out⟩
                  exact AllReadyH.nil
                exact AllReadyH.nil
              refine AllReadyH.cons (o := { dst := some 9, op := Op.alloc 28, type := 0, pos := "law.go:125", after := #[], guard := none }) rfl (fun K hK => ?_) ?_
              · go_simp
                refine hK.out _ _ ?_ (fun hHeld => ?_)
                · (try dsimp only)
                  exact KS.out _ M_603x.out.b
                clear hK K
                (try simp only [Act.put, List.setIfInBounds_toArray, List.set_cons_zero, List.set_cons_succ])
                refine wpAnyH_ready (rs := [7]) (by kernel_rfl) (by simp) ?_
                refine AllReadyH.cons (o := { dst := some 36, op := Op.call { callee := Callee.builtin Builtin.append, args := #[Operand.tmp 32, Operand.tmp 35], argTypes := #[25, 25] }, type := 25, pos := "law.go:125", after := #[{ on := 3, ground := Ground.data }, { on := 6, ground := Ground.data }, { on := 3, ground := Ground.chain }], guard := none }) rfl (fun K hK => ?_) ?_
                · refine app_dcO (.tmp 32) (.tmp 35) rfl (M_603x.out.e _ _ rfl) rfl ([110, 111, 110, 101, 57, 57, 57, 57, 120], sz) w3.heap.size rfl (M_603x.out.q _ rfl).1 (by omega) M_603x.out.b.size ?_
                  intro v7 W_603x7 O7 g7 n7 one7
                  obtain ⟨A7, l7, k7, rfl⟩ : ∃ A n c, v7 = .slice A n c := by obtain ⟨A, c, e⟩ := own_form O7; exact ⟨A, _, c, e⟩
                  have M_603x7 : Hid (Mo w3 W_603x7 (some (.slice A7 l7 k7, D ++ [([110, 111, 110, 101, 57, 57, 57, 57, 120], sz)])) (some w3.heap.size) (some W_603.heap.size) ([110, 111, 110, 101, 57, 57, 57, 57, 120], sz)) := Lib.hid (M_603x.out.ap O7 g7 n7)
                  clear O7 g7 n7 one7
                  have X0 := (M_603x7.out.x _ rfl).1.cell 0
                  have X1 := (M_603x7.out.x _ rfl).1.cell 1
                  have X2 := (M_603x7.out.x _ rfl).1.cell 2
                  have Y0 := (M_603x7.out.x _ rfl).1.frozen 0
                  have Y1 := (M_603x7.out.x _ rfl).1.frozen 1
                  have Y2 := (M_603x7.out.x _ rfl).1.frozen 2
                  simp only [List.getElem?_cons_zero, List.getElem?_cons_succ] at X0 X1 X2
                  obtain ⟨WF, eF, HF⟩ := M_603x7.out.fin (nv := (.slice B N.length cb)) (b := bb)
                  refine hK.out _ _ ?_ (fun hHeld => ?_)
                  · (try dsimp only)
                    exact KS.out _ M_603x7.out.b
                  clear hK K
                  (try simp only [Act.put, List.setIfInBounds_toArray, List.set_cons_zero, List.set_cons_succ])
                  refine wpAnyH_take (i := 12) (oi := { dst := some 41, op := Op.build 28 #[(0, Operand.tmp 36), (1, Operand.tmp 38), (2, Operand.tmp 40)], type := 28, pos := "law.go:125", after := #[{ on := 7, ground := Ground.data }, { on := 9, ground := Ground.data }, { on := 11, ground := Ground.data }], guard := none }) (v := ?_) rfl (by kernel_rfl) (by kernel_rfl) (by kernel_rfl) (fun _ _ _ h => h) (Or.inl ⟨by rfl, ?_⟩) (by assumption) ?_
                  rotate_left
                  · intro w hSw; (try dsimp only at hSw); go_simp <;> (with_reducible rfl)
                  (try simp only [Act.put, List.setIfInBounds_toArray, List.set_cons_zero, List.set_cons_succ])
                  refine wpAnyH_ready (rs := [14]) (by kernel_rfl) (by simp) ?_
                  refine AllReadyH.cons (o := { dst := none, op := Op.store 28 (Operand.tmp 9) (Operand.tmp 41), type := 0, pos := "law.go:125", after := #[{ on := 13, ground := Ground.data }, { on := 12, ground := Ground.data }, { on := 7, ground := Ground.chain }, { on := 0, ground := Ground.phase }, { on := 1, ground := Ground.phase }, { on := 2, ground := Ground.phase }, { on := 3, ground := Ground.phase }, { on := 4, ground := Ground.phase }, { on := 5, ground := Ground.phase }, { on := 6, ground := Ground.phase }, { on := 7, ground := Ground.phase }, { on := 8, ground := Ground.phase }, { on := 9, ground := Ground.phase }, { on := 10, ground := Ground.phase }, { on := 11, ground := Ground.phase }, { on := 12, ground := Ground.phase }, { on := 13, ground := Ground.phase }], guard := none }) rfl (fun K hK => ?_) ?_
                  · go_simp
                    refine hK.out _ _ ?_ (fun hHeld => ?_)
                    · (try dsimp only)
                      exact KS.out _ HF.out.2.2.1
                    clear hK K
                    (try simp only [Act.put, List.setIfInBounds_toArray, List.set_cons_zero, List.set_cons_succ])
                    refine wpAnyH_done (by kernel_rfl) ?_ _
                    refine NoPanic.normal ?_
                    clear hHeld
                    go_wp2_with fail
                    go_meet
                    exact ⟨_, _, _, _, rfl, HF.out⟩
                  exact AllReadyH.nil
                exact AllReadyH.nil
              exact AllReadyH.nil
            refine AllReadyH.cons (o := { dst := some 9, op := Op.alloc 28, type := 0, pos := "law.go:125", after := #[], guard := none }) rfl (fun K hK => ?_) ?_
            · go_simp
              refine hK.out _ _ ?_ (fun hHeld => ?_)
              · (try dsimp only)
                exact KS.out _ M_60x.out.b
              clear hK K
              (try simp only [Act.put, List.setIfInBounds_toArray, List.set_cons_zero, List.set_cons_succ])
              refine wpAnyH_ready (rs := [3]) (by kernel_rfl) (by simp) ?_
              refine AllReadyH.cons (o := { dst := some 32, op := Op.call { callee := Callee.builtin Builtin.append, args := #[Operand.tmp 29, Operand.tmp 31], argTypes := #[25, 25] }, type := 25, pos := "law.go:125", after := #[{ on := 0, ground := Ground.data }, { on := 2, ground := Ground.data }], guard := none }) rfl (fun K hK => ?_) ?_
              · refine app_allO (.tmp 29) (.tmp 31) rfl (M_60x.out.e _ _ rfl) rfl (own_belowP T3D.out M_60x.out.b) rfl (by omega) M_60x.out.b.size ?_
                intro v3 W_60x3 O3 g3 n3
                obtain ⟨A3, l3, k3, rfl⟩ : ∃ A n c, v3 = .slice A n c := by obtain ⟨A, c, e⟩ := own_form O3; exact ⟨A, _, c, e⟩
                have M_60x3 : Hid (Mo w3 W_60x3 (some (.slice A3 l3 k3, D)) (some w3.heap.size) (some W_60.heap.size) ([110, 111, 110, 101, 57, 57, 57, 57, 120], sz)) := Lib.hid (M_60x.out.ap O3 g3 n3)
                clear O3 g3 n3
                refine hK.out _ _ ?_ (fun hHeld => ?_)
                · (try dsimp only)
                  exact KS.out _ M_60x3.out.b
                clear hK K
                (try simp only [Act.put, List.setIfInBounds_toArray, List.set_cons_zero, List.set_cons_succ])
                refine wpAnyH_ready (rs := [7]) (by kernel_rfl) (by simp) ?_
                refine AllReadyH.cons (o := { dst := some 36, op := Op.call { callee := Callee.builtin Builtin.append, args := #[Operand.tmp 32, Operand.tmp 35], argTypes := #[25, 25] }, type := 25, pos := "law.go:125", after := #[{ on := 3, ground := Ground.data }, { on := 6, ground := Ground.data }, { on := 3, ground := Ground.chain }], guard := none }) rfl (fun K hK => ?_) ?_
                · refine app_dcO (.tmp 32) (.tmp 35) rfl (M_60x3.out.e _ _ rfl) rfl ([110, 111, 110, 101, 57, 57, 57, 57, 120], sz) w3.heap.size rfl (M_60x3.out.q _ rfl).1 (by omega) M_60x3.out.b.size ?_
                  intro v7 W_60x37 O7 g7 n7 one7
                  obtain ⟨A7, l7, k7, rfl⟩ : ∃ A n c, v7 = .slice A n c := by obtain ⟨A, c, e⟩ := own_form O7; exact ⟨A, _, c, e⟩
                  have M_60x37 : Hid (Mo w3 W_60x37 (some (.slice A7 l7 k7, D ++ [([110, 111, 110, 101, 57, 57, 57, 57, 120], sz)])) (some w3.heap.size) (some W_60.heap.size) ([110, 111, 110, 101, 57, 57, 57, 57, 120], sz)) := Lib.hid (M_60x3.out.ap O7 g7 n7)
                  clear O7 g7 n7 one7
                  have X0 := (M_60x37.out.x _ rfl).1.cell 0
                  have X1 := (M_60x37.out.x _ rfl).1.cell 1
                  have X2 := (M_60x37.out.x _ rfl).1.cell 2
                  have Y0 := (M_60x37.out.x _ rfl).1.frozen 0
                  have Y1 := (M_60x37.out.x _ rfl).1.frozen 1
                  have Y2 := (M_60x37.out.x _ rfl).1.frozen 2
                  simp only [List.getElem?_cons_zero, List.getElem?_cons_succ] at X0 X1 X2
                  obtain ⟨WF, eF, HF⟩ := M_60x37.out.fin (nv := (.slice B N.length cb)) (b := bb)
                  refine hK.out _ _ ?_ (fun hHeld => ?_)
                  · (try dsimp only)
                    exact KS.out _ M_60x37.out.b
                  clear hK K
                  (try simp only [Act.put, List.setIfInBounds_toArray, List.set_cons_zero, List.set_cons_succ])
                  refine wpAnyH_take (i := 12) (oi := { dst := some 41, op := Op.build 28 #[(0, Operand.tmp 36), (1, Operand.tmp 38), (2, Operand.tmp 40)], type := 28, pos := "law.go:125", after := #[{ on := 7, ground := Ground.data }, { on := 9, ground := Ground.data }, { on := 11, ground := Ground.data }], guard := none }) (v := ?_) rfl (by kernel_rfl) (by kernel_rfl) (by kernel_rfl) (fun _ _ _ h => h) (Or.inl ⟨by rfl, ?_⟩) (by assumption) ?_
                  rotate_left
                  · intro w hSw; (try dsimp only at hSw); go_simp <;> (with_reducible rfl)
                  (try simp only [Act.put, List.setIfInBounds_toArray, List.set_cons_zero, List.set_cons_succ])
                  refine wpAnyH_ready (rs := [14]) (by kernel_rfl) (by simp) ?_
                  refine AllReadyH.cons (o := { dst := none, op := Op.store 28 (Operand.tmp 9) (Operand.tmp 41), type := 0, pos := "law.go:125", after := #[{ on := 13, ground := Ground.data }, { on := 12, ground := Ground.data }, { on := 7, ground := Ground.chain }, { on := 0, ground := Ground.phase }, { on := 1, ground := Ground.phase }, { on := 2, ground := Ground.phase }, { on := 3, ground := Ground.phase }, { on := 4, ground := Ground.phase }, { on := 5, ground := Ground.phase }, { on := 6, ground := Ground.phase }, { on := 7, ground := Ground.phase }, { on := 8, ground := Ground.phase }, { on := 9, ground := Ground.phase }, { on := 10, ground := Ground.phase }, { on := 11, ground := Ground.phase }, { on := 12, ground := Ground.phase }, { on := 13, ground := Ground.phase }], guard := none }) rfl (fun K hK => ?_) ?_
                  · go_simp
                    refine hK.out _ _ ?_ (fun hHeld => ?_)
                    · (try dsimp only)
                      exact KS.out _ HF.out.2.2.1
                    clear hK K
                    (try simp only [Act.put, List.setIfInBounds_toArray, List.set_cons_zero, List.set_cons_succ])
                    refine wpAnyH_done (by kernel_rfl) ?_ _
                    refine NoPanic.normal ?_
                    clear hHeld
                    go_wp2_with fail
                    go_meet
                    exact ⟨_, _, _, _, rfl, HF.out⟩
                  exact AllReadyH.nil
                exact AllReadyH.nil
              exact AllReadyH.nil
            exact AllReadyH.nil
          refine AllReadyH.cons (o := { dst := some 9, op := Op.alloc 28, type := 0, pos := "law.go:125", after := #[], guard := none }) rfl (fun K hK => ?_) ?_
          · go_simp
            obtain ⟨W_6x0, e_6x0, M_6x0⟩ : ∃ W', W_6x.alloc (.cells #[] 31) = W' ∧ Hid (Mo w3 W' (some (.slice (some ⟨W_6x.heap.size, 0, none⟩) 0 0, [])) (some w3.heap.size) (some W_6.heap.size) ([110, 111, 110, 101, 57, 57, 57, 57, 120], sz)) := M_6x.out.e0
            refine hK.out _ _ ?_ (fun hHeld => ?_)
            · (try dsimp only)
              exact KS.out _ M_6x.out.b
            clear hK K
            (try simp only [Act.put, List.setIfInBounds_toArray, List.set_cons_zero, List.set_cons_succ])
            refine wpAnyH_ready (rs := [0]) (by kernel_rfl) (by simp) ?_
            refine AllReadyH.cons (o := { dst := some 29, op := Op.buildSlice 25 0 #[], type := 25, pos := "law.go:125", after := #[], guard := none }) rfl (fun K hK => ?_) ?_
            · go_simp
              refine hK.out _ _ ?_ (fun hHeld => ?_)
              · (try dsimp only)
                exact KS.out _ M_6x0.out.b
              clear hK K
              (try simp only [Act.put, List.setIfInBounds_toArray, List.set_cons_zero, List.set_cons_succ])
              refine wpAnyH_ready (rs := [3]) (by kernel_rfl) (by simp) ?_
              refine AllReadyH.cons (o := { dst := some 32, op := Op.call { callee := Callee.builtin Builtin.append, args := #[Operand.tmp 29, Operand.tmp 31], argTypes := #[25, 25] }, type := 25, pos := "law.go:125", after := #[{ on := 0, ground := Ground.data }, { on := 2, ground := Ground.data }], guard := none }) rfl (fun K hK => ?_) ?_
              · refine app_allO (.tmp 29) (.tmp 31) rfl (M_6x0.out.e _ _ rfl) rfl (own_belowP T3D.out M_6x0.out.b) rfl (by omega) M_6x0.out.b.size ?_
                intro v3 W_6x03 O3 g3 n3
                obtain ⟨A3, l3, k3, rfl⟩ : ∃ A n c, v3 = .slice A n c := by obtain ⟨A, c, e⟩ := own_form O3; exact ⟨A, _, c, e⟩
                have M_6x03 : Hid (Mo w3 W_6x03 (some (.slice A3 l3 k3, D)) (some w3.heap.size) (some W_6.heap.size) ([110, 111, 110, 101, 57, 57, 57, 57, 120], sz)) := Lib.hid (M_6x0.out.ap O3 g3 n3)
                clear O3 g3 n3
                refine hK.out _ _ ?_ (fun hHeld => ?_)
                · (try dsimp only)
                  exact KS.out _ M_6x03.out.b
                clear hK K
                (try simp only [Act.put, List.setIfInBounds_toArray, List.set_cons_zero, List.set_cons_succ])
                refine wpAnyH_ready (rs := [7]) (by kernel_rfl) (by simp) ?_
                refine AllReadyH.cons (o := { dst := some 36, op := Op.call { callee := Callee.builtin Builtin.append, args := #[Operand.tmp 32, Operand.tmp 35], argTypes := #[25, 25] }, type := 25, pos := "law.go:125", after := #[{ on := 3, ground := Ground.data }, { on := 6, ground := Ground.data }, { on := 3, ground := Ground.chain }], guard := none }) rfl (fun K hK => ?_) ?_
                · refine app_dcO (.tmp 32) (.tmp 35) rfl (M_6x03.out.e _ _ rfl) rfl ([110, 111, 110, 101, 57, 57, 57, 57, 120], sz) w3.heap.size rfl (M_6x03.out.q _ rfl).1 (by omega) M_6x03.out.b.size ?_
                  intro v7 W_6x037 O7 g7 n7 one7
                  obtain ⟨A7, l7, k7, rfl⟩ : ∃ A n c, v7 = .slice A n c := by obtain ⟨A, c, e⟩ := own_form O7; exact ⟨A, _, c, e⟩
                  have M_6x037 : Hid (Mo w3 W_6x037 (some (.slice A7 l7 k7, D ++ [([110, 111, 110, 101, 57, 57, 57, 57, 120], sz)])) (some w3.heap.size) (some W_6.heap.size) ([110, 111, 110, 101, 57, 57, 57, 57, 120], sz)) := Lib.hid (M_6x03.out.ap O7 g7 n7)
                  clear O7 g7 n7 one7
                  have X0 := (M_6x037.out.x _ rfl).1.cell 0
                  have X1 := (M_6x037.out.x _ rfl).1.cell 1
                  have X2 := (M_6x037.out.x _ rfl).1.cell 2
                  have Y0 := (M_6x037.out.x _ rfl).1.frozen 0
                  have Y1 := (M_6x037.out.x _ rfl).1.frozen 1
                  have Y2 := (M_6x037.out.x _ rfl).1.frozen 2
                  simp only [List.getElem?_cons_zero, List.getElem?_cons_succ] at X0 X1 X2
                  obtain ⟨WF, eF, HF⟩ := M_6x037.out.fin (nv := (.slice B N.length cb)) (b := bb)
                  refine hK.out _ _ ?_ (fun hHeld => ?_)
                  · (try dsimp only)
                    exact KS.out _ M_6x037.out.b
                  clear hK K
                  (try simp only [Act.put, List.setIfInBounds_toArray, List.set_cons_zero, List.set_cons_succ])
                  refine wpAnyH_take (i := 12) (oi := { dst := some 41, op := Op.build 28 #[(0, Operand.tmp 36), (1, Operand.tmp 38), (2, Operand.tmp 40)], type := 28, pos := "law.go:125", after := #[{ on := 7, ground := Ground.data }, { on := 9, ground := Ground.data }, { on := 11, ground := Ground.data }], guard := none }) (v := ?_) rfl (by kernel_rfl) (by kernel_rfl) (by kernel_rfl) (fun _ _ _ h => h) (Or.inl ⟨by rfl, ?_⟩) (by assumption) ?_
                  rotate_left
                  · intro w hSw; (try dsimp only at hSw); go_simp <;> (with_reducible rfl)
                  (try simp only [Act.put, List.setIfInBounds_toArray, List.set_cons_zero, List.set_cons_succ])
                  refine wpAnyH_ready (rs := [14]) (by kernel_rfl) (by simp) ?_
                  refine AllReadyH.cons (o := { dst := none, op := Op.store 28 (Operand.tmp 9) (Operand.tmp 41), type := 0, pos := "law.go:125", after := #[{ on := 13, ground := Ground.data }, { on := 12, ground := Ground.data }, { on := 7, ground := Ground.chain }, { on := 0, ground := Ground.phase }, { on := 1, ground := Ground.phase }, { on := 2, ground := Ground.phase }, { on := 3, ground := Ground.phase }, { on := 4, ground := Ground.phase }, { on := 5, ground := Ground.phase }, { on := 6, ground := Ground.phase }, { on := 7, ground := Ground.phase }, { on := 8, ground := Ground.phase }, { on := 9, ground := Ground.phase }, { on := 10, ground := Ground.phase }, { on := 11, ground := Ground.phase }, { on := 12, ground := Ground.phase }, { on := 13, ground := Ground.phase }], guard := none }) rfl (fun K hK => ?_) ?_
                  · go_simp
                    refine hK.out _ _ ?_ (fun hHeld => ?_)
                    · (try dsimp only)
                      exact KS.out _ HF.out.2.2.1
                    clear hK K
                    (try simp only [Act.put, List.setIfInBounds_toArray, List.set_cons_zero, List.set_cons_succ])
                    refine wpAnyH_done (by kernel_rfl) ?_ _
                    refine NoPanic.normal ?_
                    clear hHeld
                    go_wp2_with fail
                    go_meet
                    exact ⟨_, _, _, _, rfl, HF.out⟩
                  exact AllReadyH.nil
                exact AllReadyH.nil
              exact AllReadyH.nil
            exact AllReadyH.nil
          exact AllReadyH.nil
        refine AllReadyH.cons (o := { dst := some 9, op := Op.alloc 28, type := 0, pos := "law.go:125", after := #[], guard := none }) rfl (fun K hK => ?_) ?_
        · go_simp
          obtain ⟨W_x0, e_x0, M_x0⟩ : ∃ W', W_x.alloc (.cells #[] 31) = W' ∧ Hid (Mo w3 W' (some (.slice (some ⟨W_x.heap.size, 0, none⟩) 0 0, [])) none (some w3.heap.size) ([110, 111, 110, 101, 57, 57, 57, 57, 120], sz)) := M_x.out.e0
          obtain ⟨W_x6, e_x6, M_x6⟩ : ∃ W', W_x.alloc (.cells #[.string ⟨#[110, 111, 110, 101, 57, 57, 57, 57, 120]⟩, .int .i64 sz] 31) = W' ∧ Hid (Mo w3 W' none (some W_x.heap.size) (some w3.heap.size) ([110, 111, 110, 101, 57, 57, 57, 57, 120], sz)) := M_x.out.q0
          refine hK.out _ _ ?_ (fun hHeld => ?_)
          · (try dsimp only)
            exact KS.out _ M_x.out.b
          clear hK K
          (try simp only [Act.put, List.setIfInBounds_toArray, List.set_cons_zero, List.set_cons_succ])
          refine wpAnyH_ready (rs := [0, 6]) (by kernel_rfl) (by simp) ?_
          refine AllReadyH.cons (o := { dst := some 29, op := Op.buildSlice 25 0 #[], type := 25, pos := "law.go:125", after := #[], guard := none }) rfl (fun K hK => ?_) ?_
          · go_simp
            obtain ⟨W_x06, e_x06, M_x06⟩ : ∃ W', W_x0.alloc (.cells #[.string ⟨#[110, 111, 110, 101, 57, 57, 57, 57, 120]⟩, .int .i64 sz] 31) = W' ∧ Hid (Mo w3 W' (some (.slice (some ⟨W_x.heap.size, 0, none⟩) 0 0, [])) (some W_x0.heap.size) (some w3.heap.size) ([110, 111, 110, 101, 57, 57, 57, 57, 120], sz)) := M_x0.out.q0
            refine hK.out _ _ ?_ (fun hHeld => ?_)
            · (try dsimp only)
              exact KS.out _ M_x0.out.b
            clear hK K
            (try simp only [Act.put, List.setIfInBounds_toArray, List.set_cons_zero, List.set_cons_succ])
            refine wpAnyH_ready (rs := [3, 6]) (by kernel_rfl) (by simp) ?_
            refine AllReadyH.cons (o := { dst := some 32, op := Op.call { callee := Callee.builtin Builtin.append, args := #[Operand.tmp 29, Operand.tmp 31], argTypes := #[25, 25] }, type := 25, pos := "law.go:125", after := #[{ on := 0, ground := Ground.data }, { on := 2, ground := Ground.data }], guard := none }) rfl (fun K hK => ?_) ?_
            · refine app_allO (.tmp 29) (.tmp 31) rfl (M_x0.out.e _ _ rfl) rfl (own_belowP T3D.out M_x0.out.b) rfl (by omega) M_x0.out.b.size ?_
              intro v3 W_x03 O3 g3 n3
              obtain ⟨A3, l3, k3, rfl⟩ : ∃ A n c, v3 = .slice A n c := by obtain ⟨A, c, e⟩ := own_form O3; exact ⟨A, _, c, e⟩
              have M_x03 : Hid (Mo w3 W_x03 (some (.slice A3 l3 k3, D)) none (some w3.heap.size) ([110, 111, 110, 101, 57, 57, 57, 57, 120], sz)) := Lib.hid (M_x0.out.ap O3 g3 n3)
              clear O3 g3 n3
              obtain ⟨W_x036, e_x036, M_x036⟩ : ∃ W', W_x03.alloc (.cells #[.string ⟨#[110, 111, 110, 101, 57, 57, 57, 57, 120]⟩, .int .i64 sz] 31) = W' ∧ Hid (Mo w3 W' (some (.slice A3 l3 k3, D)) (some W_x03.heap.size) (some w3.heap.size) ([110, 111, 110, 101, 57, 57, 57, 57, 120], sz)) := M_x03.out.q0
              refine hK.out _ _ ?_ (fun hHeld => ?_)
              · (try dsimp only)
                exact KS.out _ M_x03.out.b
              clear hK K
              (try simp only [Act.put, List.setIfInBounds_toArray, List.set_cons_zero, List.set_cons_succ])
              refine wpAnyH_ready (rs := [6]) (by kernel_rfl) (by simp) ?_
              refine AllReadyH.cons (o := { dst := some 35, op := Op.buildSlice 25 1 #[(0, Operand.tmp 34)], type := 25, pos := "law.go:125", after := #[{ on := 5, ground := Ground.data }], guard := none }) rfl (fun K hK => ?_) ?_
              · go_simp
                refine hK.out _ _ ?_ (fun hHeld => ?_)
                · (try dsimp only)
                  exact KS.out _ M_x036.out.b
                clear hK K
                (try simp only [Act.put, List.setIfInBounds_toArray, List.set_cons_zero, List.set_cons_succ])
                refine wpAnyH_ready (rs := [7]) (by kernel_rfl) (by simp) ?_
                refine AllReadyH.cons (o := { dst := some 36, op := Op.call { callee := Callee.builtin Builtin.append, args := #[Operand.tmp 32, Operand.tmp 35], argTypes := #[25, 25] }, type := 25, pos := "law.go:125", after := #[{ on := 3, ground := Ground.data }, { on := 6, ground := Ground.data }, { on := 3, ground := Ground.chain }], guard := none }) rfl (fun K hK => ?_) ?_
                · refine app_dcO (.tmp 32) (.tmp 35) rfl (M_x036.out.e _ _ rfl) rfl ([110, 111, 110, 101, 57, 57, 57, 57, 120], sz) W_x03.heap.size rfl (M_x036.out.q _ rfl).1 (by omega) M_x036.out.b.size ?_
                  intro v7 W_x0367 O7 g7 n7 one7
                  obtain ⟨A7, l7, k7, rfl⟩ : ∃ A n c, v7 = .slice A n c := by obtain ⟨A, c, e⟩ := own_form O7; exact ⟨A, _, c, e⟩
                  have M_x0367 : Hid (Mo w3 W_x0367 (some (.slice A7 l7 k7, D ++ [([110, 111, 110, 101, 57, 57, 57, 57, 120], sz)])) (some W_x03.heap.size) (some w3.heap.size) ([110, 111, 110, 101, 57, 57, 57, 57, 120], sz)) := Lib.hid (M_x036.out.ap O7 g7 n7)
                  clear O7 g7 n7 one7
                  have X0 := (M_x0367.out.x _ rfl).1.cell 0
                  have X1 := (M_x0367.out.x _ rfl).1.cell 1
                  have X2 := (M_x0367.out.x _ rfl).1.cell 2
                  have Y0 := (M_x0367.out.x _ rfl).1.frozen 0
                  have Y1 := (M_x0367.out.x _ rfl).1.frozen 1
                  have Y2 := (M_x0367.out.x _ rfl).1.frozen 2
                  simp only [List.getElem?_cons_zero, List.getElem?_cons_succ] at X0 X1 X2
                  obtain ⟨WF, eF, HF⟩ := M_x0367.out.fin (nv := (.slice B N.length cb)) (b := bb)
                  refine hK.out _ _ ?_ (fun hHeld => ?_)
                  · (try dsimp only)
                    exact KS.out _ M_x0367.out.b
                  clear hK K
                  (try simp only [Act.put, List.setIfInBounds_toArray, List.set_cons_zero, List.set_cons_succ])
                  refine wpAnyH_take (i := 12) (oi := { dst := some 41, op := Op.build 28 #[(0, Operand.tmp 36), (1, Operand.tmp 38), (2, Operand.tmp 40)], type := 28, pos := "law.go:125", after := #[{ on := 7, ground := Ground.data }, { on := 9, ground := Ground.data }, { on := 11, ground := Ground.data }], guard := none }) (v := ?_) rfl (by kernel_rfl) (by kernel_rfl) (by kernel_rfl) (fun _ _ _ h => h) (Or.inl ⟨by rfl, ?_⟩) (by assumption) ?_
                  rotate_left
                  · intro w hSw; (try dsimp only at hSw); go_simp <;> (with_reducible rfl)
                  (try simp only [Act.put, List.setIfInBounds_toArray, List.set_cons_zero, List.set_cons_succ])
                  refine wpAnyH_ready (rs := [14]) (by kernel_rfl) (by simp) ?_
                  refine AllReadyH.cons (o := { dst := none, op := Op.store 28 (Operand.tmp 9) (Operand.tmp 41), type := 0, pos := "law.go:125", after := #[{ on := 13, ground := Ground.data }, { on := 12, ground := Ground.data }, { on := 7, ground := Ground.chain }, { on := 0, ground := Ground.phase }, { on := 1, ground := Ground.phase }, { on := 2, ground := Ground.phase }, { on := 3, ground := Ground.phase }, { on := 4, ground := Ground.phase }, { on := 5, ground := Ground.phase }, { on := 6, ground := Ground.phase }, { on := 7, ground := Ground.phase }, { on := 8, ground := Ground.phase }, { on := 9, ground := Ground.phase }, { on := 10, ground := Ground.phase }, { on := 11, ground := Ground.phase }, { on := 12, ground := Ground.phase }, { on := 13, ground := Ground.phase }], guard := none }) rfl (fun K hK => ?_) ?_
                  · go_simp
                    refine hK.out _ _ ?_ (fun hHeld => ?_)
                    · (try dsimp only)
                      exact KS.out _ HF.out.2.2.1
                    clear hK K
                    (try simp only [Act.put, List.setIfInBounds_toArray, List.set_cons_zero, List.set_cons_succ])
                    refine wpAnyH_done (by kernel_rfl) ?_ _
                    refine NoPanic.normal ?_
                    clear hHeld
                    go_wp2_with fail
                    go_meet
                    exact ⟨_, _, _, _, rfl, HF.out⟩
                  exact AllReadyH.nil
                exact AllReadyH.nil
              exact AllReadyH.nil
            refine AllReadyH.cons (o := { dst := some 35, op := Op.buildSlice 25 1 #[(0, Operand.tmp 34)], type := 25, pos := "law.go:125", after := #[{ on := 5, ground := Ground.data }], guard := none }) rfl (fun K hK => ?_) ?_
            · go_simp
              refine hK.out _ _ ?_ (fun hHeld => ?_)
              · (try dsimp only)
                exact KS.out _ M_x06.out.b
              clear hK K
              (try simp only [Act.put, List.setIfInBounds_toArray, List.set_cons_zero, List.set_cons_succ])
              refine wpAnyH_ready (rs := [3]) (by kernel_rfl) (by simp) ?_
              refine AllReadyH.cons (o := { dst := some 32, op := Op.call { callee := Callee.builtin Builtin.append, args := #[Operand.tmp 29, Operand.tmp 31], argTypes := #[25, 25] }, type := 25, pos := "law.go:125", after := #[{ on := 0, ground := Ground.data }, { on := 2, ground := Ground.data }], guard := none }) rfl (fun K hK => ?_) ?_
              · refine app_allO (.tmp 29) (.tmp 31) rfl (M_x06.out.e _ _ rfl) rfl (own_belowP T3D.out M_x06.out.b) rfl (by omega) M_x06.out.b.size ?_
                intro v3 W_x063 O3 g3 n3
                obtain ⟨A3, l3, k3, rfl⟩ : ∃ A n c, v3 = .slice A n c := by obtain ⟨A, c, e⟩ := own_form O3; exact ⟨A, _, c, e⟩
                have M_x063 : Hid (Mo w3 W_x063 (some (.slice A3 l3 k3, D)) (some W_x0.heap.size) (some w3.heap.size) ([110, 111, 110, 101, 57, 57, 57, 57, 120], sz)) := Lib.hid (M_x06.out.ap O3 g3 n3)
                clear O3 g3 n3
                refine hK.out _ _ ?_ (fun hHeld => ?_)
                · (try dsimp only)
                  exact KS.out _ M_x063.out.b
                clear hK K
                (try simp only [Act.put, List.setIfInBounds_toArray, List.set_cons_zero, List.set_cons_succ])
                refine wpAnyH_ready (rs := [7]) (by kernel_rfl) (by simp) ?_
                refine AllReadyH.cons (o := { dst := some 36, op := Op.call { callee := Callee.builtin Builtin.append, args := #[Operand.tmp 32, Operand.tmp 35], argTypes := #[25, 25] }, type := 25, pos := "law.go:125", after := #[{ on := 3, ground := Ground.data }, { on := 6, ground := Ground.data }, { on := 3, ground := Ground.chain }], guard := none }) rfl (fun K hK => ?_) ?_
                · refine app_dcO (.tmp 32) (.tmp 35) rfl (M_x063.out.e _ _ rfl) rfl ([110, 111, 110, 101, 57, 57, 57, 57, 120], sz) W_x0.heap.size rfl (M_x063.out.q _ rfl).1 (by omega) M_x063.out.b.size ?_
                  intro v7 W_x0637 O7 g7 n7 one7
                  obtain ⟨A7, l7, k7, rfl⟩ : ∃ A n c, v7 = .slice A n c := by obtain ⟨A, c, e⟩ := own_form O7; exact ⟨A, _, c, e⟩
                  have M_x0637 : Hid (Mo w3 W_x0637 (some (.slice A7 l7 k7, D ++ [([110, 111, 110, 101, 57, 57, 57, 57, 120], sz)])) (some W_x0.heap.size) (some w3.heap.size) ([110, 111, 110, 101, 57, 57, 57, 57, 120], sz)) := Lib.hid (M_x063.out.ap O7 g7 n7)
                  clear O7 g7 n7 one7
                  have X0 := (M_x0637.out.x _ rfl).1.cell 0
                  have X1 := (M_x0637.out.x _ rfl).1.cell 1
                  have X2 := (M_x0637.out.x _ rfl).1.cell 2
                  have Y0 := (M_x0637.out.x _ rfl).1.frozen 0
                  have Y1 := (M_x0637.out.x _ rfl).1.frozen 1
                  have Y2 := (M_x0637.out.x _ rfl).1.frozen 2
                  simp only [List.getElem?_cons_zero, List.getElem?_cons_succ] at X0 X1 X2
                  obtain ⟨WF, eF, HF⟩ := M_x0637.out.fin (nv := (.slice B N.length cb)) (b := bb)
                  refine hK.out _ _ ?_ (fun hHeld => ?_)
                  · (try dsimp only)
                    exact KS.out _ M_x0637.out.b
                  clear hK K
                  (try simp only [Act.put, List.setIfInBounds_toArray, List.set_cons_zero, List.set_cons_succ])
                  refine wpAnyH_take (i := 12) (oi := { dst := some 41, op := Op.build 28 #[(0, Operand.tmp 36), (1, Operand.tmp 38), (2, Operand.tmp 40)], type := 28, pos := "law.go:125", after := #[{ on := 7, ground := Ground.data }, { on := 9, ground := Ground.data }, { on := 11, ground := Ground.data }], guard := none }) (v := ?_) rfl (by kernel_rfl) (by kernel_rfl) (by kernel_rfl) (fun _ _ _ h => h) (Or.inl ⟨by rfl, ?_⟩) (by assumption) ?_
                  rotate_left
                  · intro w hSw; (try dsimp only at hSw); go_simp <;> (with_reducible rfl)
                  (try simp only [Act.put, List.setIfInBounds_toArray, List.set_cons_zero, List.set_cons_succ])
                  refine wpAnyH_ready (rs := [14]) (by kernel_rfl) (by simp) ?_
                  refine AllReadyH.cons (o := { dst := none, op := Op.store 28 (Operand.tmp 9) (Operand.tmp 41), type := 0, pos := "law.go:125", after := #[{ on := 13, ground := Ground.data }, { on := 12, ground := Ground.data }, { on := 7, ground := Ground.chain }, { on := 0, ground := Ground.phase }, { on := 1, ground := Ground.phase }, { on := 2, ground := Ground.phase }, { on := 3, ground := Ground.phase }, { on := 4, ground := Ground.phase }, { on := 5, ground := Ground.phase }, { on := 6, ground := Ground.phase }, { on := 7, ground := Ground.phase }, { on := 8, ground := Ground.phase }, { on := 9, ground := Ground.phase }, { on := 10, ground := Ground.phase }, { on := 11, ground := Ground.phase }, { on := 12, ground := Ground.phase }, { on := 13, ground := Ground.phase }], guard := none }) rfl (fun K hK => ?_) ?_
                  · go_simp
                    refine hK.out _ _ ?_ (fun hHeld => ?_)
                    · (try dsimp only)
                      exact KS.out _ HF.out.2.2.1
                    clear hK K
                    (try simp only [Act.put, List.setIfInBounds_toArray, List.set_cons_zero, List.set_cons_succ])
                    refine wpAnyH_done (by kernel_rfl) ?_ _
                    refine NoPanic.normal ?_
                    clear hHeld
                    go_wp2_with fail
                    go_meet
                    exact ⟨_, _, _, _, rfl, HF.out⟩
                  exact AllReadyH.nil
                exact AllReadyH.nil
              exact AllReadyH.nil
            exact AllReadyH.nil
          refine AllReadyH.cons (o := { dst := some 35, op := Op.buildSlice 25 1 #[(0, Operand.tmp 34)], type := 25, pos := "law.go:125", after := #[{ on := 5, ground := Ground.data }], guard := none }) rfl (fun K hK => ?_) ?_
          · go_simp
            obtain ⟨W_x60, e_x60, M_x60⟩ : ∃ W', W_x6.alloc (.cells #[] 31) = W' ∧ Hid (Mo w3 W' (some (.slice (some ⟨W_x6.heap.size, 0, none⟩) 0 0, [])) (some W_x.heap.size) (some w3.heap.size) ([110, 111, 110, 101, 57, 57, 57, 57, 120], sz)) := M_x6.out.e0
            refine hK.out _ _ ?_ (fun hHeld => ?_)
            · (try dsimp only)
              exact KS.out _ M_x6.out.b
            clear hK K
            (try simp only [Act.put, List.setIfInBounds_toArray, List.set_cons_zero, List.set_cons_succ])
            refine wpAnyH_ready (rs := [0]) (by kernel_rfl) (by simp) ?_
            refine AllReadyH.cons (o := { dst := some 29, op := Op.buildSlice 25 0 #[], type := 25, pos := "law.go:125", after := #[], guard := none }) rfl (fun K hK => ?_) ?_
            · go_simp
              refine hK.out _ _ ?_ (fun hHeld => ?_)
              · (try dsimp only)
                exact KS.out _ M_x60.out.b
              clear hK K
              (try simp only [Act.put, List.setIfInBounds_toArray, List.set_cons_zero, List.set_cons_succ])
              refine wpAnyH_ready (rs := [3]) (by kernel_rfl) (by simp) ?_
              refine AllReadyH.cons (o := { dst := some 32, op := Op.call { callee := Callee.builtin Builtin.append, args := #[Operand.tmp 29, Operand.tmp 31], argTypes := #[25, 25] }, type := 25, pos := "law.go:125", after := #[{ on := 0, ground := Ground.data }, { on := 2, ground := Ground.data }], guard := none }) rfl (fun K hK => ?_) ?_
              · refine app_allO (.tmp 29) (.tmp 31) rfl (M_x60.out.e _ _ rfl) rfl (own_belowP T3D.out M_x60.out.b) rfl (by omega) M_x60.out.b.size ?_
                intro v3 W_x603 O3 g3 n3
                obtain ⟨A3, l3, k3, rfl⟩ : ∃ A n c, v3 = .slice A n c := by obtain ⟨A, c, e⟩ := own_form O3; exact ⟨A, _, c, e⟩
                have M_x603 : Hid (Mo w3 W_x603 (some (.slice A3 l3 k3, D)) (some W_x.heap.size) (some w3.heap.size) ([110, 111, 110, 101, 57, 57, 57, 57, 120], sz)) := Lib.hid (M_x60.out.ap O3 g3 n3)
                clear O3 g3 n3
                refine hK.out _ _ ?_ (fun hHeld => ?_)
                · (try dsimp only)
                  exact KS.out _ M_x603.out.b
                clear hK K
                (try simp only [Act.put, List.setIfInBounds_toArray, List.set_cons_zero, List.set_cons_succ])
                refine wpAnyH_ready (rs := [7]) (by kernel_rfl) (by simp) ?_
                refine AllReadyH.cons (o := { dst := some 36, op := Op.call { callee := Callee.builtin Builtin.append, args := #[Operand.tmp 32, Operand.tmp 35], argTypes := #[25, 25] }, type := 25, pos := "law.go:125", after := #[{ on := 3, ground := Ground.data }, { on := 6, ground := Ground.data }, { on := 3, ground := Ground.chain }], guard := none }) rfl (fun K hK => ?_) ?_
                · refine app_dcO (.tmp 32) (.tmp 35) rfl (M_x603.out.e _ _ rfl) rfl ([110, 111, 110, 101, 57, 57, 57, 57, 120], sz) W_x.heap.size rfl (M_x603.out.q _ rfl).1 (by omega) M_x603.out.b.size ?_
                  intro v7 W_x6037 O7 g7 n7 one7
                  obtain ⟨A7, l7, k7, rfl⟩ : ∃ A n c, v7 = .slice A n c := by obtain ⟨A, c, e⟩ := own_form O7; exact ⟨A, _, c, e⟩
                  have M_x6037 : Hid (Mo w3 W_x6037 (some (.slice A7 l7 k7, D ++ [([110, 111, 110, 101, 57, 57, 57, 57, 120], sz)])) (some W_x.heap.size) (some w3.heap.size) ([110, 111, 110, 101, 57, 57, 57, 57, 120], sz)) := Lib.hid (M_x603.out.ap O7 g7 n7)
                  clear O7 g7 n7 one7
                  have X0 := (M_x6037.out.x _ rfl).1.cell 0
                  have X1 := (M_x6037.out.x _ rfl).1.cell 1
                  have X2 := (M_x6037.out.x _ rfl).1.cell 2
                  have Y0 := (M_x6037.out.x _ rfl).1.frozen 0
                  have Y1 := (M_x6037.out.x _ rfl).1.frozen 1
                  have Y2 := (M_x6037.out.x _ rfl).1.frozen 2
                  simp only [List.getElem?_cons_zero, List.getElem?_cons_succ] at X0 X1 X2
                  obtain ⟨WF, eF, HF⟩ := M_x6037.out.fin (nv := (.slice B N.length cb)) (b := bb)
                  refine hK.out _ _ ?_ (fun hHeld => ?_)
                  · (try dsimp only)
                    exact KS.out _ M_x6037.out.b
                  clear hK K
                  (try simp only [Act.put, List.setIfInBounds_toArray, List.set_cons_zero, List.set_cons_succ])
                  refine wpAnyH_take (i := 12) (oi := { dst := some 41, op := Op.build 28 #[(0, Operand.tmp 36), (1, Operand.tmp 38), (2, Operand.tmp 40)], type := 28, pos := "law.go:125", after := #[{ on := 7, ground := Ground.data }, { on := 9, ground := Ground.data }, { on := 11, ground := Ground.data }], guard := none }) (v := ?_) rfl (by kernel_rfl) (by kernel_rfl) (by kernel_rfl) (fun _ _ _ h => h) (Or.inl ⟨by rfl, ?_⟩) (by assumption) ?_
                  rotate_left
                  · intro w hSw; (try dsimp only at hSw); go_simp <;> (with_reducible rfl)
                  (try simp only [Act.put, List.setIfInBounds_toArray, List.set_cons_zero, List.set_cons_succ])
                  refine wpAnyH_ready (rs := [14]) (by kernel_rfl) (by simp) ?_
                  refine AllReadyH.cons (o := { dst := none, op := Op.store 28 (Operand.tmp 9) (Operand.tmp 41), type := 0, pos := "law.go:125", after := #[{ on := 13, ground := Ground.data }, { on := 12, ground := Ground.data }, { on := 7, ground := Ground.chain }, { on := 0, ground := Ground.phase }, { on := 1, ground := Ground.phase }, { on := 2, ground := Ground.phase }, { on := 3, ground := Ground.phase }, { on := 4, ground := Ground.phase }, { on := 5, ground := Ground.phase }, { on := 6, ground := Ground.phase }, { on := 7, ground := Ground.phase }, { on := 8, ground := Ground.phase }, { on := 9, ground := Ground.phase }, { on := 10, ground := Ground.phase }, { on := 11, ground := Ground.phase }, { on := 12, ground := Ground.phase }, { on := 13, ground := Ground.phase }], guard := none }) rfl (fun K hK => ?_) ?_
                  · go_simp
                    refine hK.out _ _ ?_ (fun hHeld => ?_)
                    · (try dsimp only)
                      exact KS.out _ HF.out.2.2.1
                    clear hK K
                    (try simp only [Act.put, List.setIfInBounds_toArray, List.set_cons_zero, List.set_cons_succ])
                    refine wpAnyH_done (by kernel_rfl) ?_ _
                    refine NoPanic.normal ?_
                    clear hHeld
                    go_wp2_with fail
                    go_meet
                    exact ⟨_, _, _, _, rfl, HF.out⟩
                  exact AllReadyH.nil
                exact AllReadyH.nil
              exact AllReadyH.nil
            exact AllReadyH.nil
          exact AllReadyH.nil
        exact AllReadyH.nil
    obtain ⟨jx, Ax, lx, kx, rfl, hX⟩ := hcut
    generalize wc = w4 at *
    have HX := Lib.hid hX
    clear hX
    have T4D := Lib.hid (own_belowP T3D.out HX.out.2.2.1)
    have CA := Lib.hid (arrs_any (.slice A D.length ca) (.slice B N.length cb) bb D w4 T4D.out (by omega) hnm.out)
    have CV := Lib.hid (vars_any (.slice A D.length ca) (.slice B N.length cb) bb D w4 T4D.out (by omega) hnm.out)
    unfold treeV at CA CV
    have n0 := (H3.out.below HX.out.2.2.1).cell 0
    have n1 := (H3.out.below HX.out.2.2.1).cell 1
    have n2 := (H3.out.below HX.out.2.2.1).cell 2
    simp only [List.getElem?_cons_zero, List.getElem?_cons_succ] at n0 n1 n2
    have hda := arrs_le D
    have hdv := vars_le D
    go_upto_region 10 with fail
    go_cut [10] from 42 to 59 (fun s10 wx => s10 = .bool (fullB D arr) ∧ Below w4.heap.size w4 wx)
    case first =>
      cases arr with
      | true =>
        go_wp2_with fail
        refine CA.out.mono ?_; rintro e w5 ⟨v5, rfl, o5, b5⟩
        obtain ⟨A5, k5, rfl⟩ := own_form o5
        have B5 := Lib.hid b5
        clear o5 b5
        by_cases h4 : (arrsL D).length = 4
        · have hf : fullB D true = true := by unfold fullB; simp [h4]
          have h4i : ((arrsL D).length : Int) = 4 := by omega
          go_wp2_with fail
          go_meet
          exact ⟨by rw [hf], B5.out⟩
        · have hf : fullB D true = false := by unfold fullB; simp [h4]
          have h4i : decide (((arrsL D).length : Int) = 4) = false := decide_eq_false (by omega)
          go_wp2_with fail
          go_meet
          exact ⟨by rw [hf]; simp; omega, B5.out⟩
      | false =>
        go_wp2_with fail
        refine CV.out.mono ?_; rintro e w5 ⟨v5, rfl, o5, b5⟩
        obtain ⟨A5, k5, rfl⟩ := own_form o5
        have B5 := Lib.hid b5
        clear o5 b5
        by_cases h4 : (varsL D).length = 16
        · have hf : fullB D false = true := by unfold fullB; simp [h4]
          have h4i : ((varsL D).length : Int) = 16 := by omega
          go_wp2_with fail
          go_meet
          exact ⟨by rw [hf], B5.out⟩
        · have hf : fullB D false = false := by unfold fullB; simp [h4]
          have h4i : decide (((varsL D).length : Int) = 16) = false := decide_eq_false (by omega)
          go_wp2_with fail
          go_meet
          exact ⟨by rw [hf]; simp; omega, B5.out⟩
    obtain ⟨rfl, hbc⟩ := hcut
    generalize wc = w6 at *
    have B46 := Lib.hid hbc
    clear hbc CA CV n0 n1 n2
    have B36 := Lib.hid (HX.out.2.2.1.trans (B46.out.mono HX.out.2.2.1.size))
    have H6 := Lib.hid (H3.out.below B36.out)
    have X6 := Lib.hid (HX.out.1.below B46.out)
    have T6X := Lib.hid (own_0 (own_belowP HX.out.2.1 B46.out))
    have T6 := Lib.hid (T3.out.below B36.out)
    have n0 := X6.out.cell 0
    have n1 := H6.out.cell 1
    have n2 := H6.out.cell 2
    simp only [List.getElem?_cons_zero, List.getElem?_cons_succ] at n0 n1 n2
    go_upto_region 11 with fail
    go_cut [11] from 59 to 71 (fun s11 wx => ∃ (jy : Nat) (Ay : Option Addr) (ly ky : Nat), s11 = .pointer (some ⟨jy, 0, none⟩) ∧ (HasB wx jy 28 [.slice Ay ly ky, .slice B N.length cb, .int .i64 bb] ∧ DcO wx w6.heap.size (.slice Ay ly ky) (D ++ [([110, 111, 110, 101, 57, 57, 57, 57, 120], sz)] ++ [([110, 111, 110, 101, 57, 57, 57, 57, 120], -1)]) ∧ Below w6.heap.size w6 wx ∧ w6.heap.size ≤ jy))
    case first =>
        have KS := Lib.hid (fun (w' : World) (k : Below w6.heap.size w6 w') => (show (fun w' => w'.cell? ⟨jx, 0, none⟩ = some (.slice Ax lx kx) ∧ w'.cell? ⟨w2.heap.size, 1, none⟩ = some (.slice B N.length cb) ∧ w'.cell? ⟨w2.heap.size, 2, none⟩ = some (.int .i64 bb)) w' from ⟨(X6.out.below k).cell 0, (H6.out.below k).cell 1, (H6.out.below k).cell 2⟩))
        have M_ := Lib.hid (Mo.start w6 ([110, 111, 110, 101, 57, 57, 57, 57, 120], -1))
        obtain ⟨W_0, e_0, M_0⟩ : ∃ W', w6.drew.alloc (.cells #[] 31) = W' ∧ Hid (Mo w6 W' (some (.slice (some ⟨w6.heap.size, 0, none⟩) 0 0, [])) none none ([110, 111, 110, 101, 57, 57, 57, 57, 120], -1)) := M_.out.e0
        obtain ⟨W_6, e_6, M_6⟩ : ∃ W', w6.drew.alloc (.cells #[.string ⟨#[110, 111, 110, 101, 57, 57, 57, 57, 120]⟩, .int .i64 (-1)] 31) = W' ∧ Hid (Mo w6 W' none (some w6.heap.size) none ([110, 111, 110, 101, 57, 57, 57, 57, 120], -1)) := M_.out.q0
        obtain ⟨W_x, e_x, M_x⟩ : ∃ W', w6.drew.alloc (.cells #[.slice none 0 0, .slice none 0 0, .int .i64 0] 28) = W' ∧ Hid (Mo w6 W' none none (some w6.heap.size) ([110, 111, 110, 101, 57, 57, 57, 57, 120], -1)) := M_.out.x0
        refine wp_region_noPanic ?_
        refine wp_region_held_drew (S := (fun w' => w'.cell? ⟨jx, 0, none⟩ = some (.slice Ax lx kx) ∧ w'.cell? ⟨w2.heap.size, 1, none⟩ = some (.slice B N.length cb) ∧ w'.cell? ⟨w2.heap.size, 2, none⟩ = some (.int .i64 bb))) (by kernel_rfl) ?_ (fun hHeld => ?_)
        · (try dsimp only)
          exact KS.out _ M_.out.b
        refine wpAnyH_take (i := 1) (oi := { dst := some 60, op := Op.fieldAddr 28 (Operand.tmp 9) 0, type := 0, pos := "law.go:127", after := #[], guard := none }) (v := ?_) rfl (by kernel_rfl) (by kernel_rfl) (by kernel_rfl) (fun _ _ _ h => h) (Or.inl ⟨by rfl, ?_⟩) (by assumption) ?_
        rotate_left
        · intro w hSw; (try dsimp only at hSw); go_simp <;> (with_reducible rfl)
        (try simp only [Act.put, List.setIfInBounds_toArray, List.set_cons_zero, List.set_cons_succ])
        refine wpAnyH_take (i := 2) (oi := { dst := some 61, op := Op.load 25 (Operand.tmp 60), type := 25, pos := "law.go:127", after := #[{ on := 1, ground := Ground.data }], guard := none }) (v := ?_) rfl (by kernel_rfl) (by kernel_rfl) (by kernel_rfl) (fun _ _ _ h => h) (Or.inl ⟨by rfl, ?_⟩) (by assumption) ?_
        rotate_left
        · intro w hSw; (try dsimp only at hSw); go_simp <;> (with_reducible rfl)
        (try simp only [Act.put, List.setIfInBounds_toArray, List.set_cons_zero, List.set_cons_succ])
        refine wpAnyH_take (i := 4) (oi := { dst := some 63, op := Op.build 31 #[(0, Operand.const (Value.string { data := #[110, 111, 110, 101, 57, 57, 57, 57, 120] })), (1, Operand.const (Value.int IntKind.i64 (-1)))], type := 31, pos := "law.go:127", after := #[], guard := none }) (v := ?_) rfl (by kernel_rfl) (by kernel_rfl) (by kernel_rfl) (fun _ _ _ h => h) (Or.inl ⟨by rfl, ?_⟩) (by assumption) ?_
        rotate_left
        · intro w hSw; (try dsimp only at hSw); go_simp <;> (with_reducible rfl)
        (try simp only [Act.put, List.setIfInBounds_toArray, List.set_cons_zero, List.set_cons_succ])
        refine wpAnyH_take (i := 7) (oi := { dst := some 66, op := Op.fieldAddr 28 (Operand.tmp 5) 1, type := 0, pos := "law.go:127", after := #[], guard := none }) (v := ?_) rfl (by kernel_rfl) (by kernel_rfl) (by kernel_rfl) (fun _ _ _ h => h) (Or.inl ⟨by rfl, ?_⟩) (by assumption) ?_
        rotate_left
        · intro w hSw; (try dsimp only at hSw); go_simp <;> (with_reducible rfl)
        (try simp only [Act.put, List.setIfInBounds_toArray, List.set_cons_zero, List.set_cons_succ])
        refine wpAnyH_take (i := 8) (oi := { dst := some 67, op := Op.load 26 (Operand.tmp 66), type := 26, pos := "law.go:127", after := #[{ on := 7, ground := Ground.data }], guard := none }) (v := ?_) rfl (by kernel_rfl) (by kernel_rfl) (by kernel_rfl) (fun _ _ _ h => h) (Or.inl ⟨by rfl, ?_⟩) (by assumption) ?_
        rotate_left
        · intro w hSw; (try dsimp only at hSw); go_simp <;> (with_reducible rfl)
        (try simp only [Act.put, List.setIfInBounds_toArray, List.set_cons_zero, List.set_cons_succ])
        refine wpAnyH_take (i := 9) (oi := { dst := some 68, op := Op.fieldAddr 28 (Operand.tmp 5) 2, type := 0, pos := "law.go:127", after := #[], guard := none }) (v := ?_) rfl (by kernel_rfl) (by kernel_rfl) (by kernel_rfl) (fun _ _ _ h => h) (Or.inl ⟨by rfl, ?_⟩) (by assumption) ?_
        rotate_left
        · intro w hSw; (try dsimp only at hSw); go_simp <;> (with_reducible rfl)
        (try simp only [Act.put, List.setIfInBounds_toArray, List.set_cons_zero, List.set_cons_succ])
        refine wpAnyH_take (i := 10) (oi := { dst := some 69, op := Op.load 3 (Operand.tmp 68), type := 3, pos := "law.go:127", after := #[{ on := 9, ground := Ground.data }], guard := none }) (v := ?_) rfl (by kernel_rfl) (by kernel_rfl) (by kernel_rfl) (fun _ _ _ h => h) (Or.inl ⟨by rfl, ?_⟩) (by assumption) ?_
        rotate_left
        · intro w hSw; (try dsimp only at hSw); go_simp <;> (with_reducible rfl)
        (try simp only [Act.put, List.setIfInBounds_toArray, List.set_cons_zero, List.set_cons_succ])
        refine wpAnyH_ready (rs := [0, 5, 12]) (by kernel_rfl) (by simp) ?_
        refine AllReadyH.cons (o := { dst := some 59, op := Op.buildSlice 25 0 #[], type := 25, pos := "law.go:127", after := #[], guard := none }) rfl (fun K hK => ?_) ?_
        · go_simp
          obtain ⟨W_06, e_06, M_06⟩ : ∃ W', W_0.alloc (.cells #[.string ⟨#[110, 111, 110, 101, 57, 57, 57, 57, 120]⟩, .int .i64 (-1)] 31) = W' ∧ Hid (Mo w6 W' (some (.slice (some ⟨w6.heap.size, 0, none⟩) 0 0, [])) (some W_0.heap.size) none ([110, 111, 110, 101, 57, 57, 57, 57, 120], -1)) := M_0.out.q0
          obtain ⟨W_0x, e_0x, M_0x⟩ : ∃ W', W_0.alloc (.cells #[.slice none 0 0, .slice none 0 0, .int .i64 0] 28) = W' ∧ Hid (Mo w6 W' (some (.slice (some ⟨w6.heap.size, 0, none⟩) 0 0, [])) none (some W_0.heap.size) ([110, 111, 110, 101, 57, 57, 57, 57, 120], -1)) := M_0.out.x0
          refine hK.out _ _ ?_ (fun hHeld => ?_)
          · (try dsimp only)
            exact KS.out _ M_0.out.b
          clear hK K
          (try simp only [Act.put, List.setIfInBounds_toArray, List.set_cons_zero, List.set_cons_succ])
          refine wpAnyH_ready (rs := [3, 5, 12]) (by kernel_rfl) (by simp) ?_
          refine AllReadyH.cons (o := { dst := some 62, op := Op.call { callee := Callee.builtin Builtin.append, args := #[Operand.tmp 59, Operand.tmp 61], argTypes := #[25, 25] }, type := 25, pos := "law.go:127", after := #[{ on := 0, ground := Ground.data }, { on := 2, ground := Ground.data }], guard := none }) rfl (fun K hK => ?_) ?_
          · refine app_allO (.tmp 59) (.tmp 61) rfl (M_0.out.e _ _ rfl) rfl (own_belowP T6X.out M_0.out.b) rfl (by rw [List.length_append]; simp; omega) M_0.out.b.size ?_
            intro v3 W_03 O3 g3 n3
            obtain ⟨A3, l3, k3, rfl⟩ : ∃ A n c, v3 = .slice A n c := by obtain ⟨A, c, e⟩ := own_form O3; exact ⟨A, _, c, e⟩
            have M_03 : Hid (Mo w6 W_03 (some (.slice A3 l3 k3, (D ++ [([110, 111, 110, 101, 57, 57, 57, 57, 120], sz)]))) none none ([110, 111, 110, 101, 57, 57, 57, 57, 120], -1)) := Lib.hid (M_0.out.ap O3 g3 n3)
            clear O3 g3 n3
            obtain ⟨W_036, e_036, M_036⟩ : ∃ W', W_03.alloc (.cells #[.string ⟨#[110, 111, 110, 101, 57, 57, 57, 57, 120]⟩, .int .i64 (-1)] 31) = W' ∧ Hid (Mo w6 W' (some (.slice A3 l3 k3, (D ++ [([110, 111, 110, 101, 57, 57, 57, 57, 120], sz)]))) (some W_03.heap.size) none ([110, 111, 110, 101, 57, 57, 57, 57, 120], -1)) := M_03.out.q0
            obtain ⟨W_03x, e_03x, M_03x⟩ : ∃ W', W_03.alloc (.cells #[.slice none 0 0, .slice none 0 0, .int .i64 0] 28) = W' ∧ Hid (Mo w6 W' (some (.slice A3 l3 k3, (D ++ [([110, 111, 110, 101, 57, 57, 57, 57, 120], sz)]))) none (some W_03.heap.size) ([110, 111, 110, 101, 57, 57, 57, 57, 120], -1)) := M_03.out.x0
            refine hK.out _ _ ?_ (fun hHeld => ?_)
            · (try dsimp only)
              exact KS.out _ M_03.out.b
            clear hK K
            (try simp only [Act.put, List.setIfInBounds_toArray, List.set_cons_zero, List.set_cons_succ])
            refine wpAnyH_ready (rs := [5, 12]) (by kernel_rfl) (by simp) ?_
            refine AllReadyH.cons (o := { dst := some 64, op := Op.buildSlice 25 1 #[(0, Operand.tmp 63)], type := 25, pos := "law.go:127", after := #[{ on := 4, ground := Ground.data }], guard := none }) rfl (fun K hK => ?_) ?_
            · go_simp
              obtain ⟨W_036x, e_036x, M_036x⟩ : ∃ W', W_036.alloc (.cells #[.slice none 0 0, .slice none 0 0, .int .i64 0] 28) = W' ∧ Hid (Mo w6 W' (some (.slice A3 l3 k3, (D ++ [([110, 111, 110, 101, 57, 57, 57, 57, 120], sz)]))) (some W_03.heap.size) (some W_036.heap.size) ([110, 111, 110, 101, 57, 57, 57, 57, 120], -1)) := M_036.out.x0
              refine hK.out _ _ ?_ (fun hHeld => ?_)
              · (try dsimp only)
                exact KS.out _ M_036.out.b
              clear hK K
              (try simp only [Act.put, List.setIfInBounds_toArray, List.set_cons_zero, List.set_cons_succ])
              refine wpAnyH_ready (rs := [6, 12]) (by kernel_rfl) (by simp) ?_
              refine AllReadyH.cons (o := { dst := some 65, op := Op.call { callee := Callee.builtin Builtin.append, args := #[Operand.tmp 62, Operand.tmp 64], argTypes := #[25, 25] }, type := 25, pos := "law.go:127", after := #[{ on := 3, ground := Ground.data }, { on := 5, ground := Ground.data }, { on := 3, ground := Ground.chain }], guard := none }) rfl (fun K hK => ?_) ?_
              · refine app_dcO (.tmp 62) (.tmp 64) rfl (M_036.out.e _ _ rfl) rfl ([110, 111, 110, 101, 57, 57, 57, 57, 120], -1) W_03.heap.size rfl (M_036.out.q _ rfl).1 (by rw [List.length_append]; simp; omega) M_036.out.b.size ?_
                intro v7 W_0367 O7 g7 n7 one7
                obtain ⟨A7, l7, k7, rfl⟩ : ∃ A n c, v7 = .slice A n c := by obtain ⟨A, c, e⟩ := own_form O7; exact ⟨A, _, c, e⟩
                have M_0367 : Hid (Mo w6 W_0367 (some (.slice A7 l7 k7, (D ++ [([110, 111, 110, 101, 57, 57, 57, 57, 120], sz)]) ++ [([110, 111, 110, 101, 57, 57, 57, 57, 120], -1)])) (some W_03.heap.size) none ([110, 111, 110, 101, 57, 57, 57, 57, 120], -1)) := Lib.hid (M_036.out.ap O7 g7 n7)
                clear O7 g7 n7 one7
                obtain ⟨W_0367x, e_0367x, M_0367x⟩ : ∃ W', W_0367.alloc (.cells #[.slice none 0 0, .slice none 0 0, .int .i64 0] 28) = W' ∧ Hid (Mo w6 W' (some (.slice A7 l7 k7, (D ++ [([110, 111, 110, 101, 57, 57, 57, 57, 120], sz)]) ++ [([110, 111, 110, 101, 57, 57, 57, 57, 120], -1)])) (some W_03.heap.size) (some W_0367.heap.size) ([110, 111, 110, 101, 57, 57, 57, 57, 120], -1)) := M_0367.out.x0
                refine hK.out _ _ ?_ (fun hHeld => ?_)
                · (try dsimp only)
                  exact KS.out _ M_0367.out.b
                clear hK K
                (try simp only [Act.put, List.setIfInBounds_toArray, List.set_cons_zero, List.set_cons_succ])
                refine wpAnyH_take (i := 11) (oi := { dst := some 70, op := Op.build 28 #[(0, Operand.tmp 65), (1, Operand.tmp 67), (2, Operand.tmp 69)], type := 28, pos := "law.go:127", after := #[{ on := 6, ground := Ground.data }, { on := 8, ground := Ground.data }, { on := 10, ground := Ground.data }], guard := none }) (v := ?_) rfl (by kernel_rfl) (by kernel_rfl) (by kernel_rfl) (fun _ _ _ h => h) (Or.inl ⟨by rfl, ?_⟩) (by assumption) ?_
                rotate_left
                · intro w hSw; (try dsimp only at hSw); go_simp <;> (with_reducible rfl)
                (try simp only [Act.put, List.setIfInBounds_toArray, List.set_cons_zero, List.set_cons_succ])
                refine wpAnyH_ready (rs := [12]) (by kernel_rfl) (by simp) ?_
                refine AllReadyH.cons (o := { dst := some 11, op := Op.alloc 28, type := 0, pos := "law.go:127", after := #[], guard := none }) rfl (fun K hK => ?_) ?_
                · go_simp
                  have X0 := (M_0367x.out.x _ rfl).1.cell 0
                  have X1 := (M_0367x.out.x _ rfl).1.cell 1
                  have X2 := (M_0367x.out.x _ rfl).1.cell 2
                  have Y0 := (M_0367x.out.x _ rfl).1.frozen 0
                  have Y1 := (M_0367x.out.x _ rfl).1.frozen 1
                  have Y2 := (M_0367x.out.x _ rfl).1.frozen 2
                  simp only [List.getElem?_cons_zero, List.getElem?_cons_succ] at X0 X1 X2
                  obtain ⟨WF, eF, HF⟩ := M_0367x.out.fin (nv := (.slice B N.length cb)) (b := bb)
                  refine hK.out _ _ ?_ (fun hHeld => ?_)
                  · (try dsimp only)
                    exact KS.out _ M_0367x.out.b
                  clear hK K
                  (try simp only [Act.put, List.setIfInBounds_toArray, List.set_cons_zero, List.set_cons_succ])
                  refine wpAnyH_ready (rs := [13]) (by kernel_rfl) (by simp) ?_
                  refine AllReadyH.cons (o := { dst := none, op := Op.store 28 (Operand.tmp 11) (Operand.tmp 70), type := 0, pos := "law.go:127", after := #[{ on := 12, ground := Ground.data }, { on := 11, ground := Ground.data }, { on := 6, ground := Ground.chain }, { on := 0, ground := Ground.phase }, { on := 1, ground := Ground.phase }, { on := 2, ground := Ground.phase }, { on := 3, ground := Ground.phase }, { on := 4, ground := Ground.phase }, { on := 5, ground := Ground.phase }, { on := 6, ground := Ground.phase }, { on := 7, ground := Ground.phase }, { on := 8, ground := Ground.phase }, { on := 9, ground := Ground.phase }, { on := 10, ground := Ground.phase }, { on := 11, ground := Ground.phase }, { on := 12, ground := Ground.phase }], guard := none }) rfl (fun K hK => ?_) ?_
                  · go_simp
                    refine hK.out _ _ ?_ (fun hHeld => ?_)
                    · (try dsimp only)
                      exact KS.out _ HF.out.2.2.1
                    clear hK K
                    (try simp only [Act.put, List.setIfInBounds_toArray, List.set_cons_zero, List.set_cons_succ])
                    refine wpAnyH_done (by kernel_rfl) ?_ _
                    refine NoPanic.normal ?_
                    clear hHeld
                    go_wp2_with fail
                    go_meet
                    exact ⟨_, _, _, _, rfl, HF.out⟩
                  exact AllReadyH.nil
                exact AllReadyH.nil
              refine AllReadyH.cons (o := { dst := some 11, op := Op.alloc 28, type := 0, pos := "law.go:127", after := #[], guard := none }) rfl (fun K hK => ?_) ?_
              · go_simp
                refine hK.out _ _ ?_ (fun hHeld => ?_)
                · (try dsimp only)
                  exact KS.out _ M_036x.out.b
                clear hK K
                (try simp only [Act.put, List.setIfInBounds_toArray, List.set_cons_zero, List.set_cons_succ])
                refine wpAnyH_ready (rs := [6]) (by kernel_rfl) (by simp) ?_
                refine AllReadyH.cons (o := { dst := some 65, op := Op.call { callee := Callee.builtin Builtin.append, args := #[Operand.tmp 62, Operand.tmp 64], argTypes := #[25, 25] }, type := 25, pos := "law.go:127", after := #[{ on := 3, ground := Ground.data }, { on := 5, ground := Ground.data }, { on := 3, ground := Ground.chain }], guard := none }) rfl (fun K hK => ?_) ?_
                · refine app_dcO (.tmp 62) (.tmp 64) rfl (M_036x.out.e _ _ rfl) rfl ([110, 111, 110, 101, 57, 57, 57, 57, 120], -1) W_03.heap.size rfl (M_036x.out.q _ rfl).1 (by rw [List.length_append]; simp; omega) M_036x.out.b.size ?_
                  intro v7 W_036x7 O7 g7 n7 one7
                  obtain ⟨A7, l7, k7, rfl⟩ : ∃ A n c, v7 = .slice A n c := by obtain ⟨A, c, e⟩ := own_form O7; exact ⟨A, _, c, e⟩
                  have M_036x7 : Hid (Mo w6 W_036x7 (some (.slice A7 l7 k7, (D ++ [([110, 111, 110, 101, 57, 57, 57, 57, 120], sz)]) ++ [([110, 111, 110, 101, 57, 57, 57, 57, 120], -1)])) (some W_03.heap.size) (some W_036.heap.size) ([110, 111, 110, 101, 57, 57, 57, 57, 120], -1)) := Lib.hid (M_036x.out.ap O7 g7 n7)
                  clear O7 g7 n7 one7
                  have X0 := (M_036x7.out.x _ rfl).1.cell 0
                  have X1 := (M_036x7.out.x _ rfl).1.cell 1
                  have X2 := (M_036x7.out.x _ rfl).1.cell 2
                  have Y0 := (M_036x7.out.x _ rfl).1.frozen 0
                  have Y1 := (M_036x7.out.x _ rfl).1.frozen 1
                  have Y2 := (M_036x7.out.x _ rfl).1.frozen 2
                  simp only [List.getElem?_cons_zero, List.getElem?_cons_succ] at X0 X1 X2
                  obtain ⟨WF, eF, HF⟩ := M_036x7.out.fin (nv := (.slice B N.length cb)) (b := bb)
                  refine hK.out _ _ ?_ (fun hHeld => ?_)
                  · (try dsimp only)
                    exact KS.out _ M_036x7.out.b
                  clear hK K
                  (try simp only [Act.put, List.setIfInBounds_toArray, List.set_cons_zero, List.set_cons_succ])
                  refine wpAnyH_take (i := 11) (oi := { dst := some 70, op := Op.build 28 #[(0, Operand.tmp 65), (1, Operand.tmp 67), (2, Operand.tmp 69)], type := 28, pos := "law.go:127", after := #[{ on := 6, ground := Ground.data }, { on := 8, ground := Ground.data }, { on := 10, ground := Ground.data }], guard := none }) (v := ?_) rfl (by kernel_rfl) (by kernel_rfl) (by kernel_rfl) (fun _ _ _ h => h) (Or.inl ⟨by rfl, ?_⟩) (by assumption) ?_
                  rotate_left
                  · intro w hSw; (try dsimp only at hSw); go_simp <;> (with_reducible rfl)
                  (try simp only [Act.put, List.setIfInBounds_toArray, List.set_cons_zero, List.set_cons_succ])
                  refine wpAnyH_ready (rs := [13]) (by kernel_rfl) (by simp) ?_
                  refine AllReadyH.cons (o := { dst := none, op := Op.store 28 (Operand.tmp 11) (Operand.tmp 70), type := 0, pos := "law.go:127", after := #[{ on := 12, ground := Ground.data }, { on := 11, ground := Ground.data }, { on := 6, ground := Ground.chain }, { on := 0, ground := Ground.phase }, { on := 1, ground := Ground.phase }, { on := 2, ground := Ground.phase }, { on := 3, ground := Ground.phase }, { on := 4, ground := Ground.phase }, { on := 5, ground := Ground.phase }, { on := 6, ground := Ground.phase }, { on := 7, ground := Ground.phase }, { on := 8, ground := Ground.phase }, { on := 9, ground := Ground.phase }, { on := 10, ground := Ground.phase }, { on := 11, ground := Ground.phase }, { on := 12, ground := Ground.phase }], guard := none }) rfl (fun K hK => ?_) ?_
                  · go_simp
                    refine hK.out _ _ ?_ (fun hHeld => ?_)
                    · (try dsimp only)
                      exact KS.out _ HF.out.2.2.1
                    clear hK K
                    (try simp only [Act.put, List.setIfInBounds_toArray, List.set_cons_zero, List.set_cons_succ])
                    refine wpAnyH_done (by kernel_rfl) ?_ _
                    refine NoPanic.normal ?_
                    clear hHeld
                    go_wp2_with fail
                    go_meet
                    exact ⟨_, _, _, _, rfl, HF.out⟩
                  exact AllReadyH.nil
                exact AllReadyH.nil
              exact AllReadyH.nil
            refine AllReadyH.cons (o := { dst := some 11, op := Op.alloc 28, type := 0, pos := "law.go:127", after := #[], guard := none }) rfl (fun K hK => ?_) ?_
            · go_simp
              obtain ⟨W_03x6, e_03x6, M_03x6⟩ : ∃ W', W_03x.alloc (.cells #[.string ⟨#[110, 111, 110, 101, 57, 57, 57, 57, 120]⟩, .int .i64 (-1)] 31) = W' ∧ Hid (Mo w6 W' (some (.slice A3 l3 k3, (D ++ [([110, 111, 110, 101, 57, 57, 57, 57, 120], sz)]))) (some W_03x.heap.size) (some W_03.heap.size) ([110, 111, 110, 101, 57, 57, 57, 57, 120], -1)) := M_03x.out.q0
              refine hK.out _ _ ?_ (fun hHeld => ?_)
              · (try dsimp only)
                exact KS.out _ M_03x.out.b
              clear hK K
              (try simp only [Act.put, List.setIfInBounds_toArray, List.set_cons_zero, List.set_cons_succ])
              refine wpAnyH_ready (rs := [5]) (by kernel_rfl) (by simp) ?_
              refine AllReadyH.cons (o := { dst := some 64, op := Op.buildSlice 25 1 #[(0, Operand.tmp 63)], type := 25, pos := "law.go:127", after := #[{ on := 4, ground := Ground.data }], guard := none }) rfl (fun K hK => ?_) ?_
              · go_simp
                refine hK.out _ _ ?_ (fun hHeld => ?_)
                · (try dsimp only)
                  exact KS.out _ M_03x6.out.b
                clear hK K
                (try simp only [Act.put, List.setIfInBounds_toArray, List.set_cons_zero, List.set_cons_succ])
                refine wpAnyH_ready (rs := [6]) (by kernel_rfl) (by simp) ?_
                refine AllReadyH.cons (o := { dst := some 65, op := Op.call { callee := Callee.builtin Builtin.append, args := #[Operand.tmp 62, Operand.tmp 64], argTypes := #[25, 25] }, type := 25, pos := "law.go:127", after := #[{ on := 3, ground := Ground.data }, { on := 5, ground := Ground.data }, { on := 3, ground := Ground.chain }], guard := none }) rfl (fun K hK => ?_) ?_
                · refine app_dcO (.tmp 62) (.tmp 64) rfl (M_03x6.out.e _ _ rfl) rfl ([110, 111, 110, 101, 57, 57, 57, 57, 120], -1) W_03x.heap.size rfl (M_03x6.out.q _ rfl).1 (by rw [List.length_append]; simp; omega) M_03x6.out.b.size ?_
                  intro v7 W_03x67 O7 g7 n7 one7
                  obtain ⟨A7, l7, k7, rfl⟩ : ∃ A n c, v7 = .slice A n c := by obtain ⟨A, c, e⟩ := own_form O7; exact ⟨A, _, c, e⟩
                  have M_03x67 : Hid (Mo w6 W_03x67 (some (.slice A7 l7 k7, (D ++ [([110, 111, 110, 101, 57, 57, 57, 57, 120], sz)]) ++ [([110, 111, 110, 101, 57, 57, 57, 57, 120], -1)])) (some W_03x.heap.size) (some W_03.heap.size) ([110, 111, 110, 101, 57, 57, 57, 57, 120], -1)) := Lib.hid (M_03x6.out.ap O7 g7 n7)
                  clear O7 g7 n7 one7
                  have X0 := (M_03x67.out.x _ rfl).1.cell 0
                  have X1 := (M_03x67.out.x _ rfl).1.cell 1
                  have X2 := (M_03x67.out.x _ rfl).1.cell 2
                  have Y0 := (M_03x67.out.x _ rfl).1.frozen 0
                  have Y1 := (M_03x67.out.x _ rfl).1.frozen 1
                  have Y2 := (M_03x67.out.x _ rfl).1.frozen 2
                  simp only [List.getElem?_cons_zero, List.getElem?_cons_succ] at X0 X1 X2
                  obtain ⟨WF, eF, HF⟩ := M_03x67.out.fin (nv := (.slice B N.length cb)) (b := bb)
                  refine hK.out _ _ ?_ (fun hHeld => ?_)
                  · (try dsimp only)
                    exact KS.out _ M_03x67.out.b
                  clear hK K
                  (try simp only [Act.put, List.setIfInBounds_toArray, List.set_cons_zero, List.set_cons_succ])
                  refine wpAnyH_take (i := 11) (oi := { dst := some 70, op := Op.build 28 #[(0, Operand.tmp 65), (1, Operand.tmp 67), (2, Operand.tmp 69)], type := 28, pos := "law.go:127", after := #[{ on := 6, ground := Ground.data }, { on := 8, ground := Ground.data }, { on := 10, ground := Ground.data }], guard := none }) (v := ?_) rfl (by kernel_rfl) (by kernel_rfl) (by kernel_rfl) (fun _ _ _ h => h) (Or.inl ⟨by rfl, ?_⟩) (by assumption) ?_
                  rotate_left
                  · intro w hSw; (try dsimp only at hSw); go_simp <;> (with_reducible rfl)
                  (try simp only [Act.put, List.setIfInBounds_toArray, List.set_cons_zero, List.set_cons_succ])
                  refine wpAnyH_ready (rs := [13]) (by kernel_rfl) (by simp) ?_
                  refine AllReadyH.cons (o := { dst := none, op := Op.store 28 (Operand.tmp 11) (Operand.tmp 70), type := 0, pos := "law.go:127", after := #[{ on := 12, ground := Ground.data }, { on := 11, ground := Ground.data }, { on := 6, ground := Ground.chain }, { on := 0, ground := Ground.phase }, { on := 1, ground := Ground.phase }, { on := 2, ground := Ground.phase }, { on := 3, ground := Ground.phase }, { on := 4, ground := Ground.phase }, { on := 5, ground := Ground.phase }, { on := 6, ground := Ground.phase }, { on := 7, ground := Ground.phase }, { on := 8, ground := Ground.phase }, { on := 9, ground := Ground.phase }, { on := 10, ground := Ground.phase }, { on := 11, ground := Ground.phase }, { on := 12, ground := Ground.phase }], guard := none }) rfl (fun K hK => ?_) ?_
                  · go_simp
                    refine hK.out _ _ ?_ (fun hHeld => ?_)
                    · (try dsimp only)
                      exact KS.out _ HF.out.2.2.1
                    clear hK K
                    (try simp only [Act.put, List.setIfInBounds_toArray, List.set_cons_zero, List.set_cons_succ])
                    refine wpAnyH_done (by kernel_rfl) ?_ _
                    refine NoPanic.normal ?_
                    clear hHeld
                    go_wp2_with fail
                    go_meet
                    exact ⟨_, _, _, _, rfl, HF.out⟩
                  exact AllReadyH.nil
                exact AllReadyH.nil
              exact AllReadyH.nil
            exact AllReadyH.nil
          refine AllReadyH.cons (o := { dst := some 64, op := Op.buildSlice 25 1 #[(0, Operand.tmp 63)], type := 25, pos := "law.go:127", after := #[{ on := 4, ground := Ground.data }], guard := none }) rfl (fun K hK => ?_) ?_
          · go_simp
            obtain ⟨W_06x, e_06x, M_06x⟩ : ∃ W', W_06.alloc (.cells #[.slice none 0 0, .slice none 0 0, .int .i64 0] 28) = W' ∧ Hid (Mo w6 W' (some (.slice (some ⟨w6.heap.size, 0, none⟩) 0 0, [])) (some W_0.heap.size) (some W_06.heap.size) ([110, 111, 110, 101, 57, 57, 57, 57, 120], -1)) := M_06.out.x0
            refine hK.out _ _ ?_ (fun hHeld => ?_)
            · (try dsimp only)
              exact KS.out _ M_06.out.b
            clear hK K
            (try simp only [Act.put, List.setIfInBounds_toArray, List.set_cons_zero, List.set_cons_succ])
            refine wpAnyH_ready (rs := [3, 12]) (by kernel_rfl) (by simp) ?_
            refine AllReadyH.cons (o := { dst := some 62, op := Op.call { callee := Callee.builtin Builtin.append, args := #[Operand.tmp 59, Operand.tmp 61], argTypes := #[25, 25] }, type := 25, pos := "law.go:127", after := #[{ on := 0, ground := Ground.data }, { on := 2, ground := Ground.data }], guard := none }) rfl (fun K hK => ?_) ?_
            · refine app_allO (.tmp 59) (.tmp 61) rfl (M_06.out.e _ _ rfl) rfl (own_belowP T6X.out M_06.out.b) rfl (by rw [List.length_append]; simp; omega) M_06.out.b.size ?_
              intro v3 W_063 O3 g3 n3
              obtain ⟨A3, l3, k3, rfl⟩ : ∃ A n c, v3 = .slice A n c := by obtain ⟨A, c, e⟩ := own_form O3; exact ⟨A, _, c, e⟩
              have M_063 : Hid (Mo w6 W_063 (some (.slice A3 l3 k3, (D ++ [([110, 111, 110, 101, 57, 57, 57, 57, 120], sz)]))) (some W_0.heap.size) none ([110, 111, 110, 101, 57, 57, 57, 57, 120], -1)) := Lib.hid (M_06.out.ap O3 g3 n3)
              clear O3 g3 n3
              obtain ⟨W_063x, e_063x, M_063x⟩ : ∃ W', W_063.alloc (.cells #[.slice none 0 0, .slice none 0 0, .int .i64 0] 28) = W' ∧ Hid (Mo w6 W' (some (.slice A3 l3 k3, (D ++ [([110, 111, 110, 101, 57, 57, 57, 57, 120], sz)]))) (some W_0.heap.size) (some W_063.heap.size) ([110, 111, 110, 101, 57, 57, 57, 57, 120], -1)) := M_063.out.x0
              refine hK.out _ _ ?_ (fun hHeld => ?_)
              · (try dsimp only)
                exact KS.out _ M_063.out.b
              clear hK K
              (try simp only [Act.put, List.setIfInBounds_toArray, List.set_cons_zero, List.set_cons_succ])
              refine wpAnyH_ready (rs := [6, 12]) (by kernel_rfl) (by simp) ?_
              refine AllReadyH.cons (o := { dst := some 65, op := Op.call { callee := Callee.builtin Builtin.append, args := #[Operand.tmp 62, Operand.tmp 64], argTypes := #[25, 25] }, type := 25, pos := "law.go:127", after := #[{ on := 3, ground := Ground.data }, { on := 5, ground := Ground.data }, { on := 3, ground := Ground.chain }], guard := none }) rfl (fun K hK => ?_) ?_
              · refine app_dcO (.tmp 62) (.tmp 64) rfl (M_063.out.e _ _ rfl) rfl ([110, 111, 110, 101, 57, 57, 57, 57, 120], -1) W_0.heap.size rfl (M_063.out.q _ rfl).1 (by rw [List.length_append]; simp; omega) M_063.out.b.size ?_
                intro v7 W_0637 O7 g7 n7 one7
                obtain ⟨A7, l7, k7, rfl⟩ : ∃ A n c, v7 = .slice A n c := by obtain ⟨A, c, e⟩ := own_form O7; exact ⟨A, _, c, e⟩
                have M_0637 : Hid (Mo w6 W_0637 (some (.slice A7 l7 k7, (D ++ [([110, 111, 110, 101, 57, 57, 57, 57, 120], sz)]) ++ [([110, 111, 110, 101, 57, 57, 57, 57, 120], -1)])) (some W_0.heap.size) none ([110, 111, 110, 101, 57, 57, 57, 57, 120], -1)) := Lib.hid (M_063.out.ap O7 g7 n7)
                clear O7 g7 n7 one7
                obtain ⟨W_0637x, e_0637x, M_0637x⟩ : ∃ W', W_0637.alloc (.cells #[.slice none 0 0, .slice none 0 0, .int .i64 0] 28) = W' ∧ Hid (Mo w6 W' (some (.slice A7 l7 k7, (D ++ [([110, 111, 110, 101, 57, 57, 57, 57, 120], sz)]) ++ [([110, 111, 110, 101, 57, 57, 57, 57, 120], -1)])) (some W_0.heap.size) (some W_0637.heap.size) ([110, 111, 110, 101, 57, 57, 57, 57, 120], -1)) := M_0637.out.x0
                refine hK.out _ _ ?_ (fun hHeld => ?_)
                · (try dsimp only)
                  exact KS.out _ M_0637.out.b
                clear hK K
                (try simp only [Act.put, List.setIfInBounds_toArray, List.set_cons_zero, List.set_cons_succ])
                refine wpAnyH_take (i := 11) (oi := { dst := some 70, op := Op.build 28 #[(0, Operand.tmp 65), (1, Operand.tmp 67), (2, Operand.tmp 69)], type := 28, pos := "law.go:127", after := #[{ on := 6, ground := Ground.data }, { on := 8, ground := Ground.data }, { on := 10, ground := Ground.data }], guard := none }) (v := ?_) rfl (by kernel_rfl) (by kernel_rfl) (by kernel_rfl) (fun _ _ _ h => h) (Or.inl ⟨by rfl, ?_⟩) (by assumption) ?_
                rotate_left
                · intro w hSw; (try dsimp only at hSw); go_simp <;> (with_reducible rfl)
                (try simp only [Act.put, List.setIfInBounds_toArray, List.set_cons_zero, List.set_cons_succ])
                refine wpAnyH_ready (rs := [12]) (by kernel_rfl) (by simp) ?_
                refine AllReadyH.cons (o := { dst := some 11, op := Op.alloc 28, type := 0, pos := "law.go:127", after := #[], guard := none }) rfl (fun K hK => ?_) ?_
                · go_simp
                  have X0 := (M_0637x.out.x _ rfl).1.cell 0
                  have X1 := (M_0637x.out.x _ rfl).1.cell 1
                  have X2 := (M_0637x.out.x _ rfl).1.cell 2
                  have Y0 := (M_0637x.out.x _ rfl).1.frozen 0
                  have Y1 := (M_0637x.out.x _ rfl).1.frozen 1
                  have Y2 := (M_0637x.out.x _ rfl).1.frozen 2
                  simp only [List.getElem?_cons_zero, List.getElem?_cons_succ] at X0 X1 X2
                  obtain ⟨WF, eF, HF⟩ := M_0637x.out.fin (nv := (.slice B N.length cb)) (b := bb)
                  refine hK.out _ _ ?_ (fun hHeld => ?_)
                  · (try dsimp only)
                    exact KS.out _ M_0637x.out.b
                  clear hK K
                  (try simp only [Act.put, List.setIfInBounds_toArray, List.set_cons_zero, List.set_cons_succ])
                  refine wpAnyH_ready (rs := [13]) (by kernel_rfl) (by simp) ?_
                  refine AllReadyH.cons (o := { dst := none, op := Op.store 28 (Operand.tmp 11) (Operand.tmp 70), type := 0, pos := "law.go:127", after := #[{ on := 12, ground := Ground.data }, { on := 11, ground := Ground.data }, { on := 6, ground := Ground.chain }, { on := 0, ground := Ground.phase }, { on := 1, ground := Ground.phase }, { on := 2, ground := Ground.phase }, { on := 3, ground := Ground.phase }, { on := 4, ground := Ground.phase }, { on := 5, ground := Ground.phase }, { on := 6, ground := Ground.phase }, { on := 7, ground := Ground.phase }, { on := 8, ground := Ground.phase }, { on := 9, ground := Ground.phase }, { on := 10, ground := Ground.phase }, { on := 11, ground := Ground.phase }, { on := 12, ground := Ground.phase }], guard := none }) rfl (fun K hK => ?_) ?_
                  · go_simp
                    refine hK.out _ _ ?_ (fun hHeld => ?_)
                    · (try dsimp only)
                      exact KS.out _ HF.out.2.2.1
                    clear hK K
                    (try simp only [Act.put, List.setIfInBounds_toArray, List.set_cons_zero, List.set_cons_succ])
                    refine wpAnyH_done (by kernel_rfl) ?_ _
                    refine NoPanic.normal ?_
                    clear hHeld
                    go_wp2_with fail
                    go_meet
                    exact ⟨_, _, _, _, rfl, HF.out⟩
                  exact AllReadyH.nil
                exact AllReadyH.nil
              refine AllReadyH.cons (o := { dst := some 11, op := Op.alloc 28, type := 0, pos := "law.go:127", after := #[], guard := none }) rfl (fun K hK => ?_) ?_
              · go_simp
                refine hK.out _ _ ?_ (fun hHeld => ?_)
                · (try dsimp only)
                  exact KS.out _ M_063x.out.b
                clear hK K
                (try simp only [Act.put, List.setIfInBounds_toArray, List.set_cons_zero, List.set_cons_succ])
                refine wpAnyH_ready (rs := [6]) (by kernel_rfl) (by simp) ?_
                refine AllReadyH.cons (o := { dst := some 65, op := Op.call { callee := Callee.builtin Builtin.append, args := #[Operand.tmp 62, Operand.tmp 64], argTypes := #[25, 25] }, type := 25, pos := "law.go:127", after := #[{ on := 3, ground := Ground.data }, { on := 5, ground := Ground.data }, { on := 3, ground := Ground.chain }], guard := none }) rfl (fun K hK => ?_) ?_
                · refine app_dcO (.tmp 62) (.tmp 64) rfl (M_063x.out.e _ _ rfl) rfl ([110, 111, 110, 101, 57, 57, 57, 57, 120], -1) W_0.heap.size rfl (M_063x.out.q _ rfl).1 (by rw [List.length_append]; simp; omega) M_063x.out.b.size ?_
                  intro v7 W_063x7 O7 g7 n7 one7
                  obtain ⟨A7, l7, k7, rfl⟩ : ∃ A n c, v7 = .slice A n c := by obtain ⟨A, c, e⟩ := own_form O7; exact ⟨A, _, c, e⟩
                  have M_063x7 : Hid (Mo w6 W_063x7 (some (.slice A7 l7 k7, (D ++ [([110, 111, 110, 101, 57, 57, 57, 57, 120], sz)]) ++ [([110, 111, 110, 101, 57, 57, 57, 57, 120], -1)])) (some W_0.heap.size) (some W_063.heap.size) ([110, 111, 110, 101, 57, 57, 57, 57, 120], -1)) := Lib.hid (M_063x.out.ap O7 g7 n7)
                  clear O7 g7 n7 one7
                  have X0 := (M_063x7.out.x _ rfl).1.cell 0
                  have X1 := (M_063x7.out.x _ rfl).1.cell 1
                  have X2 := (M_063x7.out.x _ rfl).1.cell 2
                  have Y0 := (M_063x7.out.x _ rfl).1.frozen 0
                  have Y1 := (M_063x7.out.x _ rfl).1.frozen 1
                  have Y2 := (M_063x7.out.x _ rfl).1.frozen 2
                  simp only [List.getElem?_cons_zero, List.getElem?_cons_succ] at X0 X1 X2
                  obtain ⟨WF, eF, HF⟩ := M_063x7.out.fin (nv := (.slice B N.length cb)) (b := bb)
                  refine hK.out _ _ ?_ (fun hHeld => ?_)
                  · (try dsimp only)
                    exact KS.out _ M_063x7.out.b
                  clear hK K
                  (try simp only [Act.put, List.setIfInBounds_toArray, List.set_cons_zero, List.set_cons_succ])
                  refine wpAnyH_take (i := 11) (oi := { dst := some 70, op := Op.build 28 #[(0, Operand.tmp 65), (1, Operand.tmp 67), (2, Operand.tmp 69)], type := 28, pos := "law.go:127", after := #[{ on := 6, ground := Ground.data }, { on := 8, ground := Ground.data }, { on := 10, ground := Ground.data }], guard := none }) (v := ?_) rfl (by kernel_rfl) (by kernel_rfl) (by kernel_rfl) (fun _ _ _ h => h) (Or.inl ⟨by rfl, ?_⟩) (by assumption) ?_
                  rotate_left
                  · intro w hSw; (try dsimp only at hSw); go_simp <;> (with_reducible rfl)
                  (try simp only [Act.put, List.setIfInBounds_toArray, List.set_cons_zero, List.set_cons_succ])
                  refine wpAnyH_ready (rs := [13]) (by kernel_rfl) (by simp) ?_
                  refine AllReadyH.cons (o := { dst := none, op := Op.store 28 (Operand.tmp 11) (Operand.tmp 70), type := 0, pos := "law.go:127", after := #[{ on := 12, ground := Ground.data }, { on := 11, ground := Ground.data }, { on := 6, ground := Ground.chain }, { on := 0, ground := Ground.phase }, { on := 1, ground := Ground.phase }, { on := 2, ground := Ground.phase }, { on := 3, ground := Ground.phase }, { on := 4, ground := Ground.phase }, { on := 5, ground := Ground.phase }, { on := 6, ground := Ground.phase }, { on := 7, ground := Ground.phase }, { on := 8, ground := Ground.phase }, { on := 9, ground := Ground.phase }, { on := 10, ground := Ground.phase }, { on := 11, ground := Ground.phase }, { on := 12, ground := Ground.phase }], guard := none }) rfl (fun K hK => ?_) ?_
                  · go_simp
                    refine hK.out _ _ ?_ (fun hHeld => ?_)
                    · (try dsimp only)
                      exact KS.out _ HF.out.2.2.1
                    clear hK K
                    (try simp only [Act.put, List.setIfInBounds_toArray, List.set_cons_zero, List.set_cons_succ])
                    refine wpAnyH_done (by kernel_rfl) ?_ _
                    refine NoPanic.normal ?_
                    clear hHeld
                    go_wp2_with fail
                    go_meet
                    exact ⟨_, _, _, _, rfl, HF.out⟩
                  exact AllReadyH.nil
                exact AllReadyH.nil
              exact AllReadyH.nil
            refine AllReadyH.cons (o := { dst := some 11, op := Op.alloc 28, type := 0, pos := "law.go:127", after := #[], guard := none }) rfl (fun K hK => ?_) ?_
            · go_simp
              refine hK.out _ _ ?_ (fun hHeld => ?_)
              · (try dsimp only)
                exact KS.out _ M_06x.out.b
              clear hK K
              (try simp only [Act.put, List.setIfInBounds_toArray, List.set_cons_zero, List.set_cons_succ])
              refine wpAnyH_ready (rs := [3]) (by kernel_rfl) (by simp) ?_
              refine AllReadyH.cons (o := { dst := some 62, op := Op.call { callee := Callee.builtin Builtin.append, args := #[Operand.tmp 59, Operand.tmp 61], argTypes := #[25, 25] }, type := 25, pos := "law.go:127", after := #[{ on := 0, ground := Ground.data }, { on := 2, ground := Ground.data }], guard := none }) rfl (fun K hK => ?_) ?_
              · refine app_allO (.tmp 59) (.tmp 61) rfl (M_06x.out.e _ _ rfl) rfl (own_belowP T6X.out M_06x.out.b) rfl (by rw [List.length_append]; simp; omega) M_06x.out.b.size ?_
                intro v3 W_06x3 O3 g3 n3
                obtain ⟨A3, l3, k3, rfl⟩ : ∃ A n c, v3 = .slice A n c := by obtain ⟨A, c, e⟩ := own_form O3; exact ⟨A, _, c, e⟩
                have M_06x3 : Hid (Mo w6 W_06x3 (some (.slice A3 l3 k3, (D ++ [([110, 111, 110, 101, 57, 57, 57, 57, 120], sz)]))) (some W_0.heap.size) (some W_06.heap.size) ([110, 111, 110, 101, 57, 57, 57, 57, 120], -1)) := Lib.hid (M_06x.out.ap O3 g3 n3)
                clear O3 g3 n3
                refine hK.out _ _ ?_ (fun hHeld => ?_)
                · (try dsimp only)
                  exact KS.out _ M_06x3.out.b
                clear hK K
                (try simp only [Act.put, List.setIfInBounds_toArray, List.set_cons_zero, List.set_cons_succ])
                refine wpAnyH_ready (rs := [6]) (by kernel_rfl) (by simp) ?_
                refine AllReadyH.cons (o := { dst := some 65, op := Op.call { callee := Callee.builtin Builtin.append, args := #[Operand.tmp 62, Operand.tmp 64], argTypes := #[25, 25] }, type := 25, pos := "law.go:127", after := #[{ on := 3, ground := Ground.data }, { on := 5, ground := Ground.data }, { on := 3, ground := Ground.chain }], guard := none }) rfl (fun K hK => ?_) ?_
                · refine app_dcO (.tmp 62) (.tmp 64) rfl (M_06x3.out.e _ _ rfl) rfl ([110, 111, 110, 101, 57, 57, 57, 57, 120], -1) W_0.heap.size rfl (M_06x3.out.q _ rfl).1 (by rw [List.length_append]; simp; omega) M_06x3.out.b.size ?_
                  intro v7 W_06x37 O7 g7 n7 one7
                  obtain ⟨A7, l7, k7, rfl⟩ : ∃ A n c, v7 = .slice A n c := by obtain ⟨A, c, e⟩ := own_form O7; exact ⟨A, _, c, e⟩
                  have M_06x37 : Hid (Mo w6 W_06x37 (some (.slice A7 l7 k7, (D ++ [([110, 111, 110, 101, 57, 57, 57, 57, 120], sz)]) ++ [([110, 111, 110, 101, 57, 57, 57, 57, 120], -1)])) (some W_0.heap.size) (some W_06.heap.size) ([110, 111, 110, 101, 57, 57, 57, 57, 120], -1)) := Lib.hid (M_06x3.out.ap O7 g7 n7)
                  clear O7 g7 n7 one7
                  have X0 := (M_06x37.out.x _ rfl).1.cell 0
                  have X1 := (M_06x37.out.x _ rfl).1.cell 1
                  have X2 := (M_06x37.out.x _ rfl).1.cell 2
                  have Y0 := (M_06x37.out.x _ rfl).1.frozen 0
                  have Y1 := (M_06x37.out.x _ rfl).1.frozen 1
                  have Y2 := (M_06x37.out.x _ rfl).1.frozen 2
                  simp only [List.getElem?_cons_zero, List.getElem?_cons_succ] at X0 X1 X2
                  obtain ⟨WF, eF, HF⟩ := M_06x37.out.fin (nv := (.slice B N.length cb)) (b := bb)
                  refine hK.out _ _ ?_ (fun hHeld => ?_)
                  · (try dsimp only)
                    exact KS.out _ M_06x37.out.b
                  clear hK K
                  (try simp only [Act.put, List.setIfInBounds_toArray, List.set_cons_zero, List.set_cons_succ])
                  refine wpAnyH_take (i := 11) (oi := { dst := some 70, op := Op.build 28 #[(0, Operand.tmp 65), (1, Operand.tmp 67), (2, Operand.tmp 69)], type := 28, pos := "law.go:127", after := #[{ on := 6, ground := Ground.data }, { on := 8, ground := Ground.data }, { on := 10, ground := Ground.data }], guard := none }) (v := ?_) rfl (by kernel_rfl) (by kernel_rfl) (by kernel_rfl) (fun _ _ _ h => h) (Or.inl ⟨by rfl, ?_⟩) (by assumption) ?_
                  rotate_left
                  · intro w hSw; (try dsimp only at hSw); go_simp <;> (with_reducible rfl)
                  (try simp only [Act.put, List.setIfInBounds_toArray, List.set_cons_zero, List.set_cons_succ])
                  refine wpAnyH_ready (rs := [13]) (by kernel_rfl) (by simp) ?_
                  refine AllReadyH.cons (o := { dst := none, op := Op.store 28 (Operand.tmp 11) (Operand.tmp 70), type := 0, pos := "law.go:127", after := #[{ on := 12, ground := Ground.data }, { on := 11, ground := Ground.data }, { on := 6, ground := Ground.chain }, { on := 0, ground := Ground.phase }, { on := 1, ground := Ground.phase }, { on := 2, ground := Ground.phase }, { on := 3, ground := Ground.phase }, { on := 4, ground := Ground.phase }, { on := 5, ground := Ground.phase }, { on := 6, ground := Ground.phase }, { on := 7, ground := Ground.phase }, { on := 8, ground := Ground.phase }, { on := 9, ground := Ground.phase }, { on := 10, ground := Ground.phase }, { on := 11, ground := Ground.phase }, { on := 12, ground := Ground.phase }], guard := none }) rfl (fun K hK => ?_) ?_
                  · go_simp
                    refine hK.out _ _ ?_ (fun hHeld => ?_)
                    · (try dsimp only)
                      exact KS.out _ HF.out.2.2.1
                    clear hK K
                    (try simp only [Act.put, List.setIfInBounds_toArray, List.set_cons_zero, List.set_cons_succ])
                    refine wpAnyH_done (by kernel_rfl) ?_ _
                    refine NoPanic.normal ?_
                    clear hHeld
                    go_wp2_with fail
                    go_meet
                    exact ⟨_, _, _, _, rfl, HF.out⟩
                  exact AllReadyH.nil
                exact AllReadyH.nil
              exact AllReadyH.nil
            exact AllReadyH.nil
          refine AllReadyH.cons (o := { dst := some 11, op := Op.alloc 28, type := 0, pos := "law.go:127", after := #[], guard := none }) rfl (fun K hK => ?_) ?_
          · go_simp
            obtain ⟨W_0x6, e_0x6, M_0x6⟩ : ∃ W', W_0x.alloc (.cells #[.string ⟨#[110, 111, 110, 101, 57, 57, 57, 57, 120]⟩, .int .i64 (-1)] 31) = W' ∧ Hid (Mo w6 W' (some (.slice (some ⟨w6.heap.size, 0, none⟩) 0 0, [])) (some W_0x.heap.size) (some W_0.heap.size) ([110, 111, 110, 101, 57, 57, 57, 57, 120], -1)) := M_0x.out.q0
            refine hK.out _ _ ?_ (fun hHeld => ?_)
            · (try dsimp only)
              exact KS.out _ M_0x.out.b
            clear hK K
            (try simp only [Act.put, List.setIfInBounds_toArray, List.set_cons_zero, List.set_cons_succ])
            refine wpAnyH_ready (rs := [3, 5]) (by kernel_rfl) (by simp) ?_
            refine AllReadyH.cons (o := { dst := some 62, op := Op.call { callee := Callee.builtin Builtin.append, args := #[Operand.tmp 59, Operand.tmp 61], argTypes := #[25, 25] }, type := 25, pos := "law.go:127", after := #[{ on := 0, ground := Ground.data }, { on := 2, ground := Ground.data }], guard := none }) rfl (fun K hK => ?_) ?_
            · refine app_allO (.tmp 59) (.tmp 61) rfl (M_0x.out.e _ _ rfl) rfl (own_belowP T6X.out M_0x.out.b) rfl (by rw [List.length_append]; simp; omega) M_0x.out.b.size ?_
              intro v3 W_0x3 O3 g3 n3
              obtain ⟨A3, l3, k3, rfl⟩ : ∃ A n c, v3 = .slice A n c := by obtain ⟨A, c, e⟩ := own_form O3; exact ⟨A, _, c, e⟩
              have M_0x3 : Hid (Mo w6 W_0x3 (some (.slice A3 l3 k3, (D ++ [([110, 111, 110, 101, 57, 57, 57, 57, 120], sz)]))) none (some W_0.heap.size) ([110, 111, 110, 101, 57, 57, 57, 57, 120], -1)) := Lib.hid (M_0x.out.ap O3 g3 n3)
              clear O3 g3 n3
              obtain ⟨W_0x36, e_0x36, M_0x36⟩ : ∃ W', W_0x3.alloc (.cells #[.string ⟨#[110, 111, 110, 101, 57, 57, 57, 57, 120]⟩, .int .i64 (-1)] 31) = W' ∧ Hid (Mo w6 W' (some (.slice A3 l3 k3, (D ++ [([110, 111, 110, 101, 57, 57, 57, 57, 120], sz)]))) (some W_0x3.heap.size) (some W_0.heap.size) ([110, 111, 110, 101, 57, 57, 57, 57, 120], -1)) := M_0x3.out.q0
              refine hK.out _ _ ?_ (fun hHeld => ?_)
              · (try dsimp only)
                exact KS.out _ M_0x3.out.b
              clear hK K
              (try simp only [Act.put, List.setIfInBounds_toArray, List.set_cons_zero, List.set_cons_succ])
              refine wpAnyH_ready (rs := [5]) (by kernel_rfl) (by simp) ?_
              refine AllReadyH.cons (o := { dst := some 64, op := Op.buildSlice 25 1 #[(0, Operand.tmp 63)], type := 25, pos := "law.go:127", after := #[{ on := 4, ground := Ground.data }], guard := none }) rfl (fun K hK => ?_) ?_
              · go_simp
                refine hK.out _ _ ?_ (fun hHeld => ?_)
                · (try dsimp only)
                  exact KS.out _ M_0x36.out.b
                clear hK K
                (try simp only [Act.put, List.setIfInBounds_toArray, List.set_cons_zero, List.set_cons_succ])
                refine wpAnyH_ready (rs := [6]) (by kernel_rfl) (by simp) ?_
                refine AllReadyH.cons (o := { dst := some 65, op := Op.call { callee := Callee.builtin Builtin.append, args := #[Operand.tmp 62, Operand.tmp 64], argTypes := #[25, 25] }, type := 25, pos := "law.go:127", after := #[{ on := 3, ground := Ground.data }, { on := 5, ground := Ground.data }, { on := 3, ground := Ground.chain }], guard := none }) rfl (fun K hK => ?_) ?_
                · refine app_dcO (.tmp 62) (.tmp 64) rfl (M_0x36.out.e _ _ rfl) rfl ([110, 111, 110, 101, 57, 57, 57, 57, 120], -1) W_0x3.heap.size rfl (M_0x36.out.q _ rfl).1 (by rw [List.length_append]; simp; omega) M_0x36.out.b.size ?_
                  intro v7 W_0x367 O7 g7 n7 one7
                  obtain ⟨A7, l7, k7, rfl⟩ : ∃ A n c, v7 = .slice A n c := by obtain ⟨A, c, e⟩ := own_form O7; exact ⟨A, _, c, e⟩
                  have M_0x367 : Hid (Mo w6 W_0x367 (some (.slice A7 l7 k7, (D ++ [([110, 111, 110, 101, 57, 57, 57, 57, 120], sz)]) ++ [([110, 111, 110, 101, 57, 57, 57, 57, 120], -1)])) (some W_0x3.heap.size) (some W_0.heap.size) ([110, 111, 110, 101, 57, 57, 57, 57, 120], -1)) := Lib.hid (M_0x36.out.ap O7 g7 n7)
                  clear O7 g7 n7 one7
                  have X0 := (M_0x367.out.x _ rfl).1.cell 0
                  have X1 := (M_0x367.out.x _ rfl).1.cell 1
                  have X2 := (M_0x367.out.x _ rfl).1.cell 2
                  have Y0 := (M_0x367.out.x _ rfl).1.frozen 0
                  have Y1 := (M_0x367.out.x _ rfl).1.frozen 1
                  have Y2 := (M_0x367.out.x _ rfl).1.frozen 2
                  simp only [List.getElem?_cons_zero, List.getElem?_cons_succ] at X0 X1 X2
                  obtain ⟨WF, eF, HF⟩ := M_0x367.out.fin (nv := (.slice B N.length cb)) (b := bb)
                  refine hK.out _ _ ?_ (fun hHeld => ?_)
                  · (try dsimp only)
                    exact KS.out _ M_0x367.out.b
                  clear hK K
                  (try simp only [Act.put, List.setIfInBounds_toArray, List.set_cons_zero, List.set_cons_succ])
                  refine wpAnyH_take (i := 11) (oi := { dst := some 70, op := Op.build 28 #[(0, Operand.tmp 65), (1, Operand.tmp 67), (2, Operand.tmp 69)], type := 28, pos := "law.go:127", after := #[{ on := 6, ground := Ground.data }, { on := 8, ground := Ground.data }, { on := 10, ground := Ground.data }], guard := none }) (v := ?_) rfl (by kernel_rfl) (by kernel_rfl) (by kernel_rfl) (fun _ _ _ h => h) (Or.inl ⟨by rfl, ?_⟩) (by assumption) ?_
                  rotate_left
                  · intro w hSw; (try dsimp only at hSw); go_simp <;> (with_reducible rfl)
                  (try simp only [Act.put, List.setIfInBounds_toArray, List.set_cons_zero, List.set_cons_succ])
                  refine wpAnyH_ready (rs := [13]) (by kernel_rfl) (by simp) ?_
                  refine AllReadyH.cons (o := { dst := none, op := Op.store 28 (Operand.tmp 11) (Operand.tmp 70), type := 0, pos := "law.go:127", after := #[{ on := 12, ground := Ground.data }, { on := 11, ground := Ground.data }, { on := 6, ground := Ground.chain }, { on := 0, ground := Ground.phase }, { on := 1, ground := Ground.phase }, { on := 2, ground := Ground.phase }, { on := 3, ground := Ground.phase }, { on := 4, ground := Ground.phase }, { on := 5, ground := Ground.phase }, { on := 6, ground := Ground.phase }, { on := 7, ground := Ground.phase }, { on := 8, ground := Ground.phase }, { on := 9, ground := Ground.phase }, { on := 10, ground := Ground.phase }, { on := 11, ground := Ground.phase }, { on := 12, ground := Ground.phase }], guard := none }) rfl (fun K hK => ?_) ?_
                  · go_simp
                    refine hK.out _ _ ?_ (fun hHeld => ?_)
                    · (try dsimp only)
                      exact KS.out _ HF.out.2.2.1
                    clear hK K
                    (try simp only [Act.put, List.setIfInBounds_toArray, List.set_cons_zero, List.set_cons_succ])
                    refine wpAnyH_done (by kernel_rfl) ?_ _
                    refine NoPanic.normal ?_
                    clear hHeld
                    go_wp2_with fail
                    go_meet
                    exact ⟨_, _, _, _, rfl, HF.out⟩
                  exact AllReadyH.nil
                exact AllReadyH.nil
              exact AllReadyH.nil
            refine AllReadyH.cons (o := { dst := some 64, op := Op.buildSlice 25 1 #[(0, Operand.tmp 63)], type := 25, pos := "law.go:127", after := #[{ on := 4, ground := Ground.data }], guard := none }) rfl (fun K hK => ?_) ?_
            · go_simp
              refine hK.out _ _ ?_ (fun hHeld => ?_)
              · (try dsimp only)
                exact KS.out _ M_0x6.out.b
              clear hK K
              (try simp only [Act.put, List.setIfInBounds_toArray, List.set_cons_zero, List.set_cons_succ])
              refine wpAnyH_ready (rs := [3]) (by kernel_rfl) (by simp) ?_
              refine AllReadyH.cons (o := { dst := some 62, op := Op.call { callee := Callee.builtin Builtin.append, args := #[Operand.tmp 59, Operand.tmp 61], argTypes := #[25, 25] }, type := 25, pos := "law.go:127", after := #[{ on := 0, ground := Ground.data }, { on := 2, ground := Ground.data }], guard := none }) rfl (fun K hK => ?_) ?_
              · refine app_allO (.tmp 59) (.tmp 61) rfl (M_0x6.out.e _ _ rfl) rfl (own_belowP T6X.out M_0x6.out.b) rfl (by rw [List.length_append]; simp; omega) M_0x6.out.b.size ?_
                intro v3 W_0x63 O3 g3 n3
                obtain ⟨A3, l3, k3, rfl⟩ : ∃ A n c, v3 = .slice A n c := by obtain ⟨A, c, e⟩ := own_form O3; exact ⟨A, _, c, e⟩
                have M_0x63 : Hid (Mo w6 W_0x63 (some (.slice A3 l3 k3, (D ++ [([110, 111, 110, 101, 57, 57, 57, 57, 120], sz)]))) (some W_0x.heap.size) (some W_0.heap.size) ([110, 111, 110, 101, 57, 57, 57, 57, 120], -1)) := Lib.hid (M_0x6.out.ap O3 g3 n3)
                clear O3 g3 n3
                refine hK.out _ _ ?_ (fun hHeld => ?_)
                · (try dsimp only)
                  exact KS.out _ M_0x63.out.b
                clear hK K
                (try simp only [Act.put, List.setIfInBounds_toArray, List.set_cons_zero, List.set_cons_succ])
                refine wpAnyH_ready (rs := [6]) (by kernel_rfl) (by simp) ?_
                refine AllReadyH.cons (o := { dst := some 65, op := Op.call { callee := Callee.builtin Builtin.append, args := #[Operand.tmp 62, Operand.tmp 64], argTypes := #[25, 25] }, type := 25, pos := "law.go:127", after := #[{ on := 3, ground := Ground.data }, { on := 5, ground := Ground.data }, { on := 3, ground := Ground.chain }], guard := none }) rfl (fun K hK => ?_) ?_
                · refine app_dcO (.tmp 62) (.tmp 64) rfl (M_0x63.out.e _ _ rfl) rfl ([110, 111, 110, 101, 57, 57, 57, 57, 120], -1) W_0x.heap.size rfl (M_0x63.out.q _ rfl).1 (by rw [List.length_append]; simp; omega) M_0x63.out.b.size ?_
                  intro v7 W_0x637 O7 g7 n7 one7
                  obtain ⟨A7, l7, k7, rfl⟩ : ∃ A n c, v7 = .slice A n c := by obtain ⟨A, c, e⟩ := own_form O7; exact ⟨A, _, c, e⟩
                  have M_0x637 : Hid (Mo w6 W_0x637 (some (.slice A7 l7 k7, (D ++ [([110, 111, 110, 101, 57, 57, 57, 57, 120], sz)]) ++ [([110, 111, 110, 101, 57, 57, 57, 57, 120], -1)])) (some W_0x.heap.size) (some W_0.heap.size) ([110, 111, 110, 101, 57, 57, 57, 57, 120], -1)) := Lib.hid (M_0x63.out.ap O7 g7 n7)
                  clear O7 g7 n7 one7
                  have X0 := (M_0x637.out.x _ rfl).1.cell 0
                  have X1 := (M_0x637.out.x _ rfl).1.cell 1
                  have X2 := (M_0x637.out.x _ rfl).1.cell 2
                  have Y0 := (M_0x637.out.x _ rfl).1.frozen 0
                  have Y1 := (M_0x637.out.x _ rfl).1.frozen 1
                  have Y2 := (M_0x637.out.x _ rfl).1.frozen 2
                  simp only [List.getElem?_cons_zero, List.getElem?_cons_succ] at X0 X1 X2
                  obtain ⟨WF, eF, HF⟩ := M_0x637.out.fin (nv := (.slice B N.length cb)) (b := bb)
                  refine hK.out _ _ ?_ (fun hHeld => ?_)
                  · (try dsimp only)
                    exact KS.out _ M_0x637.out.b
                  clear hK K
                  (try simp only [Act.put, List.setIfInBounds_toArray, List.set_cons_zero, List.set_cons_succ])
                  refine wpAnyH_take (i := 11) (oi := { dst := some 70, op := Op.build 28 #[(0, Operand.tmp 65), (1, Operand.tmp 67), (2, Operand.tmp 69)], type := 28, pos := "law.go:127", after := #[{ on := 6, ground := Ground.data }, { on := 8, ground := Ground.data }, { on := 10, ground := Ground.data }], guard := none }) (v := ?_) rfl (by kernel_rfl) (by kernel_rfl) (by kernel_rfl) (fun _ _ _ h => h) (Or.inl ⟨by rfl, ?_⟩) (by assumption) ?_
                  rotate_left
                  · intro w hSw; (try dsimp only at hSw); go_simp <;> (with_reducible rfl)
                  (try simp only [Act.put, List.setIfInBounds_toArray, List.set_cons_zero, List.set_cons_succ])
                  refine wpAnyH_ready (rs := [13]) (by kernel_rfl) (by simp) ?_
                  refine AllReadyH.cons (o := { dst := none, op := Op.store 28 (Operand.tmp 11) (Operand.tmp 70), type := 0, pos := "law.go:127", after := #[{ on := 12, ground := Ground.data }, { on := 11, ground := Ground.data }, { on := 6, ground := Ground.chain }, { on := 0, ground := Ground.phase }, { on := 1, ground := Ground.phase }, { on := 2, ground := Ground.phase }, { on := 3, ground := Ground.phase }, { on := 4, ground := Ground.phase }, { on := 5, ground := Ground.phase }, { on := 6, ground := Ground.phase }, { on := 7, ground := Ground.phase }, { on := 8, ground := Ground.phase }, { on := 9, ground := Ground.phase }, { on := 10, ground := Ground.phase }, { on := 11, ground := Ground.phase }, { on := 12, ground := Ground.phase }], guard := none }) rfl (fun K hK => ?_) ?_
                  · go_simp
                    refine hK.out _ _ ?_ (fun hHeld => ?_)
                    · (try dsimp only)
                      exact KS.out _ HF.out.2.2.1
                    clear hK K
                    (try simp only [Act.put, List.setIfInBounds_toArray, List.set_cons_zero, List.set_cons_succ])
                    refine wpAnyH_done (by kernel_rfl) ?_ _
                    refine NoPanic.normal ?_
                    clear hHeld
                    go_wp2_with fail
                    go_meet
                    exact ⟨_, _, _, _, rfl, HF.out⟩
                  exact AllReadyH.nil
                exact AllReadyH.nil
              exact AllReadyH.nil
            exact AllReadyH.nil
          exact AllReadyH.nil
        refine AllReadyH.cons (o := { dst := some 64, op := Op.buildSlice 25 1 #[(0, Operand.tmp 63)], type := 25, pos := "law.go:127", after := #[{ on := 4, ground := Ground.data }], guard := none }) rfl (fun K hK => ?_) ?_
        · go_simp
          obtain ⟨W_60, e_60, M_60⟩ : ∃ W', W_6.alloc (.cells #[] 31) = W' ∧ Hid (Mo w6 W' (some (.slice (some ⟨W_6.heap.size, 0, none⟩) 0 0, [])) (some w6.heap.size) none ([110, 111, 110, 101, 57, 57, 57, 57, 120], -1)) := M_6.out.e0
          obtain ⟨W_6x, e_6x, M_6x⟩ : ∃ W', W_6.alloc (.cells #[.slice none 0 0, .slice none 0 0, .int .i64 0] 28) = W' ∧ Hid (Mo w6 W' none (some w6.heap.size) (some W_6.heap.size) ([110, 111, 110, 101, 57, 57, 57, 57, 120], -1)) := M_6.out.x0
          refine hK.out _ _ ?_ (fun hHeld => ?_)
          · (try dsimp only)
            exact KS.out _ M_6.out.b
          clear hK K
          (try simp only [Act.put, List.setIfInBounds_toArray, List.set_cons_zero, List.set_cons_succ])
          refine wpAnyH_ready (rs := [0, 12]) (by kernel_rfl) (by simp) ?_
          refine AllReadyH.cons (o := { dst := some 59, op := Op.buildSlice 25 0 #[], type := 25, pos := "law.go:127", after := #[], guard := none }) rfl (fun K hK => ?_) ?_
          · go_simp
            obtain ⟨W_60x, e_60x, M_60x⟩ : ∃ W', W_60.alloc (.cells #[.slice none 0 0, .slice none 0 0, .int .i64 0] 28) = W' ∧ Hid (Mo w6 W' (some (.slice (some ⟨W_6.heap.size, 0, none⟩) 0 0, [])) (some w6.heap.size) (some W_60.heap.size) ([110, 111, 110, 101, 57, 57, 57, 57, 120], -1)) := M_60.out.x0
            refine hK.out _ _ ?_ (fun hHeld => ?_)
            · (try dsimp only)
              exact KS.out _ M_60.out.b
            clear hK K
            (try simp only [Act.put, List.setIfInBounds_toArray, List.set_cons_zero, List.set_cons_succ])
            refine wpAnyH_ready (rs := [3, 12]) (by kernel_rfl) (by simp) ?_
            refine AllReadyH.cons (o := { dst := some 62, op := Op.call { callee := Callee.builtin Builtin.append, args := #[Operand.tmp 59, Operand.tmp 61], argTypes := #[25, 25] }, type := 25, pos := "law.go:127", after := #[{ on := 0, ground := Ground.data }, { on := 2, ground := Ground.data }], guard := none }) rfl (fun K hK => ?_) ?_
            · refine app_allO (.tmp 59) (.tmp 61) rfl (M_60.out.e _ _ rfl) rfl (own_belowP T6X.out M_60.out.b) rfl (by rw [List.length_append]; simp; omega) M_60.out.b.size ?_
              intro v3 W_603 O3 g3 n3
              obtain ⟨A3, l3, k3, rfl⟩ : ∃ A n c, v3 = .slice A n c := by obtain ⟨A, c, e⟩ := own_form O3; exact ⟨A, _, c, e⟩
              have M_603 : Hid (Mo w6 W_603 (some (.slice A3 l3 k3, (D ++ [([110, 111, 110, 101, 57, 57, 57, 57, 120], sz)]))) (some w6.heap.size) none ([110, 111, 110, 101, 57, 57, 57, 57, 120], -1)) := Lib.hid (M_60.out.ap O3 g3 n3)
              clear O3 g3 n3
              obtain ⟨W_603x, e_603x, M_603x⟩ : ∃ W', W_603.alloc (.cells #[.slice none 0 0, .slice none 0 0, .int .i64 0] 28) = W' ∧ Hid (Mo w6 W' (some (.slice A3 l3 k3, (D ++ [([110, 111, 110, 101, 57, 57, 57, 57, 120], sz)]))) (some w6.heap.size) (some W_603.heap.size) ([110, 111, 110, 101, 57, 57, 57, 57, 120], -1)) := M_603.out.x0
              refine hK.out _ _ ?_ (fun hHeld => ?_)
              · (try dsimp only)
                exact KS.out _ M_603.out.b
              clear hK K
              (try simp only [Act.put, List.setIfInBounds_toArray, List.set_cons_zero, List.set_cons_succ])
              refine wpAnyH_ready (rs := [6, 12]) (by kernel_rfl) (by simp) ?_
              refine AllReadyH.cons (o := { dst := some 65, op := Op.call { callee := Callee.builtin Builtin.append, args := #[Operand.tmp 62, Operand.tmp 64], argTypes := #[25, 25] }, type := 25, pos := "law.go:127", after := #[{ on := 3, ground := Ground.data }, { on := 5, ground := Ground.data }, { on := 3, ground := Ground.chain }], guard := none }) rfl (fun K hK => ?_) ?_
              · refine app_dcO (.tmp 62) (.tmp 64) rfl (M_603.out.e _ _ rfl) rfl ([110, 111, 110, 101, 57, 57, 57, 57, 120], -1) w6.heap.size rfl (M_603.out.q _ rfl).1 (by rw [List.length_append]; simp; omega) M_603.out.b.size ?_
                intro v7 W_6037 O7 g7 n7 one7
                obtain ⟨A7, l7, k7, rfl⟩ : ∃ A n c, v7 = .slice A n c := by obtain ⟨A, c, e⟩ := own_form O7; exact ⟨A, _, c, e⟩
                have M_6037 : Hid (Mo w6 W_6037 (some (.slice A7 l7 k7, (D ++ [([110, 111, 110, 101, 57, 57, 57, 57, 120], sz)]) ++ [([110, 111, 110, 101, 57, 57, 57, 57, 120], -1)])) (some w6.heap.size) none ([110, 111, 110, 101, 57, 57, 57, 57, 120], -1)) := Lib.hid (M_603.out.ap O7 g7 n7)
                clear O7 g7 n7 one7
                obtain ⟨W_6037x, e_6037x, M_6037x⟩ : ∃ W', W_6037.alloc (.cells #[.slice none 0 0, .slice none 0 0, .int .i64 0] 28) = W' ∧ Hid (Mo w6 W' (some (.slice A7 l7 k7, (D ++ [([110, 111, 110, 101, 57, 57, 57, 57, 120], sz)]) ++ [([110, 111, 110, 101, 57, 57, 57, 57, 120], -1)])) (some w6.heap.size) (some W_6037.heap.size) ([110, 111, 110, 101, 57, 57, 57, 57, 120], -1)) := M_6037.out.x0
                refine hK.out _ _ ?_ (fun hHeld => ?_)
                · (try dsimp only)
                  exact KS.out _ M_6037.out.b
                clear hK K
                (try simp only [Act.put, List.setIfInBounds_toArray, List.set_cons_zero, List.set_cons_succ])
                refine wpAnyH_take (i := 11) (oi := { dst := some 70, op := Op.build 28 #[(0, Operand.tmp 65), (1, Operand.tmp 67), (2, Operand.tmp 69)], type := 28, pos := "law.go:127", after := #[{ on := 6, ground := Ground.data }, { on := 8, ground := Ground.data }, { on := 10, ground := Ground.data }], guard := none }) (v := ?_) rfl (by kernel_rfl) (by kernel_rfl) (by kernel_rfl) (fun _ _ _ h => h) (Or.inl ⟨by rfl, ?_⟩) (by assumption) ?_
                rotate_left
                · intro w hSw; (try dsimp only at hSw); go_simp <;> (with_reducible rfl)
                (try simp only [Act.put, List.setIfInBounds_toArray, List.set_cons_zero, List.set_cons_succ])
                refine wpAnyH_ready (rs := [12]) (by kernel_rfl) (by simp) ?_
                refine AllReadyH.cons (o := { dst := some 11, op := Op.alloc 28, type := 0, pos := "law.go:127", after := #[], guard := none }) rfl (fun K hK => ?_) ?_
                · go_simp
                  have X0 := (M_6037x.out.x _ rfl).1.cell 0
                  have X1 := (M_6037x.out.x _ rfl).1.cell 1
                  have X2 := (M_6037x.out.x _ rfl).1.cell 2
                  have Y0 := (M_6037x.out.x _ rfl).1.frozen 0
                  have Y1 := (M_6037x.out.x _ rfl).1.frozen 1
                  have Y2 := (M_6037x.out.x _ rfl).1.frozen 2
                  simp only [List.getElem?_cons_zero, List.getElem?_cons_succ] at X0 X1 X2
                  obtain ⟨WF, eF, HF⟩ := M_6037x.out.fin (nv := (.slice B N.length cb)) (b := bb)
                  refine hK.out _ _ ?_ (fun hHeld => ?_)
                  · (try dsimp only)
                    exact KS.out _ M_6037x.out.b
                  clear hK K
                  (try simp only [Act.put, List.setIfInBounds_toArray, List.set_cons_zero, List.set_cons_succ])
                  refine wpAnyH_ready (rs := [13]) (by kernel_rfl) (by simp) ?_
                  refine AllReadyH.cons (o := { dst := none, op := Op.store 28 (Operand.tmp 11) (Operand.tmp 70), type := 0, pos := "law.go:127", after := #[{ on := 12, ground := Ground.data }, { on := 11, ground := Ground.data }, { on := 6, ground := Ground.chain }, { on := 0, ground := Ground.phase }, { on := 1, ground := Ground.phase }, { on := 2, ground := Ground.phase }, { on := 3, ground := Ground.phase }, { on := 4, ground := Ground.phase }, { on := 5, ground := Ground.phase }, { on := 6, ground := Ground.phase }, { on := 7, ground := Ground.phase }, { on := 8, ground := Ground.phase }, { on := 9, ground := Ground.phase }, { on := 10, ground := Ground.phase }, { on := 11, ground := Ground.phase }, { on := 12, ground := Ground.phase }], guard := none }) rfl (fun K hK => ?_) ?_
                  · go_simp
                    refine hK.out _ _ ?_ (fun hHeld => ?_)
                    · (try dsimp only)
                      exact KS.out _ HF.out.2.2.1
                    clear hK K
                    (try simp only [Act.put, List.setIfInBounds_toArray, List.set_cons_zero, List.set_cons_succ])
                    refine wpAnyH_done (by kernel_rfl) ?_ _
                    refine NoPanic.normal ?_
                    clear hHeld
                    go_wp2_with fail
                    go_meet
                    exact ⟨_, _, _, _, rfl, HF.out⟩
                  exact AllReadyH.nil
                exact AllReadyH.nil
              refine AllReadyH.cons (o := { dst := some 11, op := Op.alloc 28, type := 0, pos := "law.go:127", after := #[], guard := none }) rfl (fun K hK => ?_) ?_
              · go_simp
                refine hK.out _ _ ?_ (fun hHeld => ?_)
                · (try dsimp only)
                  exact KS.out _ M_603x.out.b
                clear hK K
                (try simp only [Act.put, List.setIfInBounds_toArray, List.set_cons_zero, List.set_cons_succ])
                refine wpAnyH_ready (rs := [6]) (by kernel_rfl) (by simp) ?_
                refine AllReadyH.cons (o := { dst := some 65, op := Op.call { callee := Callee.builtin Builtin.append, args := #[Operand.tmp 62, Operand.tmp 64], argTypes := #[25, 25] }, type := 25, pos := "law.go:127", after := #[{ on := 3, ground := Ground.data }, { on := 5, ground := Ground.data }, { on := 3, ground := Ground.chain }], guard := none }) rfl (fun K hK => ?_) ?_
                · refine app_dcO (.tmp 62) (.tmp 64) rfl (M_603x.out.e _ _ rfl) rfl ([110, 111, 110, 101, 57, 57, 57, 57, 120], -1) w6.heap.size rfl (M_603x.out.q _ rfl).1 (by rw [List.length_append]; simp; omega) M_603x.out.b.size ?_
                  intro v7 W_603x7 O7 g7 n7 one7
                  obtain ⟨A7, l7, k7, rfl⟩ : ∃ A n c, v7 = .slice A n c := by obtain ⟨A, c, e⟩ := own_form O7; exact ⟨A, _, c, e⟩
                  have M_603x7 : Hid (Mo w6 W_603x7 (some (.slice A7 l7 k7, (D ++ [([110, 111, 110, 101, 57, 57, 57, 57, 120], sz)]) ++ [([110, 111, 110, 101, 57, 57, 57, 57, 120], -1)])) (some w6.heap.size) (some W_603.heap.size) ([110, 111, 110, 101, 57, 57, 57, 57, 120], -1)) := Lib.hid (M_603x.out.ap O7 g7 n7)
                  clear O7 g7 n7 one7
                  have X0 := (M_603x7.out.x _ rfl).1.cell 0
                  have X1 := (M_603x7.out.x _ rfl).1.cell 1
                  have X2 := (M_603x7.out.x _ rfl).1.cell 2
                  have Y0 := (M_603x7.out.x _ rfl).1.frozen 0
                  have Y1 := (M_603x7.out.x _ rfl).1.frozen 1
                  have Y2 := (M_603x7.out.x _ rfl).1.frozen 2
                  simp only [List.getElem?_cons_zero, List.getElem?_cons_succ] at X0 X1 X2
                  obtain ⟨WF, eF, HF⟩ := M_603x7.out.fin (nv := (.slice B N.length cb)) (b := bb)
                  refine hK.out _ _ ?_ (fun hHeld => ?_)
                  · (try dsimp only)
                    exact KS.out _ M_603x7.out.b
                  clear hK K
                  (try simp only [Act.put, List.setIfInBounds_toArray, List.set_cons_zero, List.set_cons_succ])
                  refine wpAnyH_take (i := 11) (oi := { dst := some 70, op := Op.build 28 #[(0, Operand.tmp 65), (1, Operand.tmp 67), (2, Operand.tmp 69)], type := 28, pos := "law.go:127", after := #[{ on := 6, ground := Ground.data }, { on := 8, ground := Ground.data }, { on := 10, ground := Ground.data }], guard := none }) (v := ?_) rfl (by kernel_rfl) (by kernel_rfl) (by kernel_rfl) (fun _ _ _ h => h) (Or.inl ⟨by rfl, ?_⟩) (by assumption) ?_
                  rotate_left
                  · intro w hSw; (try dsimp only at hSw); go_simp <;> (with_reducible rfl)
                  (try simp only [Act.put, List.setIfInBounds_toArray, List.set_cons_zero, List.set_cons_succ])
                  refine wpAnyH_ready (rs := [13]) (by kernel_rfl) (by simp) ?_
                  refine AllReadyH.cons (o := { dst := none, op := Op.store 28 (Operand.tmp 11) (Operand.tmp 70), type := 0, pos := "law.go:127", after := #[{ on := 12, ground := Ground.data }, { on := 11, ground := Ground.data }, { on := 6, ground := Ground.chain }, { on := 0, ground := Ground.phase }, { on := 1, ground := Ground.phase }, { on := 2, ground := Ground.phase }, { on := 3, ground := Ground.phase }, { on := 4, ground := Ground.phase }, { on := 5, ground := Ground.phase }, { on := 6, ground := Ground.phase }, { on := 7, ground := Ground.phase }, { on := 8, ground := Ground.phase }, { on := 9, ground := Ground.phase }, { on := 10, ground := Ground.phase }, { on := 11, ground := Ground.phase }, { on := 12, ground := Ground.phase }], guard := none }) rfl (fun K hK => ?_) ?_
                  · go_simp
                    refine hK.out _ _ ?_ (fun hHeld => ?_)
                    · (try dsimp only)
                      exact KS.out _ HF.out.2.2.1
                    clear hK K
                    (try simp only [Act.put, List.setIfInBounds_toArray, List.set_cons_zero, List.set_cons_succ])
                    refine wpAnyH_done (by kernel_rfl) ?_ _
                    refine NoPanic.normal ?_
                    clear hHeld
                    go_wp2_with fail
                    go_meet
                    exact ⟨_, _, _, _, rfl, HF.out⟩
                  exact AllReadyH.nil
                exact AllReadyH.nil
              exact AllReadyH.nil
            refine AllReadyH.cons (o := { dst := some 11, op := Op.alloc 28, type := 0, pos := "law.go:127", after := #[], guard := none }) rfl (fun K hK => ?_) ?_
            · go_simp
              refine hK.out _ _ ?_ (fun hHeld => ?_)
              · (try dsimp only)
                exact KS.out _ M_60x.out.b
              clear hK K
              (try simp only [Act.put, List.setIfInBounds_toArray, List.set_cons_zero, List.set_cons_succ])
              refine wpAnyH_ready (rs := [3]) (by kernel_rfl) (by simp) ?_
              refine AllReadyH.cons (o := { dst := some 62, op := Op.call { callee := Callee.builtin Builtin.append, args := #[Operand.tmp 59, Operand.tmp 61], argTypes := #[25, 25] }, type := 25, pos := "law.go:127", after := #[{ on := 0, ground := Ground.data }, { on := 2, ground := Ground.data }], guard := none }) rfl (fun K hK => ?_) ?_
              · refine app_allO (.tmp 59) (.tmp 61) rfl (M_60x.out.e _ _ rfl) rfl (own_belowP T6X.out M_60x.out.b) rfl (by rw [List.length_append]; simp; omega) M_60x.out.b.size ?_
                intro v3 W_60x3 O3 g3 n3
                obtain ⟨A3, l3, k3, rfl⟩ : ∃ A n c, v3 = .slice A n c := by obtain ⟨A, c, e⟩ := own_form O3; exact ⟨A, _, c, e⟩
                have M_60x3 : Hid (Mo w6 W_60x3 (some (.slice A3 l3 k3, (D ++ [([110, 111, 110, 101, 57, 57, 57, 57, 120], sz)]))) (some w6.heap.size) (some W_60.heap.size) ([110, 111, 110, 101, 57, 57, 57, 57, 120], -1)) := Lib.hid (M_60x.out.ap O3 g3 n3)
                clear O3 g3 n3
                refine hK.out _ _ ?_ (fun hHeld => ?_)
                · (try dsimp only)
                  exact KS.out _ M_60x3.out.b
                clear hK K
                (try simp only [Act.put, List.setIfInBounds_toArray, List.set_cons_zero, List.set_cons_succ])
                refine wpAnyH_ready (rs := [6]) (by kernel_rfl) (by simp) ?_
                refine AllReadyH.cons (o := { dst := some 65, op := Op.call { callee := Callee.builtin Builtin.append, args := #[Operand.tmp 62, Operand.tmp 64], argTypes := #[25, 25] }, type := 25, pos := "law.go:127", after := #[{ on := 3, ground := Ground.data }, { on := 5, ground := Ground.data }, { on := 3, ground := Ground.chain }], guard := none }) rfl (fun K hK => ?_) ?_
                · refine app_dcO (.tmp 62) (.tmp 64) rfl (M_60x3.out.e _ _ rfl) rfl ([110, 111, 110, 101, 57, 57, 57, 57, 120], -1) w6.heap.size rfl (M_60x3.out.q _ rfl).1 (by rw [List.length_append]; simp; omega) M_60x3.out.b.size ?_
                  intro v7 W_60x37 O7 g7 n7 one7
                  obtain ⟨A7, l7, k7, rfl⟩ : ∃ A n c, v7 = .slice A n c := by obtain ⟨A, c, e⟩ := own_form O7; exact ⟨A, _, c, e⟩
                  have M_60x37 : Hid (Mo w6 W_60x37 (some (.slice A7 l7 k7, (D ++ [([110, 111, 110, 101, 57, 57, 57, 57, 120], sz)]) ++ [([110, 111, 110, 101, 57, 57, 57, 57, 120], -1)])) (some w6.heap.size) (some W_60.heap.size) ([110, 111, 110, 101, 57, 57, 57, 57, 120], -1)) := Lib.hid (M_60x3.out.ap O7 g7 n7)
                  clear O7 g7 n7 one7
                  have X0 := (M_60x37.out.x _ rfl).1.cell 0
                  have X1 := (M_60x37.out.x _ rfl).1.cell 1
                  have X2 := (M_60x37.out.x _ rfl).1.cell 2
                  have Y0 := (M_60x37.out.x _ rfl).1.frozen 0
                  have Y1 := (M_60x37.out.x _ rfl).1.frozen 1
                  have Y2 := (M_60x37.out.x _ rfl).1.frozen 2
                  simp only [List.getElem?_cons_zero, List.getElem?_cons_succ] at X0 X1 X2
                  obtain ⟨WF, eF, HF⟩ := M_60x37.out.fin (nv := (.slice B N.length cb)) (b := bb)
                  refine hK.out _ _ ?_ (fun hHeld => ?_)
                  · (try dsimp only)
                    exact KS.out _ M_60x37.out.b
                  clear hK K
                  (try simp only [Act.put, List.setIfInBounds_toArray, List.set_cons_zero, List.set_cons_succ])
                  refine wpAnyH_take (i := 11) (oi := { dst := some 70, op := Op.build 28 #[(0, Operand.tmp 65), (1, Operand.tmp 67), (2, Operand.tmp 69)], type := 28, pos := "law.go:127", after := #[{ on := 6, ground := Ground.data }, { on := 8, ground := Ground.data }, { on := 10, ground := Ground.data }], guard := none }) (v := ?_) rfl (by kernel_rfl) (by kernel_rfl) (by kernel_rfl) (fun _ _ _ h => h) (Or.inl ⟨by rfl, ?_⟩) (by assumption) ?_
                  rotate_left
                  · intro w hSw; (try dsimp only at hSw); go_simp <;> (with_reducible rfl)
                  (try simp only [Act.put, List.setIfInBounds_toArray, List.set_cons_zero, List.set_cons_succ])
                  refine wpAnyH_ready (rs := [13]) (by kernel_rfl) (by simp) ?_
                  refine AllReadyH.cons (o := { dst := none, op := Op.store 28 (Operand.tmp 11) (Operand.tmp 70), type := 0, pos := "law.go:127", after := #[{ on := 12, ground := Ground.data }, { on := 11, ground := Ground.data }, { on := 6, ground := Ground.chain }, { on := 0, ground := Ground.phase }, { on := 1, ground := Ground.phase }, { on := 2, ground := Ground.phase }, { on := 3, ground := Ground.phase }, { on := 4, ground := Ground.phase }, { on := 5, ground := Ground.phase }, { on := 6, ground := Ground.phase }, { on := 7, ground := Ground.phase }, { on := 8, ground := Ground.phase }, { on := 9, ground := Ground.phase }, { on := 10, ground := Ground.phase }, { on := 11, ground := Ground.phase }, { on := 12, ground := Ground.phase }], guard := none }) rfl (fun K hK => ?_) ?_
                  · go_simp
                    refine hK.out _ _ ?_ (fun hHeld => ?_)
                    · (try dsimp only)
                      exact KS.out _ HF.out.2.2.1
                    clear hK K
                    (try simp only [Act.put, List.setIfInBounds_toArray, List.set_cons_zero, List.set_cons_succ])
                    refine wpAnyH_done (by kernel_rfl) ?_ _
                    refine NoPanic.normal ?_
                    clear hHeld
                    go_wp2_with fail
                    go_meet
                    exact ⟨_, _, _, _, rfl, HF.out⟩
                  exact AllReadyH.nil
                exact AllReadyH.nil
              exact AllReadyH.nil
            exact AllReadyH.nil
          refine AllReadyH.cons (o := { dst := some 11, op := Op.alloc 28, type := 0, pos := "law.go:127", after := #[], guard := none }) rfl (fun K hK => ?_) ?_
          · go_simp
            obtain ⟨W_6x0, e_6x0, M_6x0⟩ : ∃ W', W_6x.alloc (.cells #[] 31) = W' ∧ Hid (Mo w6 W' (some (.slice (some ⟨W_6x.heap.size, 0, none⟩) 0 0, [])) (some w6.heap.size) (some W_6.heap.size) ([110, 111, 110, 101, 57, 57, 57, 57, 120], -1)) := M_6x.out.e0
            refine hK.out _ _ ?_ (fun hHeld => ?_)
            · (try dsimp only)
              exact KS.out _ M_6x.out.b
            clear hK K
            (try simp only [Act.put, List.setIfInBounds_toArray, List.set_cons_zero, List.set_cons_succ])
            refine wpAnyH_ready (rs := [0]) (by kernel_rfl) (by simp) ?_
            refine AllReadyH.cons (o := { dst := some 59, op := Op.buildSlice 25 0 #[], type := 25, pos := "law.go:127", after := #[], guard := none }) rfl (fun K hK => ?_) ?_
            · go_simp
              refine hK.out _ _ ?_ (fun hHeld => ?_)
              · (try dsimp only)
                exact KS.out _ M_6x0.out.b
              clear hK K
              (try simp only [Act.put, List.setIfInBounds_toArray, List.set_cons_zero, List.set_cons_succ])
              refine wpAnyH_ready (rs := [3]) (by kernel_rfl) (by simp) ?_
              refine AllReadyH.cons (o := { dst := some 62, op := Op.call { callee := Callee.builtin Builtin.append, args := #[Operand.tmp 59, Operand.tmp 61], argTypes := #[25, 25] }, type := 25, pos := "law.go:127", after := #[{ on := 0, ground := Ground.data }, { on := 2, ground := Ground.data }], guard := none }) rfl (fun K hK => ?_) ?_
              · refine app_allO (.tmp 59) (.tmp 61) rfl (M_6x0.out.e _ _ rfl) rfl (own_belowP T6X.out M_6x0.out.b) rfl (by rw [List.length_append]; simp; omega) M_6x0.out.b.size ?_
                intro v3 W_6x03 O3 g3 n3
                obtain ⟨A3, l3, k3, rfl⟩ : ∃ A n c, v3 = .slice A n c := by obtain ⟨A, c, e⟩ := own_form O3; exact ⟨A, _, c, e⟩
                have M_6x03 : Hid (Mo w6 W_6x03 (some (.slice A3 l3 k3, (D ++ [([110, 111, 110, 101, 57, 57, 57, 57, 120], sz)]))) (some w6.heap.size) (some W_6.heap.size) ([110, 111, 110, 101, 57, 57, 57, 57, 120], -1)) := Lib.hid (M_6x0.out.ap O3 g3 n3)
                clear O3 g3 n3
                refine hK.out _ _ ?_ (fun hHeld => ?_)
                · (try dsimp only)
                  exact KS.out _ M_6x03.out.b
                clear hK K
                (try simp only [Act.put, List.setIfInBounds_toArray, List.set_cons_zero, List.set_cons_succ])
                refine wpAnyH_ready (rs := [6]) (by kernel_rfl) (by simp) ?_
                refine AllReadyH.cons (o := { dst := some 65, op := Op.call { callee := Callee.builtin Builtin.append, args := #[Operand.tmp 62, Operand.tmp 64], argTypes := #[25, 25] }, type := 25, pos := "law.go:127", after := #[{ on := 3, ground := Ground.data }, { on := 5, ground := Ground.data }, { on := 3, ground := Ground.chain }], guard := none }) rfl (fun K hK => ?_) ?_
                · refine app_dcO (.tmp 62) (.tmp 64) rfl (M_6x03.out.e _ _ rfl) rfl ([110, 111, 110, 101, 57, 57, 57, 57, 120], -1) w6.heap.size rfl (M_6x03.out.q _ rfl).1 (by rw [List.length_append]; simp; omega) M_6x03.out.b.size ?_
                  intro v7 W_6x037 O7 g7 n7 one7
                  obtain ⟨A7, l7, k7, rfl⟩ : ∃ A n c, v7 = .slice A n c := by obtain ⟨A, c, e⟩ := own_form O7; exact ⟨A, _, c, e⟩
                  have M_6x037 : Hid (Mo w6 W_6x037 (some (.slice A7 l7 k7, (D ++ [([110, 111, 110, 101, 57, 57, 57, 57, 120], sz)]) ++ [([110, 111, 110, 101, 57, 57, 57, 57, 120], -1)])) (some w6.heap.size) (some W_6.heap.size) ([110, 111, 110, 101, 57, 57, 57, 57, 120], -1)) := Lib.hid (M_6x03.out.ap O7 g7 n7)
                  clear O7 g7 n7 one7
                  have X0 := (M_6x037.out.x _ rfl).1.cell 0
                  have X1 := (M_6x037.out.x _ rfl).1.cell 1
                  have X2 := (M_6x037.out.x _ rfl).1.cell 2
                  have Y0 := (M_6x037.out.x _ rfl).1.frozen 0
                  have Y1 := (M_6x037.out.x _ rfl).1.frozen 1
                  have Y2 := (M_6x037.out.x _ rfl).1.frozen 2
                  simp only [List.getElem?_cons_zero, List.getElem?_cons_succ] at X0 X1 X2
                  obtain ⟨WF, eF, HF⟩ := M_6x037.out.fin (nv := (.slice B N.length cb)) (b := bb)
                  refine hK.out _ _ ?_ (fun hHeld => ?_)
                  · (try dsimp only)
                    exact KS.out _ M_6x037.out.b
                  clear hK K
                  (try simp only [Act.put, List.setIfInBounds_toArray, List.set_cons_zero, List.set_cons_succ])
                  refine wpAnyH_take (i := 11) (oi := { dst := some 70, op := Op.build 28 #[(0, Operand.tmp 65), (1, Operand.tmp 67), (2, Operand.tmp 69)], type := 28, pos := "law.go:127", after := #[{ on := 6, ground := Ground.data }, { on := 8, ground := Ground.data }, { on := 10, ground := Ground.data }], guard := none }) (v := ?_) rfl (by kernel_rfl) (by kernel_rfl) (by kernel_rfl) (fun _ _ _ h => h) (Or.inl ⟨by rfl, ?_⟩) (by assumption) ?_
                  rotate_left
                  · intro w hSw; (try dsimp only at hSw); go_simp <;> (with_reducible rfl)
                  (try simp only [Act.put, List.setIfInBounds_toArray, List.set_cons_zero, List.set_cons_succ])
                  refine wpAnyH_ready (rs := [13]) (by kernel_rfl) (by simp) ?_
                  refine AllReadyH.cons (o := { dst := none, op := Op.store 28 (Operand.tmp 11) (Operand.tmp 70), type := 0, pos := "law.go:127", after := #[{ on := 12, ground := Ground.data }, { on := 11, ground := Ground.data }, { on := 6, ground := Ground.chain }, { on := 0, ground := Ground.phase }, { on := 1, ground := Ground.phase }, { on := 2, ground := Ground.phase }, { on := 3, ground := Ground.phase }, { on := 4, ground := Ground.phase }, { on := 5, ground := Ground.phase }, { on := 6, ground := Ground.phase }, { on := 7, ground := Ground.phase }, { on := 8, ground := Ground.phase }, { on := 9, ground := Ground.phase }, { on := 10, ground := Ground.phase }, { on := 11, ground := Ground.phase }, { on := 12, ground := Ground.phase }], guard := none }) rfl (fun K hK => ?_) ?_
                  · go_simp
                    refine hK.out _ _ ?_ (fun hHeld => ?_)
                    · (try dsimp only)
                      exact KS.out _ HF.out.2.2.1
                    clear hK K
                    (try simp only [Act.put, List.setIfInBounds_toArray, List.set_cons_zero, List.set_cons_succ])
                    refine wpAnyH_done (by kernel_rfl) ?_ _
                    refine NoPanic.normal ?_
                    clear hHeld
                    go_wp2_with fail
                    go_meet
                    exact ⟨_, _, _, _, rfl, HF.out⟩
                  exact AllReadyH.nil
                exact AllReadyH.nil
              exact AllReadyH.nil
            exact AllReadyH.nil
          exact AllReadyH.nil
        refine AllReadyH.cons (o := { dst := some 11, op := Op.alloc 28, type := 0, pos := "law.go:127", after := #[], guard := none }) rfl (fun K hK => ?_) ?_
        · go_simp
          obtain ⟨W_x0, e_x0, M_x0⟩ : ∃ W', W_x.alloc (.cells #[] 31) = W' ∧ Hid (Mo w6 W' (some (.slice (some ⟨W_x.heap.size, 0, none⟩) 0 0, [])) none (some w6.heap.size) ([110, 111, 110, 101, 57, 57, 57, 57, 120], -1)) := M_x.out.e0
          obtain ⟨W_x6, e_x6, M_x6⟩ : ∃ W', W_x.alloc (.cells #[.string ⟨#[110, 111, 110, 101, 57, 57, 57, 57, 120]⟩, .int .i64 (-1)] 31) = W' ∧ Hid (Mo w6 W' none (some W_x.heap.size) (some w6.heap.size) ([110, 111, 110, 101, 57, 57, 57, 57, 120], -1)) := M_x.out.q0
          refine hK.out _ _ ?_ (fun hHeld => ?_)
          · (try dsimp only)
            exact KS.out _ M_x.out.b
          clear hK K
          (try simp only [Act.put, List.setIfInBounds_toArray, List.set_cons_zero, List.set_cons_succ])
          refine wpAnyH_ready (rs := [0, 5]) (by kernel_rfl) (by simp) ?_
          refine AllReadyH.cons (o := { dst := some 59, op := Op.buildSlice 25 0 #[], type := 25, pos := "law.go:127", after := #[], guard := none }) rfl (fun K hK => ?_) ?_
          · go_simp
            obtain ⟨W_x06, e_x06, M_x06⟩ : ∃ W', W_x0.alloc (.cells #[.string ⟨#[110, 111, 110, 101, 57, 57, 57, 57, 120]⟩, .int .i64 (-1)] 31) = W' ∧ Hid (Mo w6 W' (some (.slice (some ⟨W_x.heap.size, 0, none⟩) 0 0, [])) (some W_x0.heap.size) (some w6.heap.size) ([110, 111, 110, 101, 57, 57, 57, 57, 120], -1)) := M_x0.out.q0
            refine hK.out _ _ ?_ (fun hHeld => ?_)
            · (try dsimp only)
              exact KS.out _ M_x0.out.b
            clear hK K
            (try simp only [Act.put, List.setIfInBounds_toArray, List.set_cons_zero, List.set_cons_succ])
            refine wpAnyH_ready (rs := [3, 5]) (by kernel_rfl) (by simp) ?_
            refine AllReadyH.cons (o := { dst := some 62, op := Op.call { callee := Callee.builtin Builtin.append, args := #[Operand.tmp 59, Operand.tmp 61], argTypes := #[25, 25] }, type := 25, pos := "law.go:127", after := #[{ on := 0, ground := Ground.data }, { on := 2, ground := Ground.data }], guard := none }) rfl (fun K hK => ?_) ?_
            · refine app_allO (.tmp 59) (.tmp 61) rfl (M_x0.out.e _ _ rfl) rfl (own_belowP T6X.out M_x0.out.b) rfl (by rw [List.length_append]; simp; omega) M_x0.out.b.size ?_
              intro v3 W_x03 O3 g3 n3
              obtain ⟨A3, l3, k3, rfl⟩ : ∃ A n c, v3 = .slice A n c := by obtain ⟨A, c, e⟩ := own_form O3; exact ⟨A, _, c, e⟩
              have M_x03 : Hid (Mo w6 W_x03 (some (.slice A3 l3 k3, (D ++ [([110, 111, 110, 101, 57, 57, 57, 57, 120], sz)]))) none (some w6.heap.size) ([110, 111, 110, 101, 57, 57, 57, 57, 120], -1)) := Lib.hid (M_x0.out.ap O3 g3 n3)
              clear O3 g3 n3
              obtain ⟨W_x036, e_x036, M_x036⟩ : ∃ W', W_x03.alloc (.cells #[.string ⟨#[110, 111, 110, 101, 57, 57, 57, 57, 120]⟩, .int .i64 (-1)] 31) = W' ∧ Hid (Mo w6 W' (some (.slice A3 l3 k3, (D ++ [([110, 111, 110, 101, 57, 57, 57, 57, 120], sz)]))) (some W_x03.heap.size) (some w6.heap.size) ([110, 111, 110, 101, 57, 57, 57, 57, 120], -1)) := M_x03.out.q0
              refine hK.out _ _ ?_ (fun hHeld => ?_)
              · (try dsimp only)
                exact KS.out _ M_x03.out.b
              clear hK K
              (try simp only [Act.put, List.setIfInBounds_toArray, List.set_cons_zero, List.set_cons_succ])
              refine wpAnyH_ready (rs := [5]) (by kernel_rfl) (by simp) ?_
              refine AllReadyH.cons (o := { dst := some 64, op := Op.buildSlice 25 1 #[(0, Operand.tmp 63)], type := 25, pos := "law.go:127", after := #[{ on := 4, ground := Ground.data }], guard := none }) rfl (fun K hK => ?_) ?_
              · go_simp
                refine hK.out _ _ ?_ (fun hHeld => ?_)
                · (try dsimp only)
                  exact KS.out _ M_x036.out.b
                clear hK K
                (try simp only [Act.put, List.setIfInBounds_toArray, List.set_cons_zero, List.set_cons_succ])
                refine wpAnyH_ready (rs := [6]) (by kernel_rfl) (by simp) ?_
                refine AllReadyH.cons (o := { dst := some 65, op := Op.call { callee := Callee.builtin Builtin.append, args := #[Operand.tmp 62, Operand.tmp 64], argTypes := #[25, 25] }, type := 25, pos := "law.go:127", after := #[{ on := 3, ground := Ground.data }, { on := 5, ground := Ground.data }, { on := 3, ground := Ground.chain }], guard := none }) rfl (fun K hK => ?_) ?_
                · refine app_dcO (.tmp 62) (.tmp 64) rfl (M_x036.out.e _ _ rfl) rfl ([110, 111, 110, 101, 57, 57, 57, 57, 120], -1) W_x03.heap.size rfl (M_x036.out.q _ rfl).1 (by rw [List.length_append]; simp; omega) M_x036.out.b.size ?_
                  intro v7 W_x0367 O7 g7 n7 one7
                  obtain ⟨A7, l7, k7, rfl⟩ : ∃ A n c, v7 = .slice A n c := by obtain ⟨A, c, e⟩ := own_form O7; exact ⟨A, _, c, e⟩
                  have M_x0367 : Hid (Mo w6 W_x0367 (some (.slice A7 l7 k7, (D ++ [([110, 111, 110, 101, 57, 57, 57, 57, 120], sz)]) ++ [([110, 111, 110, 101, 57, 57, 57, 57, 120], -1)])) (some W_x03.heap.size) (some w6.heap.size) ([110, 111, 110, 101, 57, 57, 57, 57, 120], -1)) := Lib.hid (M_x036.out.ap O7 g7 n7)
                  clear O7 g7 n7 one7
                  have X0 := (M_x0367.out.x _ rfl).1.cell 0
                  have X1 := (M_x0367.out.x _ rfl).1.cell 1
                  have X2 := (M_x0367.out.x _ rfl).1.cell 2
                  have Y0 := (M_x0367.out.x _ rfl).1.frozen 0
                  have Y1 := (M_x0367.out.x _ rfl).1.frozen 1
                  have Y2 := (M_x0367.out.x _ rfl).1.frozen 2
                  simp only [List.getElem?_cons_zero, List.getElem?_cons_succ] at X0 X1 X2
                  obtain ⟨WF, eF, HF⟩ := M_x0367.out.fin (nv := (.slice B N.length cb)) (b := bb)
                  refine hK.out _ _ ?_ (fun hHeld => ?_)
                  · (try dsimp only)
                    exact KS.out _ M_x0367.out.b
                  clear hK K
                  (try simp only [Act.put, List.setIfInBounds_toArray, List.set_cons_zero, List.set_cons_succ])
                  refine wpAnyH_take (i := 11) (oi := { dst := some 70, op := Op.build 28 #[(0, Operand.tmp 65), (1, Operand.tmp 67), (2, Operand.tmp 69)], type := 28, pos := "law.go:127", after := #[{ on := 6, ground := Ground.data }, { on := 8, ground := Ground.data }, { on := 10, ground := Ground.data }], guard := none }) (v := ?_) rfl (by kernel_rfl) (by kernel_rfl) (by kernel_rfl) (fun _ _ _ h => h) (Or.inl ⟨by rfl, ?_⟩) (by assumption) ?_
                  rotate_left
                  · intro w hSw; (try dsimp only at hSw); go_simp <;> (with_reducible rfl)
                  (try simp only [Act.put, List.setIfInBounds_toArray, List.set_cons_zero, List.set_cons_succ])
                  refine wpAnyH_ready (rs := [13]) (by kernel_rfl) (by simp) ?_
                  refine AllReadyH.cons (o := { dst := none, op := Op.store 28 (Operand.tmp 11) (Operand.tmp 70), type := 0, pos := "law.go:127", after := #[{ on := 12, ground := Ground.data }, { on := 11, ground := Ground.data }, { on := 6, ground := Ground.chain }, { on := 0, ground := Ground.phase }, { on := 1, ground := Ground.phase }, { on := 2, ground := Ground.phase }, { on := 3, ground := Ground.phase }, { on := 4, ground := Ground.phase }, { on := 5, ground := Ground.phase }, { on := 6, ground := Ground.phase }, { on := 7, ground := Ground.phase }, { on := 8, ground := Ground.phase }, { on := 9, ground := Ground.phase }, { on := 10, ground := Ground.phase }, { on := 11, ground := Ground.phase }, { on := 12, ground := Ground.phase }], guard := none }) rfl (fun K hK => ?_) ?_
                  · go_simp
                    refine hK.out _ _ ?_ (fun hHeld => ?_)
                    · (try dsimp only)
                      exact KS.out _ HF.out.2.2.1
                    clear hK K
                    (try simp only [Act.put, List.setIfInBounds_toArray, List.set_cons_zero, List.set_cons_succ])
                    refine wpAnyH_done (by kernel_rfl) ?_ _
                    refine NoPanic.normal ?_
                    clear hHeld
                    go_wp2_with fail
                    go_meet
                    exact ⟨_, _, _, _, rfl, HF.out⟩
                  exact AllReadyH.nil
                exact AllReadyH.nil
              exact AllReadyH.nil
            refine AllReadyH.cons (o := { dst := some 64, op := Op.buildSlice 25 1 #[(0, Operand.tmp 63)], type := 25, pos := "law.go:127", after := #[{ on := 4, ground := Ground.data }], guard := none }) rfl (fun K hK => ?_) ?_
            · go_simp
              refine hK.out _ _ ?_ (fun hHeld => ?_)
              · (try dsimp only)
                exact KS.out _ M_x06.out.b
              clear hK K
              (try simp only [Act.put, List.setIfInBounds_toArray, List.set_cons_zero, List.set_cons_succ])
              refine wpAnyH_ready (rs := [3]) (by kernel_rfl) (by simp) ?_
              refine AllReadyH.cons (o := { dst := some 62, op := Op.call { callee := Callee.builtin Builtin.append, args := #[Operand.tmp 59, Operand.tmp 61], argTypes := #[25, 25] }, type := 25, pos := "law.go:127", after := #[{ on := 0, ground := Ground.data }, { on := 2, ground := Ground.data }], guard := none }) rfl (fun K hK => ?_) ?_
              · refine app_allO (.tmp 59) (.tmp 61) rfl (M_x06.out.e _ _ rfl) rfl (own_belowP T6X.out M_x06.out.b) rfl (by rw [List.length_append]; simp; omega) M_x06.out.b.size ?_
                intro v3 W_x063 O3 g3 n3
                obtain ⟨A3, l3, k3, rfl⟩ : ∃ A n c, v3 = .slice A n c := by obtain ⟨A, c, e⟩ := own_form O3; exact ⟨A, _, c, e⟩
                have M_x063 : Hid (Mo w6 W_x063 (some (.slice A3 l3 k3, (D ++ [([110, 111, 110, 101, 57, 57, 57, 57, 120], sz)]))) (some W_x0.heap.size) (some w6.heap.size) ([110, 111, 110, 101, 57, 57, 57, 57, 120], -1)) := Lib.hid (M_x06.out.ap O3 g3 n3)
                clear O3 g3 n3
                refine hK.out _ _ ?_ (fun hHeld => ?_)
                · (try dsimp only)
                  exact KS.out _ M_x063.out.b
                clear hK K
                (try simp only [Act.put, List.setIfInBounds_toArray, List.set_cons_zero, List.set_cons_succ])
                refine wpAnyH_ready (rs := [6]) (by kernel_rfl) (by simp) ?_
                refine AllReadyH.cons (o := { dst := some 65, op := Op.call { callee := Callee.builtin Builtin.append, args := #[Operand.tmp 62, Operand.tmp 64], argTypes := #[25, 25] }, type := 25, pos := "law.go:127", after := #[{ on := 3, ground := Ground.data }, { on := 5, ground := Ground.data }, { on := 3, ground := Ground.chain }], guard := none }) rfl (fun K hK => ?_) ?_
                · refine app_dcO (.tmp 62) (.tmp 64) rfl (M_x063.out.e _ _ rfl) rfl ([110, 111, 110, 101, 57, 57, 57, 57, 120], -1) W_x0.heap.size rfl (M_x063.out.q _ rfl).1 (by rw [List.length_append]; simp; omega) M_x063.out.b.size ?_
                  intro v7 W_x0637 O7 g7 n7 one7
                  obtain ⟨A7, l7, k7, rfl⟩ : ∃ A n c, v7 = .slice A n c := by obtain ⟨A, c, e⟩ := own_form O7; exact ⟨A, _, c, e⟩
                  have M_x0637 : Hid (Mo w6 W_x0637 (some (.slice A7 l7 k7, (D ++ [([110, 111, 110, 101, 57, 57, 57, 57, 120], sz)]) ++ [([110, 111, 110, 101, 57, 57, 57, 57, 120], -1)])) (some W_x0.heap.size) (some w6.heap.size) ([110, 111, 110, 101, 57, 57, 57, 57, 120], -1)) := Lib.hid (M_x063.out.ap O7 g7 n7)
                  clear O7 g7 n7 one7
                  have X0 := (M_x0637.out.x _ rfl).1.cell 0
                  have X1 := (M_x0637.out.x _ rfl).1.cell 1
                  have X2 := (M_x0637.out.x _ rfl).1.cell 2
                  have Y0 := (M_x0637.out.x _ rfl).1.frozen 0
                  have Y1 := (M_x0637.out.x _ rfl).1.frozen 1
                  have Y2 := (M_x0637.out.x _ rfl).1.frozen 2
                  simp only [List.getElem?_cons_zero, List.getElem?_cons_succ] at X0 X1 X2
                  obtain ⟨WF, eF, HF⟩ := M_x0637.out.fin (nv := (.slice B N.length cb)) (b := bb)
                  refine hK.out _ _ ?_ (fun hHeld => ?_)
                  · (try dsimp only)
                    exact KS.out _ M_x0637.out.b
                  clear hK K
                  (try simp only [Act.put, List.setIfInBounds_toArray, List.set_cons_zero, List.set_cons_succ])
                  refine wpAnyH_take (i := 11) (oi := { dst := some 70, op := Op.build 28 #[(0, Operand.tmp 65), (1, Operand.tmp 67), (2, Operand.tmp 69)], type := 28, pos := "law.go:127", after := #[{ on := 6, ground := Ground.data }, { on := 8, ground := Ground.data }, { on := 10, ground := Ground.data }], guard := none }) (v := ?_) rfl (by kernel_rfl) (by kernel_rfl) (by kernel_rfl) (fun _ _ _ h => h) (Or.inl ⟨by rfl, ?_⟩) (by assumption) ?_
                  rotate_left
                  · intro w hSw; (try dsimp only at hSw); go_simp <;> (with_reducible rfl)
                  (try simp only [Act.put, List.setIfInBounds_toArray, List.set_cons_zero, List.set_cons_succ])
                  refine wpAnyH_ready (rs := [13]) (by kernel_rfl) (by simp) ?_
                  refine AllReadyH.cons (o := { dst := none, op := Op.store 28 (Operand.tmp 11) (Operand.tmp 70), type := 0, pos := "law.go:127", after := #[{ on := 12, ground := Ground.data }, { on := 11, ground := Ground.data }, { on := 6, ground := Ground.chain }, { on := 0, ground := Ground.phase }, { on := 1, ground := Ground.phase }, { on := 2, ground := Ground.phase }, { on := 3, ground := Ground.phase }, { on := 4, ground := Ground.phase }, { on := 5, ground := Ground.phase }, { on := 6, ground := Ground.phase }, { on := 7, ground := Ground.phase }, { on := 8, ground := Ground.phase }, { on := 9, ground := Ground.phase }, { on := 10, ground := Ground.phase }, { on := 11, ground := Ground.phase }, { on := 12, ground := Ground.phase }], guard := none }) rfl (fun K hK => ?_) ?_
                  · go_simp
                    refine hK.out _ _ ?_ (fun hHeld => ?_)
                    · (try dsimp only)
                      exact KS.out _ HF.out.2.2.1
                    clear hK K
                    (try simp only [Act.put, List.setIfInBounds_toArray, List.set_cons_zero, List.set_cons_succ])
                    refine wpAnyH_done (by kernel_rfl) ?_ _
                    refine NoPanic.normal ?_
                    clear hHeld
                    go_wp2_with fail
                    go_meet
                    exact ⟨_, _, _, _, rfl, HF.out⟩
                  exact AllReadyH.nil
                exact AllReadyH.nil
              exact AllReadyH.nil
            exact AllReadyH.nil
          refine AllReadyH.cons (o := { dst := some 64, op := Op.buildSlice 25 1 #[(0, Operand.tmp 63)], type := 25, pos := "law.go:127", after := #[{ on := 4, ground := Ground.data }], guard := none }) rfl (fun K hK => ?_) ?_
          · go_simp
            obtain ⟨W_x60, e_x60, M_x60⟩ : ∃ W', W_x6.alloc (.cells #[] 31) = W' ∧ Hid (Mo w6 W' (some (.slice (some ⟨W_x6.heap.size, 0, none⟩) 0 0, [])) (some W_x.heap.size) (some w6.heap.size) ([110, 111, 110, 101, 57, 57, 57, 57, 120], -1)) := M_x6.out.e0
            refine hK.out _ _ ?_ (fun hHeld => ?_)
            · (try dsimp only)
              exact KS.out _ M_x6.out.b
            clear hK K
            (try simp only [Act.put, List.setIfInBounds_toArray, List.set_cons_zero, List.set_cons_succ])
            refine wpAnyH_ready (rs := [0]) (by kernel_rfl) (by simp) ?_
            refine AllReadyH.cons (o := { dst := some 59, op := Op.buildSlice 25 0 #[], type := 25, pos := "law.go:127", after := #[], guard := none }) rfl (fun K hK => ?_) ?_
            · go_simp
              refine hK.out _ _ ?_ (fun hHeld => ?_)
              · (try dsimp only)
                exact KS.out _ M_x60.out.b
              clear hK K
              (try simp only [Act.put, List.setIfInBounds_toArray, List.set_cons_zero, List.set_cons_succ])
              refine wpAnyH_ready (rs := [3]) (by kernel_rfl) (by simp) ?_
              refine AllReadyH.cons (o := { dst := some 62, op := Op.call { callee := Callee.builtin Builtin.append, args := #[Operand.tmp 59, Operand.tmp 61], argTypes := #[25, 25] }, type := 25, pos := "law.go:127", after := #[{ on := 0, ground := Ground.data }, { on := 2, ground := Ground.data }], guard := none }) rfl (fun K hK => ?_) ?_
              · refine app_allO (.tmp 59) (.tmp 61) rfl (M_x60.out.e _ _ rfl) rfl (own_belowP T6X.out M_x60.out.b) rfl (by rw [List.length_append]; simp; omega) M_x60.out.b.size ?_
                intro v3 W_x603 O3 g3 n3
                obtain ⟨A3, l3, k3, rfl⟩ : ∃ A n c, v3 = .slice A n c := by obtain ⟨A, c, e⟩ := own_form O3; exact ⟨A, _, c, e⟩
                have M_x603 : Hid (Mo w6 W_x603 (some (.slice A3 l3 k3, (D ++ [([110, 111, 110, 101, 57, 57, 57, 57, 120], sz)]))) (some W_x.heap.size) (some w6.heap.size) ([110, 111, 110, 101, 57, 57, 57, 57, 120], -1)) := Lib.hid (M_x60.out.ap O3 g3 n3)
                clear O3 g3 n3
                refine hK.out _ _ ?_ (fun hHeld => ?_)
                · (try dsimp only)
                  exact KS.out _ M_x603.out.b
                clear hK K
                (try simp only [Act.put, List.setIfInBounds_toArray, List.set_cons_zero, List.set_cons_succ])
                refine wpAnyH_ready (rs := [6]) (by kernel_rfl) (by simp) ?_
                refine AllReadyH.cons (o := { dst := some 65, op := Op.call { callee := Callee.builtin Builtin.append, args := #[Operand.tmp 62, Operand.tmp 64], argTypes := #[25, 25] }, type := 25, pos := "law.go:127", after := #[{ on := 3, ground := Ground.data }, { on := 5, ground := Ground.data }, { on := 3, ground := Ground.chain }], guard := none }) rfl (fun K hK => ?_) ?_
                · refine app_dcO (.tmp 62) (.tmp 64) rfl (M_x603.out.e _ _ rfl) rfl ([110, 111, 110, 101, 57, 57, 57, 57, 120], -1) W_x.heap.size rfl (M_x603.out.q _ rfl).1 (by rw [List.length_append]; simp; omega) M_x603.out.b.size ?_
                  intro v7 W_x6037 O7 g7 n7 one7
                  obtain ⟨A7, l7, k7, rfl⟩ : ∃ A n c, v7 = .slice A n c := by obtain ⟨A, c, e⟩ := own_form O7; exact ⟨A, _, c, e⟩
                  have M_x6037 : Hid (Mo w6 W_x6037 (some (.slice A7 l7 k7, (D ++ [([110, 111, 110, 101, 57, 57, 57, 57, 120], sz)]) ++ [([110, 111, 110, 101, 57, 57, 57, 57, 120], -1)])) (some W_x.heap.size) (some w6.heap.size) ([110, 111, 110, 101, 57, 57, 57, 57, 120], -1)) := Lib.hid (M_x603.out.ap O7 g7 n7)
                  clear O7 g7 n7 one7
                  have X0 := (M_x6037.out.x _ rfl).1.cell 0
                  have X1 := (M_x6037.out.x _ rfl).1.cell 1
                  have X2 := (M_x6037.out.x _ rfl).1.cell 2
                  have Y0 := (M_x6037.out.x _ rfl).1.frozen 0
                  have Y1 := (M_x6037.out.x _ rfl).1.frozen 1
                  have Y2 := (M_x6037.out.x _ rfl).1.frozen 2
                  simp only [List.getElem?_cons_zero, List.getElem?_cons_succ] at X0 X1 X2
                  obtain ⟨WF, eF, HF⟩ := M_x6037.out.fin (nv := (.slice B N.length cb)) (b := bb)
                  refine hK.out _ _ ?_ (fun hHeld => ?_)
                  · (try dsimp only)
                    exact KS.out _ M_x6037.out.b
                  clear hK K
                  (try simp only [Act.put, List.setIfInBounds_toArray, List.set_cons_zero, List.set_cons_succ])
                  refine wpAnyH_take (i := 11) (oi := { dst := some 70, op := Op.build 28 #[(0, Operand.tmp 65), (1, Operand.tmp 67), (2, Operand.tmp 69)], type := 28, pos := "law.go:127", after := #[{ on := 6, ground := Ground.data }, { on := 8, ground := Ground.data }, { on := 10, ground := Ground.data }], guard := none }) (v := ?_) rfl (by kernel_rfl) (by kernel_rfl) (by kernel_rfl) (fun _ _ _ h => h) (Or.inl ⟨by rfl, ?_⟩) (by assumption) ?_
                  rotate_left
                  · intro w hSw; (try dsimp only at hSw); go_simp <;> (with_reducible rfl)
                  (try simp only [Act.put, List.setIfInBounds_toArray, List.set_cons_zero, List.set_cons_succ])
                  refine wpAnyH_ready (rs := [13]) (by kernel_rfl) (by simp) ?_
                  refine AllReadyH.cons (o := { dst := none, op := Op.store 28 (Operand.tmp 11) (Operand.tmp 70), type := 0, pos := "law.go:127", after := #[{ on := 12, ground := Ground.data }, { on := 11, ground := Ground.data }, { on := 6, ground := Ground.chain }, { on := 0, ground := Ground.phase }, { on := 1, ground := Ground.phase }, { on := 2, ground := Ground.phase }, { on := 3, ground := Ground.phase }, { on := 4, ground := Ground.phase }, { on := 5, ground := Ground.phase }, { on := 6, ground := Ground.phase }, { on := 7, ground := Ground.phase }, { on := 8, ground := Ground.phase }, { on := 9, ground := Ground.phase }, { on := 10, ground := Ground.phase }, { on := 11, ground := Ground.phase }, { on := 12, ground := Ground.phase }], guard := none }) rfl (fun K hK => ?_) ?_
                  · go_simp
                    refine hK.out _ _ ?_ (fun hHeld => ?_)
                    · (try dsimp only)
                      exact KS.out _ HF.out.2.2.1
                    clear hK K
                    (try simp only [Act.put, List.setIfInBounds_toArray, List.set_cons_zero, List.set_cons_succ])
                    refine wpAnyH_done (by kernel_rfl) ?_ _
                    refine NoPanic.normal ?_
                    clear hHeld
                    go_wp2_with fail
                    go_meet
                    exact ⟨_, _, _, _, rfl, HF.out⟩
                  exact AllReadyH.nil
                exact AllReadyH.nil
              exact AllReadyH.nil
            exact AllReadyH.nil
          exact AllReadyH.nil
        exact AllReadyH.nil
    obtain ⟨jy, Ay, ly, ky, rfl, hY⟩ := hcut
    generalize wc = w7 at *
    have HY := Lib.hid hY
    clear hY n0 n1 n2
    have B67 := Lib.hid HY.out.2.2.1
    have B7 := Lib.hid ((B4.out.trans (B36.out.mono B4.out.size)).trans (B67.out.mono (Nat.le_trans B4.out.size B36.out.size)))
    have X7 := Lib.hid (X6.out.below B67.out)
    have T7 := Lib.hid (T6.out.below B67.out)
    have O7 := Lib.hid (own_belowP T6X.out B67.out)
    have hlx : (D ++ [([110, 111, 110, 101, 57, 57, 57, 57, 120], sz)] : List Dc).length ≤ 100000 := by rw [List.length_append]; simp; omega
    have hly : (D ++ [([110, 111, 110, 101, 57, 57, 57, 57, 120], sz)] ++ [([110, 111, 110, 101, 57, 57, 57, 57, 120], -1)] : List Dc).length ≤ 100000 := by rw [List.length_append, List.length_append]; simp; omega
    have hnx : Hid (∀ x ∈ (D ++ [([110, 111, 110, 101, 57, 57, 57, 57, 120], sz)] : List Dc), x.1.length ≤ 100000) := Lib.hid (fun x hx => by
      rcases List.mem_append.1 hx with hx | hx
      · exact hnm.out x hx
      · rw [List.mem_singleton.1 hx]; exact (by decide : ([110, 111, 110, 101, 57, 57, 57, 57, 120] : Bs).length ≤ 100000))
    have hny : Hid (∀ x ∈ (D ++ [([110, 111, 110, 101, 57, 57, 57, 57, 120], sz)] ++ [([110, 111, 110, 101, 57, 57, 57, 57, 120], -1)] : List Dc), x.1.length ≤ 100000) := Lib.hid (fun x hx => by
      rcases List.mem_append.1 hx with hx | hx
      · exact hnx.out x hx
      · rw [List.mem_singleton.1 hx]; exact (by decide : ([110, 111, 110, 101, 57, 57, 57, 57, 120] : Bs).length ≤ 100000))
    have CX := right_any (.slice Ax lx kx) (.slice B N.length cb) bb _ N w7 O7.out (tree_ok T7.out) hlx hnx.out (by rw [hNC.out]; omega)
    have CY := fun W (k : Below w7.heap.size w7 W) => right_any (.slice Ay ly ky) (.slice B N.length cb) bb _ N W (own_belowP (own_0 HY.out.2.1) k) (tree_ok (T7.out.below k)) hly hny.out (by rw [hNC.out]; omega)
    rw [usN_F hND.out] at CX CY
    rw [HR1.out.2] at CY
    have HRX := Lib.hid HR1.out.1
    generalize rightE (D ++ [([110, 111, 110, 101, 57, 57, 57, 57, 120], sz)]) (usF b) = rx at *
    unfold treeV at CX CY
    replace CX := Lib.hid CX
    replace CY := Lib.hid CY
    have n0 := X7.out.cell 0
    have n1 := X7.out.cell 1
    have n2 := X7.out.cell 2
    simp only [List.getElem?_cons_zero, List.getElem?_cons_succ] at n0 n1 n2
    clear HR1 hlx hly
    cases hfl : fullB D arr with
    | true =>
      have hrx : ¬ rx = 0 := fun h => by have := HRX.out.1 h; rw [hfl] at this; cases this
      clear hfl HRX
      go_wp2_with fail
      refine CX.out.mono ?_; rintro e w8 ⟨rfl, b8⟩
      have B8 := Lib.hid b8
      have Y8 := Lib.hid (HY.out.1.below b8)
      have m0 := Y8.out.cell 0
      have m1 := Y8.out.cell 1
      have m2 := Y8.out.cell 2
      simp only [List.getElem?_cons_zero, List.getElem?_cons_succ] at m0 m1 m2
      have C8 := Lib.hid (CY.out w8 B8.out)
      clear b8 CX CY
      go_wp2_with fail
      refine C8.out.mono ?_; rintro e w9 ⟨rfl, b9⟩
      have B9 := Lib.hid (bel_then (B7.out.trans (B8.out.mono B7.out.size)) b9)
      clear b9 C8
      go_wp2
      go_ret
      exact ⟨by first | rfl | (simp; done) | simpa using hrx, B9.out⟩
    | false =>
      have hrx : rx = 0 := HRX.out.2 hfl
      subst hrx
      clear hfl HRX
      go_wp2_with fail
      refine CX.out.mono ?_; rintro e w8 ⟨rfl, b8⟩
      have B8 := Lib.hid b8
      have Y8 := Lib.hid (HY.out.1.below b8)
      have m0 := Y8.out.cell 0
      have m1 := Y8.out.cell 1
      have m2 := Y8.out.cell 2
      simp only [List.getElem?_cons_zero, List.getElem?_cons_succ] at m0 m1 m2
      have C8 := Lib.hid (CY.out w8 B8.out)
      clear b8 CX CY
      go_wp2_with fail
      refine C8.out.mono ?_; rintro e w9 ⟨rfl, b9⟩
      have B9 := Lib.hid (bel_then (B7.out.trans (B8.out.mono B7.out.size)) b9)
      clear b9 C8
      go_wp2
      go_ret
      exact ⟨by first | rfl | (simp; done) | simpa using hrx, B9.out⟩
end Go.Proofs.YtkacplcilkogpaaDoor.Mm
