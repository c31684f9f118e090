/- The statement GateOver, walked, over the contracts of package gate. -/
import Derived.Test.YtjfhoaahohinhaaGateTold
import Derived.ChangeKeysEq
namespace Go.Proofs.Ytjfhoaahohinhaa.Mm
open Go.ChangeShapes Go.WideShapes Go.ChangeAt Go.RowKit
set_option linter.unusedVariables false

theorem part_u32 (xs : Array Value) (i : Nat) (v : Int) (h : xs[i]? = some (.int .u32 v)) (w : World) : (part 22 xs i).run Try.prog w = .ok (.int .u32 v) w := by
  simp [part, isAgg, run_underlying Try.underlying22, h]
theorem eq_item (xs ys : Array Value) (i : Nat) (is : List Nat) (a b : Int) (hx : xs[i]? = some (.int .u32 a)) (hy : ys[i]? = some (.int .u32 b)) (w : World) :
    (Op.eqItems 9998 22 1 xs ys (i :: is)).run Try.prog w = (if a = b then (Op.eqItems 9998 22 1 xs ys is).run Try.prog w else .ok false w) := by
  simp only [Op.eqItems, Sem.run_bind, Nat.mul_one, part_u32 xs i a hx w, part_u32 ys i b hy w, Result.andThen_ok, run_equalIn_int w 9997 22 .u32 .u32 a b Try.underlying22]
  by_cases h : a = b
  · subst h; simp
  · simp [h]
theorem eq8 (t0 t1 t2 t3 t4 t5 t6 t7 : Int) (w : World) :
    (Op.equalIn 9999 23 (.agg #[.int .u32 t0, .int .u32 t1, .int .u32 t2, .int .u32 t3, .int .u32 t4, .int .u32 t5, .int .u32 t6, .int .u32 t7]) (.agg #[.int .u32 t0, .int .u32 t1, .int .u32 t2, .int .u32 t3, .int .u32 t4, .int .u32 t5, .int .u32 t6, .int .u32 t7])).run Try.prog w = .ok true w := by
  obtain ⟨i, hi⟩ : ∃ i, Try.prog.info? 22 = some i := Option.isSome_iff_exists.1 (by kernel_rfl)
  have hc : Try.prog.cellsOf 22 = 1 := by kernel_rfl
  rw [run_equalIn_array w 9998 _ _ Try.underlying23 hi, hc]
  rw [show List.range 8 = [0, 1, 2, 3, 4, 5, 6, 7] from rfl]
  rw [eq_item _ _ 0 _ t0 t0 rfl rfl, if_pos rfl, eq_item _ _ 1 _ t1 t1 rfl rfl, if_pos rfl, eq_item _ _ 2 _ t2 t2 rfl rfl, if_pos rfl, eq_item _ _ 3 _ t3 t3 rfl rfl, if_pos rfl, eq_item _ _ 4 _ t4 t4 rfl rfl, if_pos rfl, eq_item _ _ 5 _ t5 t5 rfl rfl, if_pos rfl, eq_item _ _ 6 _ t6 t6 rfl rfl, if_pos rfl, eq_item _ _ 7 _ t7 t7 rfl rfl, if_pos rfl]
  rfl
theorem krow_off {k : IntKind} {w : World} {A : Option Addr} {cap : Nat} {l : List Int} (r : KRow k w A cap l) (hl : l ≠ []) {g : Nat} (hg : w.heap.size ≤ g) : Off A g := fun x hx he => by
  obtain ⟨p, hp, hb, _⟩ := r.2.2.2 hl
  rw [hp] at hx; cases hx; omega
theorem evrow_off {w : World} {A : Option Addr} {cap : Nat} {l : List Ev} (r : EvRow w A cap l) (hl : l ≠ []) {g : Nat} (hg : w.heap.size ≤ g) : Off A g := fun x hx he => by
  obtain ⟨p, hp, hb, _⟩ := r.2.2.2 hl
  rw [hp] at hx; cases hx; omega
/-- behind gate 0 -/
def overW (v : Int) : Wd := ⟨[1, 2], 0, [(0, v)], true, v⟩
theorem overW_ok {v : Int} (h : U32 v) : (overW v).Ok := ⟨by simp [overW], by simp [overW], by simp [overW], h⟩
theorem over_first (DC : DoGC) (v : Int) (hv : U32 v) (w : World) (g : Nat) (h1 : KRow .u32 w (some ⟨g, 0, none⟩) 2 [1, 2]) :
    Calls Try.prog 11 #[.agg #[.int .u32 0, .int .u32 v, .int .u32 0, .int .u32 0, .int .u32 0, .int .u32 0, .int .u32 0, .int .u32 0, .int .u32 0, .int .u32 0, .int .u32 0], .pointer none, .agg #[.slice (some ⟨g, 0, none⟩) 2 2, .int .i64 0, .slice none 0 0, .bool false, .int .u32 0], .int .i64 0] w fun e w' =>
      ∃ RA rc TA tc, e = .returned (.tuple #[.agg #[.int .u32 0, .int .u32 v, .int .u32 0, .int .u32 0, .int .u32 0, .int .u32 0, .int .u32 0, .int .u32 0, .int .u32 0, .int .u32 0, .int .u32 0], .agg #[.slice RA 2 rc, .int .i64 0, .slice TA 1 tc, .bool true, .int .u32 v]]) ∧ KRow .u32 w' RA rc [1, 2] ∧ EvRow w' TA tc [(0, v)] ∧ Below w.heap.size w w' ∧ OffR w (some ⟨g, 0, none⟩) none RA TA := by
  have h := DC (regC v) none ⟨[1, 2], 0, [], false, 0⟩ 0 0 (regC_ok hv) ⟨by simp, by simp, by simp, u32_0⟩ (by omega) w (some ⟨g, 0, none⟩) 2 none 0 h1 (evRow_nil w) (fun h => by omega)
  refine h.mono ?_
  rintro e w' ⟨RA, rc, TA, tc, rfl, k1, k2, k3, k4⟩
  exact ⟨RA, rc, TA, tc, rfl, k1, k2, k3, k4⟩
theorem over_next (DC : DoGC) (v y : Int) (hv : U32 v) (hy : -9223372036854775808 ≤ y ∧ y ≤ 9223372036854775807) (w : World) (RA : Option Addr) (rc : Nat) (TA : Option Addr) (tc : Nat) (h1 : KRow .u32 w RA rc [1, 2]) (h2 : EvRow w TA tc [(0, v)]) :
    Calls Try.prog 11 #[.agg #[.int .u32 0, .int .u32 v, .int .u32 0, .int .u32 0, .int .u32 0, .int .u32 0, .int .u32 0, .int .u32 0, .int .u32 0, .int .u32 0, .int .u32 0], .pointer none, .agg #[.slice RA 2 rc, .int .i64 0, .slice TA 1 tc, .bool true, .int .u32 v], .int .i64 y] w fun e w' =>
      ∃ RA' rc' TA' tc', e = .returned (.tuple #[.agg #[.int .u32 0, .int .u32 v, .int .u32 0, .int .u32 0, .int .u32 0, .int .u32 0, .int .u32 0, .int .u32 0, .int .u32 0, .int .u32 0, .int .u32 0], .agg #[.slice RA' 2 rc', .int .i64 0, .slice TA' 1 tc', .bool true, .int .u32 v]]) ∧ KRow .u32 w' RA' rc' [1, 2] ∧ EvRow w' TA' tc' [(0, v)] ∧ Below w.heap.size w w' ∧ OffR w RA TA RA' TA' := by
  have h := DC (regC v) none (overW v) y 0 (regC_ok hv) (overW_ok hv) hy w RA rc TA tc h1 h2 (fun _ h => by cases h)
  rw [gateS_over _ _ _ _ rfl] at h
  refine h.mono ?_
  rintro e w' ⟨RA', rc', TA', tc', rfl, k1, k2, k3, k4⟩
  exact ⟨RA', rc', TA', tc', rfl, k1, k2, k3, k4⟩
theorem krow_two (w : World) : KRow .u32 (w.alloc (.cells #[.int .u32 1, .int .u32 2] 22)) (some ⟨w.heap.size, 0, none⟩) 2 [1, 2] := by
  have h := HasB.new w 22 [.int .u32 1, .int .u32 2]
  refine ⟨by simp, by unfold maxLen; omega, fun x hx => by simp at hx; rcases hx with rfl | rfl <;> decide, fun _ => ⟨_, rfl, h.lt, fun i hi => ?_⟩⟩
  have e : (⟨w.heap.size, 0, none⟩ : Addr).add i = ⟨w.heap.size, i, none⟩ := by unfold Addr.add; by_cases h : i = 0 <;> simp [h]
  rw [e]
  have := h.cell i
  match i, hi with
  | 0, _ => exact this
  | 1, _ => exact this
  | i + 2, hi => simp at hi; omega
theorem allocC (w : World) : ∃ W, w.alloc (.cells #[.int .u32 0, .int .u32 0, .int .u32 0, .int .u32 0, .int .u32 0, .int .u32 0, .int .u32 0, .int .u32 0, .int .u32 0, .int .u32 0, .int .u32 0] 35) = W ∧ HasB W w.heap.size 35 [.int .u32 0, .int .u32 0, .int .u32 0, .int .u32 0, .int .u32 0, .int .u32 0, .int .u32 0, .int .u32 0, .int .u32 0, .int .u32 0, .int .u32 0] ∧ Below w.heap.size w W := ⟨_, rfl, HasB.new _ _ _, bel_al (Below.refl _ _) _⟩
theorem allocW (w : World) : ∃ W, w.alloc (.cells #[.slice none 0 0, .int .i64 0, .slice none 0 0, .bool false, .int .u32 0] 40) = W ∧ HasB W w.heap.size 40 [.slice none 0 0, .int .i64 0, .slice none 0 0, .bool false, .int .u32 0] ∧ Below w.heap.size w W := ⟨_, rfl, HasB.new _ _ _, bel_al (Below.refl _ _) _⟩
set_option maxRecDepth 10000 in
set_option maxHeartbeats 8000000 in
theorem vover_few (AW : Hid AwG) (DC : Hid DoGC) (v : Int) (hv : U32 v) (A0 : Option Addr) (ca n : Nat) (l : List Int) (hl : l.length = n) (hn : n ≤ 40) (w : World) (rA : KRow .i64 w A0 ca l) :
    Calls Try.prog 6 #[.int .u32 v, .slice A0 n ca] w fun e w' => e = .returned (.bool true) ∧ Below w.heap.size w w' := by
  have OF := Lib.hid (fun w g h1 => over_first DC.out v hv w g h1)
  have ON := Lib.hid (fun y hy w RA rc TA tc h1 h2 => over_next DC.out v y hv hy w RA rc TA tc h1 h2)
  have R0 := Lib.hid rA
  have HL := Lib.hid hl
  clear rA hl hv
  go_enter Try.func6, Try.ntmps6
  go_wp2_with fail
  refine (AW.out _).mono ?_; rintro e w1 ⟨rfl, hb1⟩
  have B1 := Lib.hid hb1; clear hb1
  go_wp2_with fail
  refine (OF.out _ _ (krow_two w1)).mono ?_; rintro e w2 ⟨RA, rc, TA, tc, rfl, k1, k2, k3, k4⟩
  have B2 := Lib.hid (bel_then (bel_al B1.out (.cells #[.int .u32 1, .int .u32 2] 22)) k3)
  obtain ⟨W3, e3, x3, y3, b3⟩ := boxG w2 #[.int .u32 0, .int .u32 v, .int .u32 0, .int .u32 0, .int .u32 0, .int .u32 0, .int .u32 0, .int .u32 0, .int .u32 0, .int .u32 0, .int .u32 0] (.slice RA 2 rc) (.int .i64 0) (.slice TA 1 tc) (.bool true) (.int .u32 v)
  have B3 := Lib.hid (bel_then B2.out b3)
  have RK := Lib.hid (k1.below b3)
  have RE := Lib.hid (k2.below b3)
  have OA := Lib.hid (And.intro (krow_off k1 (by simp) (Nat.le_succ _)) (evrow_off k2 (by simp) (Nat.le_succ w2.heap.size)))
  have HC := Lib.hid x3
  have HW := Lib.hid y3
  have hwg : w.heap.size ≤ w2.heap.size := B2.out.size
  obtain ⟨⟨v0, v1, v2, v3, v4⟩, ⟨f0, f1, f2, f3, f4⟩⟩ := has5 y3
  have s1 := set_same y3 1 _ rfl
  have s4 := set_same y3 4 _ rfl
  clear k1 k2 k3 k4 b3 x3 y3
  go_wp2_with fail

  clear e3 v0 v1 v2 v3 v4 f0 f1 f2 f3 f4 s1 s4 B1 B2 AW OF
  generalize w2.heap.size = g at *
  generalize hq : W3 = wq at *
  clear hq
  go_loopw [7] (fun i wr => ∃ (j : Nat) (RA : Option Addr) (rc : Nat) (TA : Option Addr) (tc : Nat), i = .int .i64 j ∧ j ≤ n ∧ Hid (HasB wr g 35 [.int .u32 0, .int .u32 v, .int .u32 0, .int .u32 0, .int .u32 0, .int .u32 0, .int .u32 0, .int .u32 0, .int .u32 0, .int .u32 0, .int .u32 0]) ∧ Hid (HasB wr (g + 1) 40 [.slice RA 2 rc, .int .i64 0, .slice TA 1 tc, .bool true, .int .u32 v]) ∧ Hid (KRow .u32 wr RA rc [1, 2]) ∧ Hid (EvRow wr TA tc [(0, v)]) ∧ Hid (Off RA (g + 1) ∧ Off TA (g + 1)) ∧ Hid (Below w.heap.size w wr)) (fun i _ => n - (intOf i).toNat)
  case atStart => exact ⟨0, RA, rc, TA, tc, rfl, by omega, HC, HW, RK, RE, OA, B3⟩
  case round =>
    clear HC HW RK RE OA B3
    obtain ⟨j, RA, rc, TA, tc, rfl, hj, HC, HW, RK, RE, OA, HB⟩ := hrel
    by_cases hlt : j < n
    · obtain ⟨x, hx, hcx, hwf⟩ := (R0.out.below HB.out).at (i := j) (by rw [HL.out]; exact hlt)
      subst hx
      have hxb : x.block < wr.heap.size := by
        obtain ⟨p, hp, hb, _⟩ := (R0.out.below HB.out).2.2.2 (by intro e; have := HL.out; rw [e] at this; simp at this; omega)
        cases hp; exact hb
      generalize l.getD j 0 = y at *
      have D1 := Lib.hid (fun w' (b : Below wr.heap.size wr w') => ON.out y (bounds_i64 hwf) w' RA rc TA tc (RK.out.below b) (RE.out.below b))
      have GL := Lib.hid HW.out.lt
      have KS := Lib.hid (fun (w' : World) (b : Below wr.heap.size wr w') => (show (w'.cell? ⟨g, 0, none⟩ = some (.int .u32 0) ∧ w'.cell? ⟨g, 1, none⟩ = some (.int .u32 v) ∧ w'.cell? ⟨g, 2, none⟩ = some (.int .u32 0) ∧ w'.cell? ⟨g, 3, none⟩ = some (.int .u32 0) ∧ w'.cell? ⟨g, 4, none⟩ = some (.int .u32 0) ∧ w'.cell? ⟨g, 5, none⟩ = some (.int .u32 0) ∧ w'.cell? ⟨g, 6, none⟩ = some (.int .u32 0) ∧ w'.cell? ⟨g, 7, none⟩ = some (.int .u32 0) ∧ w'.cell? ⟨g, 8, none⟩ = some (.int .u32 0) ∧ w'.cell? ⟨g, 9, none⟩ = some (.int .u32 0) ∧ w'.cell? ⟨g, 10, none⟩ = some (.int .u32 0) ∧ w'.cell? ⟨g + 1, 0, none⟩ = some (.slice RA 2 rc) ∧ w'.cell? ⟨g + 1, 1, none⟩ = some (.int .i64 0) ∧ w'.cell? ⟨g + 1, 2, none⟩ = some (.slice TA 1 tc) ∧ w'.cell? ⟨g + 1, 3, none⟩ = some (.bool true) ∧ w'.cell? ⟨g + 1, 4, none⟩ = some (.int .u32 v) ∧ w'.cell? (x.add j) = some (.int .i64 y)) ∧ Below wr.heap.size wr w' from ⟨⟨(HC.out.below b).cell 0, (HC.out.below b).cell 1, (HC.out.below b).cell 2, (HC.out.below b).cell 3, (HC.out.below b).cell 4, (HC.out.below b).cell 5, (HC.out.below b).cell 6, (HC.out.below b).cell 7, (HC.out.below b).cell 8, (HC.out.below b).cell 9, (HC.out.below b).cell 10, (HW.out.below b).cell 0, (HW.out.below b).cell 1, (HW.out.below b).cell 2, (HW.out.below b).cell 3, (HW.out.below b).cell 4, (b.cell (by rw [block_add]; exact hxb)).trans hcx⟩, b⟩))
      have BR := Lib.hid (Below.refl wr.heap.size wr)
      clear hcx hwf
      have hlt' : (j : Int) < (n : Int) := by omega
      go_wp2_with fail
      refine wp_region_noPanic ?_
      refine wp_region_held_drew (S := (fun w' => (w'.cell? ⟨g, 0, none⟩ = some (.int .u32 0) ∧ w'.cell? ⟨g, 1, none⟩ = some (.int .u32 v) ∧ w'.cell? ⟨g, 2, none⟩ = some (.int .u32 0) ∧ w'.cell? ⟨g, 3, none⟩ = some (.int .u32 0) ∧ w'.cell? ⟨g, 4, none⟩ = some (.int .u32 0) ∧ w'.cell? ⟨g, 5, none⟩ = some (.int .u32 0) ∧ w'.cell? ⟨g, 6, none⟩ = some (.int .u32 0) ∧ w'.cell? ⟨g, 7, none⟩ = some (.int .u32 0) ∧ w'.cell? ⟨g, 8, none⟩ = some (.int .u32 0) ∧ w'.cell? ⟨g, 9, none⟩ = some (.int .u32 0) ∧ w'.cell? ⟨g, 10, none⟩ = some (.int .u32 0) ∧ w'.cell? ⟨g + 1, 0, none⟩ = some (.slice RA 2 rc) ∧ w'.cell? ⟨g + 1, 1, none⟩ = some (.int .i64 0) ∧ w'.cell? ⟨g + 1, 2, none⟩ = some (.slice TA 1 tc) ∧ w'.cell? ⟨g + 1, 3, none⟩ = some (.bool true) ∧ w'.cell? ⟨g + 1, 4, none⟩ = some (.int .u32 v) ∧ w'.cell? (x.add j) = some (.int .i64 y)) ∧ Below wr.heap.size wr w')) (by kernel_rfl) ?_ (fun hHeld => ?_)
      · (try dsimp only)
        first | exact KS.out _ BR.out | exact KS.out _ (below_drewV BR.out)
      generalize hn0 : wr.drew = Wn0 at hHeld ⊢
      clear hn0
      refine wpAnyH_take (i := 0) (oi := { dst := some 34, op := Op.load 35 (Operand.tmp 5), type := 35, pos := "law.go:154", after := #[], guard := none }) (v := ?_) rfl (by kernel_rfl) (by kernel_rfl) (by kernel_rfl) (fun _ _ _ h => h) (Or.inl ⟨by rfl, ?_⟩) (by assumption) ?_
      rotate_left
      · intro w hSw; (try dsimp only at hSw); go_simp <;> (with_reducible rfl)
      (try simp only [Act.put, List.setIfInBounds_toArray, List.set_cons_zero, List.set_cons_succ])
      refine wpAnyH_take (i := 1) (oi := { dst := some 35, op := Op.load 40 (Operand.tmp 6), type := 40, pos := "law.go:154", after := #[], guard := none }) (v := ?_) rfl (by kernel_rfl) (by kernel_rfl) (by kernel_rfl) (fun _ _ _ h => h) (Or.inl ⟨by rfl, ?_⟩) (by assumption) ?_
      rotate_left
      · intro w hSw; (try dsimp only at hSw); go_simp <;> (with_reducible rfl)
      (try simp only [Act.put, List.setIfInBounds_toArray, List.set_cons_zero, List.set_cons_succ])
      refine wpAnyH_take (i := 2) (oi := { dst := some 36, op := Op.move (Operand.tmp 1), type := 53, pos := "law.go:154", after := #[], guard := none }) (v := ?_) rfl (by kernel_rfl) (by kernel_rfl) (by kernel_rfl) (fun _ _ _ h => h) (Or.inl ⟨by rfl, ?_⟩) (by assumption) ?_
      rotate_left
      · intro w hSw; (try dsimp only at hSw); go_simp <;> (with_reducible rfl)
      (try simp only [Act.put, List.setIfInBounds_toArray, List.set_cons_zero, List.set_cons_succ])
      refine wpAnyH_take (i := 3) (oi := { dst := some 37, op := Op.move (Operand.tmp 7), type := 3, pos := "law.go:154", after := #[], guard := none }) (v := ?_) rfl (by kernel_rfl) (by kernel_rfl) (by kernel_rfl) (fun _ _ _ h => h) (Or.inl ⟨by rfl, ?_⟩) (by assumption) ?_
      rotate_left
      · intro w hSw; (try dsimp only at hSw); go_simp <;> (with_reducible rfl)
      (try simp only [Act.put, List.setIfInBounds_toArray, List.set_cons_zero, List.set_cons_succ])
      refine wpAnyH_take (i := 4) (oi := { dst := some 38, op := Op.indexAddr 53 (Operand.tmp 36) (Operand.tmp 37), type := 0, pos := "law.go:154", after := #[{ on := 2, ground := Ground.data }, { on := 3, ground := Ground.data }], guard := none }) (v := ?_) rfl (by kernel_rfl) (by kernel_rfl) (by kernel_rfl) (fun _ _ _ h => h) (Or.inl ⟨by rfl, ?_⟩) (by assumption) ?_
      rotate_left
      · intro w hSw; (try dsimp only at hSw); go_simp <;> (with_reducible rfl)
      (try simp only [Act.put, List.setIfInBounds_toArray, List.set_cons_zero, List.set_cons_succ])
      refine wpAnyH_take (i := 5) (oi := { dst := some 39, op := Op.load 3 (Operand.tmp 38), type := 3, pos := "law.go:154", after := #[{ on := 4, ground := Ground.data }], guard := none }) (v := ?_) rfl (by kernel_rfl) (by kernel_rfl) (by kernel_rfl) (fun _ _ _ h => h) (Or.inl ⟨by rfl, ?_⟩) (by assumption) ?_
      rotate_left
      · intro w hSw; (try dsimp only at hSw); go_simp <;> (with_reducible rfl)
      (try simp only [Act.put, List.setIfInBounds_toArray, List.set_cons_zero, List.set_cons_succ])
      refine wpAnyH_ready (rs := [6, 10, 11]) (by kernel_rfl) (by simp) ?_
      refine AllReadyH.cons (o := { dst := some 40, op := Op.call { callee := Callee.value (Operand.func 11), args := #[Operand.tmp 34, Operand.const (Value.pointer none), Operand.tmp 35, Operand.tmp 39], argTypes := #[35, 28, 40, 3] }, type := 41, pos := "law.go:154", after := #[{ on := 0, ground := Ground.data }, { on := 1, ground := Ground.data }, { on := 5, ground := Ground.data }], guard := none }) rfl (fun K hK => ?_) ?_
      · go_simp
        (with_reducible refine (D1.out _ hHeld.2).mono ?_); rintro e Wn1 ⟨RA', rc', TA', tc', rfl, k1, k2, k3, k4⟩
        go_wp2_with fail
        have BN1 := Lib.hid (hHeld.2.trans (k3.mono hHeld.2.size))
        have SZ6 := Lib.hid hHeld.2.size
        have K1 := Lib.hid k1
        have K2 := Lib.hid k2
        have BQ1 := Lib.hid k3
        have K4 := Lib.hid k4
        clear hHeld k1 k2 k3 k4
        refine hK.out _ _ ?_ (fun hHeld => ?_)
        · (try dsimp only)
          exact KS.out _ BN1.out
        clear hK K
        (try simp only [Act.put, List.setIfInBounds_toArray, List.set_cons_zero, List.set_cons_succ])
        refine wpAnyH_take (i := 7) (oi := { dst := some 33, op := Op.move (Operand.tmp 40), type := 41, pos := "law.go:154", after := #[{ on := 6, ground := Ground.data }], guard := none }) (v := ?_) rfl (by kernel_rfl) (by kernel_rfl) (by kernel_rfl) (fun _ _ _ h => h) (Or.inl ⟨by rfl, ?_⟩) (by assumption) ?_
        rotate_left
        · intro w hSw; (try dsimp only at hSw); go_simp <;> (with_reducible rfl)
        (try simp only [Act.put, List.setIfInBounds_toArray, List.set_cons_zero, List.set_cons_succ])
        refine wpAnyH_take (i := 8) (oi := { dst := some 41, op := Op.extract (Operand.tmp 33) 0, type := 35, pos := "law.go:154", after := #[{ on := 7, ground := Ground.data }], guard := none }) (v := ?_) rfl (by kernel_rfl) (by kernel_rfl) (by kernel_rfl) (fun _ _ _ h => h) (Or.inl ⟨by rfl, ?_⟩) (by assumption) ?_
        rotate_left
        · intro w hSw; (try dsimp only at hSw); go_simp <;> (with_reducible rfl)
        (try simp only [Act.put, List.setIfInBounds_toArray, List.set_cons_zero, List.set_cons_succ])
        refine wpAnyH_take (i := 9) (oi := { dst := some 42, op := Op.extract (Operand.tmp 33) 1, type := 40, pos := "law.go:154", after := #[{ on := 7, ground := Ground.data }, { on := 12, ground := Ground.gcOnly Departure.lateStores }], guard := none }) (v := ?_) rfl (by kernel_rfl) (by kernel_rfl) (by kernel_rfl) (fun _ _ _ h => h) (Or.inl ⟨by rfl, ?_⟩) (by assumption) ?_
        rotate_left
        · intro w hSw; (try dsimp only at hSw); go_simp <;> (with_reducible rfl)
        (try simp only [Act.put, List.setIfInBounds_toArray, List.set_cons_zero, List.set_cons_succ])
        refine wpAnyH_ready (rs := [10, 11]) (by kernel_rfl) (by simp) ?_
        refine AllReadyH.cons (o := { dst := some 8, op := Op.alloc 35, type := 0, pos := "law.go:154", after := #[], guard := none }) rfl (fun K hK => ?_) ?_
        · go_simp
          obtain ⟨Wn2, en2, h10, bq2⟩ := allocC (Wn1)
          rw [en2]
          have BN2 := Lib.hid (hHeld.2.trans (bq2.mono hHeld.2.size))
          have SZ10 := Lib.hid hHeld.2.size
          have H10 := Lib.hid h10
          have BQ2 := Lib.hid bq2
          clear hHeld en2 h10 bq2
          refine hK.out _ _ ?_ (fun hHeld => ?_)
          · (try dsimp only)
            exact KS.out _ BN2.out
          clear hK K
          (try simp only [Act.put, List.setIfInBounds_toArray, List.set_cons_zero, List.set_cons_succ])
          refine wpAnyH_ready (rs := [11]) (by kernel_rfl) (by simp) ?_
          refine AllReadyH.cons (o := { dst := some 9, op := Op.alloc 40, type := 0, pos := "law.go:154", after := #[], guard := none }) rfl (fun K hK => ?_) ?_
          · go_simp
            obtain ⟨Wn3, en3, h11, bq3⟩ := allocW (Wn2)
            rw [en3]
            have BN3 := Lib.hid (hHeld.2.trans (bq3.mono hHeld.2.size))
            have SZ11 := Lib.hid hHeld.2.size
            have H11 := Lib.hid h11
            have BQ3 := Lib.hid bq3
            clear hHeld en3 h11 bq3
            refine hK.out _ _ ?_ (fun hHeld => ?_)
            · (try dsimp only)
              exact KS.out _ BN3.out
            clear hK K
            (try simp only [Act.put, List.setIfInBounds_toArray, List.set_cons_zero, List.set_cons_succ])
            refine wpAnyH_ready (rs := [12]) (by kernel_rfl) (by simp) ?_
            refine AllReadyH.cons (o := { dst := none, op := Op.store 35 (Operand.tmp 8) (Operand.tmp 41), type := 0, pos := "law.go:154", after := #[{ on := 10, ground := Ground.data }, { on := 8, ground := Ground.data }, { on := 6, ground := Ground.chain }, { on := 0, ground := Ground.phase }, { on := 1, ground := Ground.phase }, { on := 2, ground := Ground.phase }, { on := 3, ground := Ground.phase }, { on := 4, ground := Ground.phase }, { on := 5, ground := Ground.phase }, { on := 6, ground := Ground.phase }, { on := 7, ground := Ground.phase }, { on := 8, ground := Ground.phase }, { on := 9, ground := Ground.textOnly Departure.lateStores }, { on := 10, ground := Ground.phase }, { on := 11, ground := Ground.phase }], guard := none }) rfl (fun K hK => ?_) ?_
            · have C0 := Lib.hid (H10.out.below BQ3.out)
              have V0 := Lib.hid H11.out
              have R3 := Lib.hid ((K1.out.below BQ2.out).below BQ3.out)
              have E3 := Lib.hid ((K2.out.below BQ2.out).below BQ3.out)
              have OR10 : Hid (Off RA' Wn1.heap.size) := Lib.hid (krow_off K1.out (by simp) (Nat.le_refl _))
              have OT10 : Hid (Off TA' Wn1.heap.size) := Lib.hid (evrow_off K2.out (by simp) (Nat.le_refl _))
              have OR11 : Hid (Off RA' Wn2.heap.size) := Lib.hid (krow_off (K1.out.below BQ2.out) (by simp) (Nat.le_refl _))
              have OT11 : Hid (Off TA' Wn2.heap.size) := Lib.hid (evrow_off (K2.out.below BQ2.out) (by simp) (Nat.le_refl _))
              have OG := Lib.hid (And.intro (K4.out.1 (g + 1) (Nat.lt_of_lt_of_le GL.out SZ6.out) OA.out.1) (K4.out.2 (g + 1) (Nat.lt_of_lt_of_le GL.out SZ6.out) OA.out.2))
              have NE : Hid (Wn2.heap.size ≠ Wn1.heap.size) := Lib.hid (Nat.ne_of_gt H10.out.lt)
              obtain ⟨Wn4, e4⟩ : ∃ W, Wn3.setCell ⟨Wn1.heap.size, 1, none⟩ (.int .u32 v) = W := ⟨_, rfl⟩
              have C4 : HasB Wn4 (Wn1.heap.size) 35 [.int .u32 0, .int .u32 v, .int .u32 0, .int .u32 0, .int .u32 0, .int .u32 0, .int .u32 0, .int .u32 0, .int .u32 0, .int .u32 0, .int .u32 0] := by rw [← e4]; exact has_set C0.out 1 _
              have X4 : Chg (Wn1.heap.size) (Wn1.heap.size) Wn3 Wn4 := by rw [← e4]; exact chg_set (Chg.refl _ _ _) _ (.inl rfl) _ _
              have BN4 := Lib.hid (X4.below BN3.out BN3.out.size SZ10.out SZ10.out)
              have V4 := Lib.hid (V0.out.chg X4 NE.out NE.out)
              have R4 := Lib.hid (R3.out.chg X4 OR10.out OR10.out)
              have E4 := Lib.hid (E3.out.chg X4 OT10.out OT10.out)
              have q0 := set_same C0.out 0 _ rfl
              have q2 := set_same C4 2 _ rfl
              have q3 := set_same C4 3 _ rfl
              have q4 := set_same C4 4 _ rfl
              have q5 := set_same C4 5 _ rfl
              have q6 := set_same C4 6 _ rfl
              have q7 := set_same C4 7 _ rfl
              have q8 := set_same C4 8 _ rfl
              have q9 := set_same C4 9 _ rfl
              have q10 := set_same C4 10 _ rfl
              have mc0 := C0.out.cell 0; have mf0 := C0.out.frozen 0
              have mc1 := C0.out.cell 1; have mf1 := C0.out.frozen 1
              simp only [List.getElem?_cons_succ, List.getElem?_cons_zero] at mc0 mc1
              have nc2 := C4.cell 2; have nf2 := C4.frozen 2
              have nc3 := C4.cell 3; have nf3 := C4.frozen 3
              have nc4 := C4.cell 4; have nf4 := C4.frozen 4
              have nc5 := C4.cell 5; have nf5 := C4.frozen 5
              have nc6 := C4.cell 6; have nf6 := C4.frozen 6
              have nc7 := C4.cell 7; have nf7 := C4.frozen 7
              have nc8 := C4.cell 8; have nf8 := C4.frozen 8
              have nc9 := C4.cell 9; have nf9 := C4.frozen 9
              have nc10 := C4.cell 10; have nf10 := C4.frozen 10
              simp only [List.getElem?_cons_succ, List.getElem?_cons_zero] at nc2 nc3 nc4 nc5 nc6 nc7 nc8 nc9 nc10
              have HC4 := Lib.hid C4
              clear X4 C4 hHeld C0 V0 R3 E3 K1 K2 K4 H10 H11
              go_simp
              clear e4 q0 q2 q3 q4 q5 q6 q7 q8 q9 q10 mc0 mf0 mc1 mf1 nc2 nf2 nc3 nf3 nc4 nf4 nc5 nf5 nc6 nf6 nc7 nf7 nc8 nf8 nc9 nf9 nc10 nf10
              refine hK.out _ _ ?_ (fun hHeld => ?_)
              · (try dsimp only)
                exact KS.out _ BN4.out
              clear hK K
              (try simp only [Act.put, List.setIfInBounds_toArray, List.set_cons_zero, List.set_cons_succ])
              refine wpAnyH_ready (rs := [13]) (by kernel_rfl) (by simp) ?_
              refine AllReadyH.cons (o := { dst := none, op := Op.store 40 (Operand.tmp 9) (Operand.tmp 42), type := 0, pos := "law.go:154", after := #[{ on := 11, ground := Ground.data }, { on := 9, ground := Ground.data }, { on := 12, ground := Ground.chain }, { on := 0, ground := Ground.phase }, { on := 1, ground := Ground.phase }, { on := 2, ground := Ground.phase }, { on := 3, ground := Ground.phase }, { on := 4, ground := Ground.phase }, { on := 5, ground := Ground.phase }, { on := 6, ground := Ground.phase }, { on := 7, ground := Ground.phase }, { on := 8, ground := Ground.phase }, { on := 9, ground := Ground.phase }, { on := 10, ground := Ground.phase }, { on := 11, ground := Ground.phase }, { on := 12, ground := Ground.phase }], guard := none }) rfl (fun K hK => ?_) ?_
              · obtain ⟨Wa, eWa⟩ : ∃ W, Wn4.setCell ⟨Wn2.heap.size, 0, none⟩ (.slice RA' 2 rc') = W := ⟨_, rfl⟩
                have Va : HasB Wa (Wn2.heap.size) 40 [.slice RA' 2 rc', .int .i64 0, .slice none 0 0, .bool false, .int .u32 0] := by rw [← eWa]; exact has_set V4.out 0 _
                obtain ⟨Wb, eWb⟩ : ∃ W, Wa.setCell ⟨Wn2.heap.size, 2, none⟩ (.slice TA' 1 tc') = W := ⟨_, rfl⟩
                have Vb : HasB Wb (Wn2.heap.size) 40 [.slice RA' 2 rc', .int .i64 0, .slice TA' 1 tc', .bool false, .int .u32 0] := by rw [← eWb]; exact has_set Va 2 _
                obtain ⟨Wc, eWc⟩ : ∃ W, Wb.setCell ⟨Wn2.heap.size, 3, none⟩ (.bool true) = W := ⟨_, rfl⟩
                have Vc : HasB Wc (Wn2.heap.size) 40 [.slice RA' 2 rc', .int .i64 0, .slice TA' 1 tc', .bool true, .int .u32 0] := by rw [← eWc]; exact has_set Vb 3 _
                obtain ⟨Wn5, eWn5⟩ : ∃ W, Wc.setCell ⟨Wn2.heap.size, 4, none⟩ (.int .u32 v) = W := ⟨_, rfl⟩
                have V5 : HasB Wn5 (Wn2.heap.size) 40 [.slice RA' 2 rc', .int .i64 0, .slice TA' 1 tc', .bool true, .int .u32 v] := by rw [← eWn5]; exact has_set Vc 4 _
                have X5 : Chg (Wn2.heap.size) (Wn2.heap.size) Wn4 Wn5 := by rw [← eWn5, ← eWc, ← eWb, ← eWa]; exact chg_set (chg_set (chg_set (chg_set (Chg.refl _ _ _) _ (.inl rfl) _ _) _ (.inl rfl) _ _) _ (.inl rfl) _ _) _ (.inl rfl) _ _
                have BN5 := Lib.hid (X5.below BN4.out BN4.out.size SZ11.out SZ11.out)
                have C5 := Lib.hid (HC4.out.chg X5 (Ne.symm NE.out) (Ne.symm NE.out))
                have R5 := Lib.hid (R4.out.chg X5 OR11.out OR11.out)
                have E5 := Lib.hid (E4.out.chg X5 OT11.out OT11.out)
                have q1 := set_same Va 1 _ rfl
                have mc0 := V4.out.cell 0; have mf0 := V4.out.frozen 0
                simp only [List.getElem?_cons_zero] at mc0
                have nc1 := Va.cell 1; have nf1 := Va.frozen 1
                have nc2 := Va.cell 2; have nf2 := Va.frozen 2
                simp only [List.getElem?_cons_succ, List.getElem?_cons_zero] at nc1 nc2
                have oc3 := Vb.cell 3; have of3 := Vb.frozen 3
                simp only [List.getElem?_cons_succ, List.getElem?_cons_zero] at oc3
                have rc4 := Vc.cell 4; have rf4 := Vc.frozen 4
                simp only [List.getElem?_cons_succ, List.getElem?_cons_zero] at rc4
                have U5 := Lib.hid V5
                clear X5 V5 hHeld V4 R4 E4 HC4
                go_simp
                clear eWa eWb eWc eWn5 q1 mc0 mf0 nc1 nf1 nc2 nf2 oc3 of3 rc4 rf4 Va Vb Vc
                refine hK.out _ _ ?_ (fun hHeld => ?_)
                · (try dsimp only)
                  exact KS.out _ BN5.out
                clear hK K
                (try simp only [Act.put, List.setIfInBounds_toArray, List.set_cons_zero, List.set_cons_succ])
                refine wpAnyH_done (by kernel_rfl) ?_ _
                refine NoPanic.normal ?_
                clear hHeld
                generalize Wn1.heap.size = b8 at *
                generalize Wn2.heap.size = b9 at *
                clear BN1 BQ1 BN2 BQ2 BN3 BQ3 BN4 KS BR SZ6 SZ10 SZ11 OR10 OR11 OT10 OT11 D1
                have HC5 := Lib.hid (HC.out.below BN5.out)
                have HW5 := Lib.hid (HW.out.below BN5.out)
                have B5 := Lib.hid (HB.out.trans (BN5.out.mono HB.out.size))
                obtain ⟨W6, e6⟩ : ∃ W, Wn5.setCell ⟨g + 1, 0, none⟩ (.slice RA' 2 rc') = W := ⟨_, rfl⟩
                have V6 : HasB W6 (g + 1) 40 [.slice RA' 2 rc', .int .i64 0, .slice TA 1 tc, .bool true, .int .u32 v] := by rw [← e6]; exact has_set HW5.out 0 _
                obtain ⟨W7, e7⟩ : ∃ W, W6.setCell ⟨g + 1, 2, none⟩ (.slice TA' 1 tc') = W := ⟨_, rfl⟩
                have V7 : HasB W7 (g + 1) 40 [.slice RA' 2 rc', .int .i64 0, .slice TA' 1 tc', .bool true, .int .u32 v] := by rw [← e7]; exact has_set V6 2 _
                have X7 : Chg (g + 1) (g + 1) Wn5 W7 := by rw [← e7, ← e6]; exact chg_set (chg_set (Chg.refl _ _ _) _ (.inl rfl) _ _) _ (.inl rfl) _ _
                have HC7 := Lib.hid (HC5.out.chg X7 (by omega) (by omega))
                have HW7 := Lib.hid V7
                have R7 := Lib.hid (R5.out.chg X7 OG.out.1 OG.out.1)
                have E7 := Lib.hid (E5.out.chg X7 OG.out.2 OG.out.2)
                have B7 := Lib.hid (X7.below B5.out B5.out.size (by omega) (by omega))
                have q1 := set_same V6 1 _ rfl
                have q3 := set_same V7 3 _ rfl
                have q4 := set_same V7 4 _ rfl
                have ac0 := C5.out.cell 0; have af0 := C5.out.frozen 0
                have ac1 := C5.out.cell 1; have af1 := C5.out.frozen 1
                have ac2 := C5.out.cell 2; have af2 := C5.out.frozen 2
                have ac3 := C5.out.cell 3; have af3 := C5.out.frozen 3
                have ac4 := C5.out.cell 4; have af4 := C5.out.frozen 4
                have ac5 := C5.out.cell 5; have af5 := C5.out.frozen 5
                have ac6 := C5.out.cell 6; have af6 := C5.out.frozen 6
                have ac7 := C5.out.cell 7; have af7 := C5.out.frozen 7
                have ac8 := C5.out.cell 8; have af8 := C5.out.frozen 8
                have ac9 := C5.out.cell 9; have af9 := C5.out.frozen 9
                have ac10 := C5.out.cell 10; have af10 := C5.out.frozen 10
                simp only [List.getElem?_cons_succ, List.getElem?_cons_zero] at ac0 ac1 ac2 ac3 ac4 ac5 ac6 ac7 ac8 ac9 ac10
                have bc0 := HC5.out.cell 0; have bf0 := HC5.out.frozen 0
                have bc1 := HC5.out.cell 1; have bf1 := HC5.out.frozen 1
                have bc2 := HC5.out.cell 2; have bf2 := HC5.out.frozen 2
                have bc3 := HC5.out.cell 3; have bf3 := HC5.out.frozen 3
                have bc4 := HC5.out.cell 4; have bf4 := HC5.out.frozen 4
                have bc5 := HC5.out.cell 5; have bf5 := HC5.out.frozen 5
                have bc6 := HC5.out.cell 6; have bf6 := HC5.out.frozen 6
                have bc7 := HC5.out.cell 7; have bf7 := HC5.out.frozen 7
                have bc8 := HC5.out.cell 8; have bf8 := HC5.out.frozen 8
                have bc9 := HC5.out.cell 9; have bf9 := HC5.out.frozen 9
                have bc10 := HC5.out.cell 10; have bf10 := HC5.out.frozen 10
                simp only [List.getElem?_cons_succ, List.getElem?_cons_zero] at bc0 bc1 bc2 bc3 bc4 bc5 bc6 bc7 bc8 bc9 bc10
                have cc0 := U5.out.cell 0; have cf0 := U5.out.frozen 0
                have cc1 := U5.out.cell 1; have cf1 := U5.out.frozen 1
                have cc2 := U5.out.cell 2; have cf2 := U5.out.frozen 2
                have cc3 := U5.out.cell 3; have cf3 := U5.out.frozen 3
                have cc4 := U5.out.cell 4; have cf4 := U5.out.frozen 4
                simp only [List.getElem?_cons_succ, List.getElem?_cons_zero] at cc0 cc1 cc2 cc3 cc4
                have dc0 := HW5.out.cell 0; have df0 := HW5.out.frozen 0
                have dc1 := HW5.out.cell 1; have df1 := HW5.out.frozen 1
                have dc2 := HW5.out.cell 2; have df2 := HW5.out.frozen 2
                have dc3 := HW5.out.cell 3; have df3 := HW5.out.frozen 3
                have dc4 := HW5.out.cell 4; have df4 := HW5.out.frozen 4
                simp only [List.getElem?_cons_succ, List.getElem?_cons_zero] at dc0 dc1 dc2 dc3 dc4
                have mc1 := V6.cell 1; have mf1 := V6.frozen 1
                have mc2 := V6.cell 2; have mf2 := V6.frozen 2
                simp only [List.getElem?_cons_succ, List.getElem?_cons_zero] at mc1 mc2
                have nc3 := V7.cell 3; have nf3 := V7.frozen 3
                have nc4 := V7.cell 4; have nf4 := V7.frozen 4
                simp only [List.getElem?_cons_succ, List.getElem?_cons_zero] at nc3 nc4
                have EQ8 := eq8 v 0 0 0 0 0 0 0 Wn5
                clear X7 V6 V7 HC5 HW5 B5 BN5 C5 U5 R5 E5 NE
                go_wp2_with fail
                go_roundw
                case rel => exact ⟨j + 1, RA', rc', TA', tc', by go_num, by omega, HC7, HW7, R7, E7, OG, B7⟩
                case measure => simp [intOf]; omega
              exact AllReadyH.nil
            exact AllReadyH.nil
          exact AllReadyH.nil
        refine AllReadyH.cons (o := { dst := some 9, op := Op.alloc 40, type := 0, pos := "law.go:154", after := #[], guard := none }) rfl (fun K hK => ?_) ?_
        · go_simp
          obtain ⟨Wn2, en2, h11, bq2⟩ := allocW (Wn1)
          rw [en2]
          have BN2 := Lib.hid (hHeld.2.trans (bq2.mono hHeld.2.size))
          have SZ11 := Lib.hid hHeld.2.size
          have H11 := Lib.hid h11
          have BQ2 := Lib.hid bq2
          clear hHeld en2 h11 bq2
          refine hK.out _ _ ?_ (fun hHeld => ?_)
          · (try dsimp only)
            exact KS.out _ BN2.out
          clear hK K
          (try simp only [Act.put, List.setIfInBounds_toArray, List.set_cons_zero, List.set_cons_succ])
          refine wpAnyH_ready (rs := [10]) (by kernel_rfl) (by simp) ?_
          refine AllReadyH.cons (o := { dst := some 8, op := Op.alloc 35, type := 0, pos := "law.go:154", after := #[], guard := none }) rfl (fun K hK => ?_) ?_
          · go_simp
            obtain ⟨Wn3, en3, h10, bq3⟩ := allocC (Wn2)
            rw [en3]
            have BN3 := Lib.hid (hHeld.2.trans (bq3.mono hHeld.2.size))
            have SZ10 := Lib.hid hHeld.2.size
            have H10 := Lib.hid h10
            have BQ3 := Lib.hid bq3
            clear hHeld en3 h10 bq3
            refine hK.out _ _ ?_ (fun hHeld => ?_)
            · (try dsimp only)
              exact KS.out _ BN3.out
            clear hK K
            (try simp only [Act.put, List.setIfInBounds_toArray, List.set_cons_zero, List.set_cons_succ])
            refine wpAnyH_ready (rs := [12]) (by kernel_rfl) (by simp) ?_
            refine AllReadyH.cons (o := { dst := none, op := Op.store 35 (Operand.tmp 8) (Operand.tmp 41), type := 0, pos := "law.go:154", after := #[{ on := 10, ground := Ground.data }, { on := 8, ground := Ground.data }, { on := 6, ground := Ground.chain }, { on := 0, ground := Ground.phase }, { on := 1, ground := Ground.phase }, { on := 2, ground := Ground.phase }, { on := 3, ground := Ground.phase }, { on := 4, ground := Ground.phase }, { on := 5, ground := Ground.phase }, { on := 6, ground := Ground.phase }, { on := 7, ground := Ground.phase }, { on := 8, ground := Ground.phase }, { on := 9, ground := Ground.textOnly Departure.lateStores }, { on := 10, ground := Ground.phase }, { on := 11, ground := Ground.phase }], guard := none }) rfl (fun K hK => ?_) ?_
            · have C0 := Lib.hid H10.out
              have V0 := Lib.hid (H11.out.below BQ3.out)
              have R3 := Lib.hid ((K1.out.below BQ2.out).below BQ3.out)
              have E3 := Lib.hid ((K2.out.below BQ2.out).below BQ3.out)
              have OR10 : Hid (Off RA' Wn2.heap.size) := Lib.hid (krow_off (K1.out.below BQ2.out) (by simp) (Nat.le_refl _))
              have OT10 : Hid (Off TA' Wn2.heap.size) := Lib.hid (evrow_off (K2.out.below BQ2.out) (by simp) (Nat.le_refl _))
              have OR11 : Hid (Off RA' Wn1.heap.size) := Lib.hid (krow_off K1.out (by simp) (Nat.le_refl _))
              have OT11 : Hid (Off TA' Wn1.heap.size) := Lib.hid (evrow_off K2.out (by simp) (Nat.le_refl _))
              have OG := Lib.hid (And.intro (K4.out.1 (g + 1) (Nat.lt_of_lt_of_le GL.out SZ6.out) OA.out.1) (K4.out.2 (g + 1) (Nat.lt_of_lt_of_le GL.out SZ6.out) OA.out.2))
              have NE : Hid (Wn1.heap.size ≠ Wn2.heap.size) := Lib.hid (Nat.ne_of_lt H11.out.lt)
              obtain ⟨Wn4, e4⟩ : ∃ W, Wn3.setCell ⟨Wn2.heap.size, 1, none⟩ (.int .u32 v) = W := ⟨_, rfl⟩
              have C4 : HasB Wn4 (Wn2.heap.size) 35 [.int .u32 0, .int .u32 v, .int .u32 0, .int .u32 0, .int .u32 0, .int .u32 0, .int .u32 0, .int .u32 0, .int .u32 0, .int .u32 0, .int .u32 0] := by rw [← e4]; exact has_set C0.out 1 _
              have X4 : Chg (Wn2.heap.size) (Wn2.heap.size) Wn3 Wn4 := by rw [← e4]; exact chg_set (Chg.refl _ _ _) _ (.inl rfl) _ _
              have BN4 := Lib.hid (X4.below BN3.out BN3.out.size SZ10.out SZ10.out)
              have V4 := Lib.hid (V0.out.chg X4 NE.out NE.out)
              have R4 := Lib.hid (R3.out.chg X4 OR10.out OR10.out)
              have E4 := Lib.hid (E3.out.chg X4 OT10.out OT10.out)
              have q0 := set_same C0.out 0 _ rfl
              have q2 := set_same C4 2 _ rfl
              have q3 := set_same C4 3 _ rfl
              have q4 := set_same C4 4 _ rfl
              have q5 := set_same C4 5 _ rfl
              have q6 := set_same C4 6 _ rfl
              have q7 := set_same C4 7 _ rfl
              have q8 := set_same C4 8 _ rfl
              have q9 := set_same C4 9 _ rfl
              have q10 := set_same C4 10 _ rfl
              have mc0 := C0.out.cell 0; have mf0 := C0.out.frozen 0
              have mc1 := C0.out.cell 1; have mf1 := C0.out.frozen 1
              simp only [List.getElem?_cons_succ, List.getElem?_cons_zero] at mc0 mc1
              have nc2 := C4.cell 2; have nf2 := C4.frozen 2
              have nc3 := C4.cell 3; have nf3 := C4.frozen 3
              have nc4 := C4.cell 4; have nf4 := C4.frozen 4
              have nc5 := C4.cell 5; have nf5 := C4.frozen 5
              have nc6 := C4.cell 6; have nf6 := C4.frozen 6
              have nc7 := C4.cell 7; have nf7 := C4.frozen 7
              have nc8 := C4.cell 8; have nf8 := C4.frozen 8
              have nc9 := C4.cell 9; have nf9 := C4.frozen 9
              have nc10 := C4.cell 10; have nf10 := C4.frozen 10
              simp only [List.getElem?_cons_succ, List.getElem?_cons_zero] at nc2 nc3 nc4 nc5 nc6 nc7 nc8 nc9 nc10
              have HC4 := Lib.hid C4
              clear X4 C4 hHeld C0 V0 R3 E3 K1 K2 K4 H10 H11
              go_simp
              clear e4 q0 q2 q3 q4 q5 q6 q7 q8 q9 q10 mc0 mf0 mc1 mf1 nc2 nf2 nc3 nf3 nc4 nf4 nc5 nf5 nc6 nf6 nc7 nf7 nc8 nf8 nc9 nf9 nc10 nf10
              refine hK.out _ _ ?_ (fun hHeld => ?_)
              · (try dsimp only)
                exact KS.out _ BN4.out
              clear hK K
              (try simp only [Act.put, List.setIfInBounds_toArray, List.set_cons_zero, List.set_cons_succ])
              refine wpAnyH_ready (rs := [13]) (by kernel_rfl) (by simp) ?_
              refine AllReadyH.cons (o := { dst := none, op := Op.store 40 (Operand.tmp 9) (Operand.tmp 42), type := 0, pos := "law.go:154", after := #[{ on := 11, ground := Ground.data }, { on := 9, ground := Ground.data }, { on := 12, ground := Ground.chain }, { on := 0, ground := Ground.phase }, { on := 1, ground := Ground.phase }, { on := 2, ground := Ground.phase }, { on := 3, ground := Ground.phase }, { on := 4, ground := Ground.phase }, { on := 5, ground := Ground.phase }, { on := 6, ground := Ground.phase }, { on := 7, ground := Ground.phase }, { on := 8, ground := Ground.phase }, { on := 9, ground := Ground.phase }, { on := 10, ground := Ground.phase }, { on := 11, ground := Ground.phase }, { on := 12, ground := Ground.phase }], guard := none }) rfl (fun K hK => ?_) ?_
              · obtain ⟨Wa, eWa⟩ : ∃ W, Wn4.setCell ⟨Wn1.heap.size, 0, none⟩ (.slice RA' 2 rc') = W := ⟨_, rfl⟩
                have Va : HasB Wa (Wn1.heap.size) 40 [.slice RA' 2 rc', .int .i64 0, .slice none 0 0, .bool false, .int .u32 0] := by rw [← eWa]; exact has_set V4.out 0 _
                obtain ⟨Wb, eWb⟩ : ∃ W, Wa.setCell ⟨Wn1.heap.size, 2, none⟩ (.slice TA' 1 tc') = W := ⟨_, rfl⟩
                have Vb : HasB Wb (Wn1.heap.size) 40 [.slice RA' 2 rc', .int .i64 0, .slice TA' 1 tc', .bool false, .int .u32 0] := by rw [← eWb]; exact has_set Va 2 _
                obtain ⟨Wc, eWc⟩ : ∃ W, Wb.setCell ⟨Wn1.heap.size, 3, none⟩ (.bool true) = W := ⟨_, rfl⟩
                have Vc : HasB Wc (Wn1.heap.size) 40 [.slice RA' 2 rc', .int .i64 0, .slice TA' 1 tc', .bool true, .int .u32 0] := by rw [← eWc]; exact has_set Vb 3 _
                obtain ⟨Wn5, eWn5⟩ : ∃ W, Wc.setCell ⟨Wn1.heap.size, 4, none⟩ (.int .u32 v) = W := ⟨_, rfl⟩
                have V5 : HasB Wn5 (Wn1.heap.size) 40 [.slice RA' 2 rc', .int .i64 0, .slice TA' 1 tc', .bool true, .int .u32 v] := by rw [← eWn5]; exact has_set Vc 4 _
                have X5 : Chg (Wn1.heap.size) (Wn1.heap.size) Wn4 Wn5 := by rw [← eWn5, ← eWc, ← eWb, ← eWa]; exact chg_set (chg_set (chg_set (chg_set (Chg.refl _ _ _) _ (.inl rfl) _ _) _ (.inl rfl) _ _) _ (.inl rfl) _ _) _ (.inl rfl) _ _
                have BN5 := Lib.hid (X5.below BN4.out BN4.out.size SZ11.out SZ11.out)
                have C5 := Lib.hid (HC4.out.chg X5 (Ne.symm NE.out) (Ne.symm NE.out))
                have R5 := Lib.hid (R4.out.chg X5 OR11.out OR11.out)
                have E5 := Lib.hid (E4.out.chg X5 OT11.out OT11.out)
                have q1 := set_same Va 1 _ rfl
                have mc0 := V4.out.cell 0; have mf0 := V4.out.frozen 0
                simp only [List.getElem?_cons_zero] at mc0
                have nc1 := Va.cell 1; have nf1 := Va.frozen 1
                have nc2 := Va.cell 2; have nf2 := Va.frozen 2
                simp only [List.getElem?_cons_succ, List.getElem?_cons_zero] at nc1 nc2
                have oc3 := Vb.cell 3; have of3 := Vb.frozen 3
                simp only [List.getElem?_cons_succ, List.getElem?_cons_zero] at oc3
                have rc4 := Vc.cell 4; have rf4 := Vc.frozen 4
                simp only [List.getElem?_cons_succ, List.getElem?_cons_zero] at rc4
                have U5 := Lib.hid V5
                clear X5 V5 hHeld V4 R4 E4 HC4
                go_simp
                clear eWa eWb eWc eWn5 q1 mc0 mf0 nc1 nf1 nc2 nf2 oc3 of3 rc4 rf4 Va Vb Vc
                refine hK.out _ _ ?_ (fun hHeld => ?_)
                · (try dsimp only)
                  exact KS.out _ BN5.out
                clear hK K
                (try simp only [Act.put, List.setIfInBounds_toArray, List.set_cons_zero, List.set_cons_succ])
                refine wpAnyH_done (by kernel_rfl) ?_ _
                refine NoPanic.normal ?_
                clear hHeld
                generalize Wn2.heap.size = b8 at *
                generalize Wn1.heap.size = b9 at *
                clear BN1 BQ1 BN2 BQ2 BN3 BQ3 BN4 KS BR SZ6 SZ10 SZ11 OR10 OR11 OT10 OT11 D1
                have HC5 := Lib.hid (HC.out.below BN5.out)
                have HW5 := Lib.hid (HW.out.below BN5.out)
                have B5 := Lib.hid (HB.out.trans (BN5.out.mono HB.out.size))
                obtain ⟨W6, e6⟩ : ∃ W, Wn5.setCell ⟨g + 1, 0, none⟩ (.slice RA' 2 rc') = W := ⟨_, rfl⟩
                have V6 : HasB W6 (g + 1) 40 [.slice RA' 2 rc', .int .i64 0, .slice TA 1 tc, .bool true, .int .u32 v] := by rw [← e6]; exact has_set HW5.out 0 _
                obtain ⟨W7, e7⟩ : ∃ W, W6.setCell ⟨g + 1, 2, none⟩ (.slice TA' 1 tc') = W := ⟨_, rfl⟩
                have V7 : HasB W7 (g + 1) 40 [.slice RA' 2 rc', .int .i64 0, .slice TA' 1 tc', .bool true, .int .u32 v] := by rw [← e7]; exact has_set V6 2 _
                have X7 : Chg (g + 1) (g + 1) Wn5 W7 := by rw [← e7, ← e6]; exact chg_set (chg_set (Chg.refl _ _ _) _ (.inl rfl) _ _) _ (.inl rfl) _ _
                have HC7 := Lib.hid (HC5.out.chg X7 (by omega) (by omega))
                have HW7 := Lib.hid V7
                have R7 := Lib.hid (R5.out.chg X7 OG.out.1 OG.out.1)
                have E7 := Lib.hid (E5.out.chg X7 OG.out.2 OG.out.2)
                have B7 := Lib.hid (X7.below B5.out B5.out.size (by omega) (by omega))
                have q1 := set_same V6 1 _ rfl
                have q3 := set_same V7 3 _ rfl
                have q4 := set_same V7 4 _ rfl
                have ac0 := C5.out.cell 0; have af0 := C5.out.frozen 0
                have ac1 := C5.out.cell 1; have af1 := C5.out.frozen 1
                have ac2 := C5.out.cell 2; have af2 := C5.out.frozen 2
                have ac3 := C5.out.cell 3; have af3 := C5.out.frozen 3
                have ac4 := C5.out.cell 4; have af4 := C5.out.frozen 4
                have ac5 := C5.out.cell 5; have af5 := C5.out.frozen 5
                have ac6 := C5.out.cell 6; have af6 := C5.out.frozen 6
                have ac7 := C5.out.cell 7; have af7 := C5.out.frozen 7
                have ac8 := C5.out.cell 8; have af8 := C5.out.frozen 8
                have ac9 := C5.out.cell 9; have af9 := C5.out.frozen 9
                have ac10 := C5.out.cell 10; have af10 := C5.out.frozen 10
                simp only [List.getElem?_cons_succ, List.getElem?_cons_zero] at ac0 ac1 ac2 ac3 ac4 ac5 ac6 ac7 ac8 ac9 ac10
                have bc0 := HC5.out.cell 0; have bf0 := HC5.out.frozen 0
                have bc1 := HC5.out.cell 1; have bf1 := HC5.out.frozen 1
                have bc2 := HC5.out.cell 2; have bf2 := HC5.out.frozen 2
                have bc3 := HC5.out.cell 3; have bf3 := HC5.out.frozen 3
                have bc4 := HC5.out.cell 4; have bf4 := HC5.out.frozen 4
                have bc5 := HC5.out.cell 5; have bf5 := HC5.out.frozen 5
                have bc6 := HC5.out.cell 6; have bf6 := HC5.out.frozen 6
                have bc7 := HC5.out.cell 7; have bf7 := HC5.out.frozen 7
                have bc8 := HC5.out.cell 8; have bf8 := HC5.out.frozen 8
                have bc9 := HC5.out.cell 9; have bf9 := HC5.out.frozen 9
                have bc10 := HC5.out.cell 10; have bf10 := HC5.out.frozen 10
                simp only [List.getElem?_cons_succ, List.getElem?_cons_zero] at bc0 bc1 bc2 bc3 bc4 bc5 bc6 bc7 bc8 bc9 bc10
                have cc0 := U5.out.cell 0; have cf0 := U5.out.frozen 0
                have cc1 := U5.out.cell 1; have cf1 := U5.out.frozen 1
                have cc2 := U5.out.cell 2; have cf2 := U5.out.frozen 2
                have cc3 := U5.out.cell 3; have cf3 := U5.out.frozen 3
                have cc4 := U5.out.cell 4; have cf4 := U5.out.frozen 4
                simp only [List.getElem?_cons_succ, List.getElem?_cons_zero] at cc0 cc1 cc2 cc3 cc4
                have dc0 := HW5.out.cell 0; have df0 := HW5.out.frozen 0
                have dc1 := HW5.out.cell 1; have df1 := HW5.out.frozen 1
                have dc2 := HW5.out.cell 2; have df2 := HW5.out.frozen 2
                have dc3 := HW5.out.cell 3; have df3 := HW5.out.frozen 3
                have dc4 := HW5.out.cell 4; have df4 := HW5.out.frozen 4
                simp only [List.getElem?_cons_succ, List.getElem?_cons_zero] at dc0 dc1 dc2 dc3 dc4
                have mc1 := V6.cell 1; have mf1 := V6.frozen 1
                have mc2 := V6.cell 2; have mf2 := V6.frozen 2
                simp only [List.getElem?_cons_succ, List.getElem?_cons_zero] at mc1 mc2
                have nc3 := V7.cell 3; have nf3 := V7.frozen 3
                have nc4 := V7.cell 4; have nf4 := V7.frozen 4
                simp only [List.getElem?_cons_succ, List.getElem?_cons_zero] at nc3 nc4
                have EQ8 := eq8 v 0 0 0 0 0 0 0 Wn5
                clear X7 V6 V7 HC5 HW5 B5 BN5 C5 U5 R5 E5 NE
                go_wp2_with fail
                go_roundw
                case rel => exact ⟨j + 1, RA', rc', TA', tc', by go_num, by omega, HC7, HW7, R7, E7, OG, B7⟩
                case measure => simp [intOf]; omega
              exact AllReadyH.nil
            exact AllReadyH.nil
          exact AllReadyH.nil
        exact AllReadyH.nil
      refine AllReadyH.cons (o := { dst := some 8, op := Op.alloc 35, type := 0, pos := "law.go:154", after := #[], guard := none }) rfl (fun K hK => ?_) ?_
      · go_simp
        obtain ⟨Wn1, en1, h10, bq1⟩ := allocC (Wn0)
        rw [en1]
        have BN1 := Lib.hid (hHeld.2.trans (bq1.mono hHeld.2.size))
        have SZ10 := Lib.hid hHeld.2.size
        have H10 := Lib.hid h10
        have BQ1 := Lib.hid bq1
        clear hHeld en1 h10 bq1
        refine hK.out _ _ ?_ (fun hHeld => ?_)
        · (try dsimp only)
          exact KS.out _ BN1.out
        clear hK K
        (try simp only [Act.put, List.setIfInBounds_toArray, List.set_cons_zero, List.set_cons_succ])
        refine wpAnyH_ready (rs := [6, 11]) (by kernel_rfl) (by simp) ?_
        refine AllReadyH.cons (o := { dst := some 40, op := Op.call { callee := Callee.value (Operand.func 11), args := #[Operand.tmp 34, Operand.const (Value.pointer none), Operand.tmp 35, Operand.tmp 39], argTypes := #[35, 28, 40, 3] }, type := 41, pos := "law.go:154", after := #[{ on := 0, ground := Ground.data }, { on := 1, ground := Ground.data }, { on := 5, ground := Ground.data }], guard := none }) rfl (fun K hK => ?_) ?_
        · go_simp
          (with_reducible refine (D1.out _ hHeld.2).mono ?_); rintro e Wn2 ⟨RA', rc', TA', tc', rfl, k1, k2, k3, k4⟩
          go_wp2_with fail
          have BN2 := Lib.hid (hHeld.2.trans (k3.mono hHeld.2.size))
          have SZ6 := Lib.hid hHeld.2.size
          have K1 := Lib.hid k1
          have K2 := Lib.hid k2
          have BQ2 := Lib.hid k3
          have K4 := Lib.hid k4
          clear hHeld k1 k2 k3 k4
          refine hK.out _ _ ?_ (fun hHeld => ?_)
          · (try dsimp only)
            exact KS.out _ BN2.out
          clear hK K
          (try simp only [Act.put, List.setIfInBounds_toArray, List.set_cons_zero, List.set_cons_succ])
          refine wpAnyH_take (i := 7) (oi := { dst := some 33, op := Op.move (Operand.tmp 40), type := 41, pos := "law.go:154", after := #[{ on := 6, ground := Ground.data }], guard := none }) (v := ?_) rfl (by kernel_rfl) (by kernel_rfl) (by kernel_rfl) (fun _ _ _ h => h) (Or.inl ⟨by rfl, ?_⟩) (by assumption) ?_
          rotate_left
          · intro w hSw; (try dsimp only at hSw); go_simp <;> (with_reducible rfl)
          (try simp only [Act.put, List.setIfInBounds_toArray, List.set_cons_zero, List.set_cons_succ])
          refine wpAnyH_take (i := 8) (oi := { dst := some 41, op := Op.extract (Operand.tmp 33) 0, type := 35, pos := "law.go:154", after := #[{ on := 7, ground := Ground.data }], guard := none }) (v := ?_) rfl (by kernel_rfl) (by kernel_rfl) (by kernel_rfl) (fun _ _ _ h => h) (Or.inl ⟨by rfl, ?_⟩) (by assumption) ?_
          rotate_left
          · intro w hSw; (try dsimp only at hSw); go_simp <;> (with_reducible rfl)
          (try simp only [Act.put, List.setIfInBounds_toArray, List.set_cons_zero, List.set_cons_succ])
          refine wpAnyH_take (i := 9) (oi := { dst := some 42, op := Op.extract (Operand.tmp 33) 1, type := 40, pos := "law.go:154", after := #[{ on := 7, ground := Ground.data }, { on := 12, ground := Ground.gcOnly Departure.lateStores }], guard := none }) (v := ?_) rfl (by kernel_rfl) (by kernel_rfl) (by kernel_rfl) (fun _ _ _ h => h) (Or.inl ⟨by rfl, ?_⟩) (by assumption) ?_
          rotate_left
          · intro w hSw; (try dsimp only at hSw); go_simp <;> (with_reducible rfl)
          (try simp only [Act.put, List.setIfInBounds_toArray, List.set_cons_zero, List.set_cons_succ])
          refine wpAnyH_ready (rs := [11]) (by kernel_rfl) (by simp) ?_
          refine AllReadyH.cons (o := { dst := some 9, op := Op.alloc 40, type := 0, pos := "law.go:154", after := #[], guard := none }) rfl (fun K hK => ?_) ?_
          · go_simp
            obtain ⟨Wn3, en3, h11, bq3⟩ := allocW (Wn2)
            rw [en3]
            have BN3 := Lib.hid (hHeld.2.trans (bq3.mono hHeld.2.size))
            have SZ11 := Lib.hid hHeld.2.size
            have H11 := Lib.hid h11
            have BQ3 := Lib.hid bq3
            clear hHeld en3 h11 bq3
            refine hK.out _ _ ?_ (fun hHeld => ?_)
            · (try dsimp only)
              exact KS.out _ BN3.out
            clear hK K
            (try simp only [Act.put, List.setIfInBounds_toArray, List.set_cons_zero, List.set_cons_succ])
            refine wpAnyH_ready (rs := [12]) (by kernel_rfl) (by simp) ?_
            refine AllReadyH.cons (o := { dst := none, op := Op.store 35 (Operand.tmp 8) (Operand.tmp 41), type := 0, pos := "law.go:154", after := #[{ on := 10, ground := Ground.data }, { on := 8, ground := Ground.data }, { on := 6, ground := Ground.chain }, { on := 0, ground := Ground.phase }, { on := 1, ground := Ground.phase }, { on := 2, ground := Ground.phase }, { on := 3, ground := Ground.phase }, { on := 4, ground := Ground.phase }, { on := 5, ground := Ground.phase }, { on := 6, ground := Ground.phase }, { on := 7, ground := Ground.phase }, { on := 8, ground := Ground.phase }, { on := 9, ground := Ground.textOnly Departure.lateStores }, { on := 10, ground := Ground.phase }, { on := 11, ground := Ground.phase }], guard := none }) rfl (fun K hK => ?_) ?_
            · have C0 := Lib.hid ((H10.out.below BQ2.out).below BQ3.out)
              have V0 := Lib.hid H11.out
              have R3 := Lib.hid (K1.out.below BQ3.out)
              have E3 := Lib.hid (K2.out.below BQ3.out)
              have OR10 : Hid (Off RA' Wn0.heap.size) := Lib.hid (K4.out.1 _ H10.out.lt (krow_off RK.out (by simp) SZ10.out))
              have OT10 : Hid (Off TA' Wn0.heap.size) := Lib.hid (K4.out.2 _ H10.out.lt (evrow_off RE.out (by simp) SZ10.out))
              have OR11 : Hid (Off RA' Wn2.heap.size) := Lib.hid (krow_off K1.out (by simp) (Nat.le_refl _))
              have OT11 : Hid (Off TA' Wn2.heap.size) := Lib.hid (evrow_off K2.out (by simp) (Nat.le_refl _))
              have OG := Lib.hid (And.intro (K4.out.1 (g + 1) (Nat.lt_of_lt_of_le GL.out SZ6.out) OA.out.1) (K4.out.2 (g + 1) (Nat.lt_of_lt_of_le GL.out SZ6.out) OA.out.2))
              have NE : Hid (Wn2.heap.size ≠ Wn0.heap.size) := Lib.hid (Nat.ne_of_gt (H10.out.below BQ2.out).lt)
              obtain ⟨Wn4, e4⟩ : ∃ W, Wn3.setCell ⟨Wn0.heap.size, 1, none⟩ (.int .u32 v) = W := ⟨_, rfl⟩
              have C4 : HasB Wn4 (Wn0.heap.size) 35 [.int .u32 0, .int .u32 v, .int .u32 0, .int .u32 0, .int .u32 0, .int .u32 0, .int .u32 0, .int .u32 0, .int .u32 0, .int .u32 0, .int .u32 0] := by rw [← e4]; exact has_set C0.out 1 _
              have X4 : Chg (Wn0.heap.size) (Wn0.heap.size) Wn3 Wn4 := by rw [← e4]; exact chg_set (Chg.refl _ _ _) _ (.inl rfl) _ _
              have BN4 := Lib.hid (X4.below BN3.out BN3.out.size SZ10.out SZ10.out)
              have V4 := Lib.hid (V0.out.chg X4 NE.out NE.out)
              have R4 := Lib.hid (R3.out.chg X4 OR10.out OR10.out)
              have E4 := Lib.hid (E3.out.chg X4 OT10.out OT10.out)
              have q0 := set_same C0.out 0 _ rfl
              have q2 := set_same C4 2 _ rfl
              have q3 := set_same C4 3 _ rfl
              have q4 := set_same C4 4 _ rfl
              have q5 := set_same C4 5 _ rfl
              have q6 := set_same C4 6 _ rfl
              have q7 := set_same C4 7 _ rfl
              have q8 := set_same C4 8 _ rfl
              have q9 := set_same C4 9 _ rfl
              have q10 := set_same C4 10 _ rfl
              have mc0 := C0.out.cell 0; have mf0 := C0.out.frozen 0
              have mc1 := C0.out.cell 1; have mf1 := C0.out.frozen 1
              simp only [List.getElem?_cons_succ, List.getElem?_cons_zero] at mc0 mc1
              have nc2 := C4.cell 2; have nf2 := C4.frozen 2
              have nc3 := C4.cell 3; have nf3 := C4.frozen 3
              have nc4 := C4.cell 4; have nf4 := C4.frozen 4
              have nc5 := C4.cell 5; have nf5 := C4.frozen 5
              have nc6 := C4.cell 6; have nf6 := C4.frozen 6
              have nc7 := C4.cell 7; have nf7 := C4.frozen 7
              have nc8 := C4.cell 8; have nf8 := C4.frozen 8
              have nc9 := C4.cell 9; have nf9 := C4.frozen 9
              have nc10 := C4.cell 10; have nf10 := C4.frozen 10
              simp only [List.getElem?_cons_succ, List.getElem?_cons_zero] at nc2 nc3 nc4 nc5 nc6 nc7 nc8 nc9 nc10
              have HC4 := Lib.hid C4
              clear X4 C4 hHeld C0 V0 R3 E3 K1 K2 K4 H10 H11
              go_simp
              clear e4 q0 q2 q3 q4 q5 q6 q7 q8 q9 q10 mc0 mf0 mc1 mf1 nc2 nf2 nc3 nf3 nc4 nf4 nc5 nf5 nc6 nf6 nc7 nf7 nc8 nf8 nc9 nf9 nc10 nf10
              refine hK.out _ _ ?_ (fun hHeld => ?_)
              · (try dsimp only)
                exact KS.out _ BN4.out
              clear hK K
              (try simp only [Act.put, List.setIfInBounds_toArray, List.set_cons_zero, List.set_cons_succ])
              refine wpAnyH_ready (rs := [13]) (by kernel_rfl) (by simp) ?_
              refine AllReadyH.cons (o := { dst := none, op := Op.store 40 (Operand.tmp 9) (Operand.tmp 42), type := 0, pos := "law.go:154", after := #[{ on := 11, ground := Ground.data }, { on := 9, ground := Ground.data }, { on := 12, ground := Ground.chain }, { on := 0, ground := Ground.phase }, { on := 1, ground := Ground.phase }, { on := 2, ground := Ground.phase }, { on := 3, ground := Ground.phase }, { on := 4, ground := Ground.phase }, { on := 5, ground := Ground.phase }, { on := 6, ground := Ground.phase }, { on := 7, ground := Ground.phase }, { on := 8, ground := Ground.phase }, { on := 9, ground := Ground.phase }, { on := 10, ground := Ground.phase }, { on := 11, ground := Ground.phase }, { on := 12, ground := Ground.phase }], guard := none }) rfl (fun K hK => ?_) ?_
              · obtain ⟨Wa, eWa⟩ : ∃ W, Wn4.setCell ⟨Wn2.heap.size, 0, none⟩ (.slice RA' 2 rc') = W := ⟨_, rfl⟩
                have Va : HasB Wa (Wn2.heap.size) 40 [.slice RA' 2 rc', .int .i64 0, .slice none 0 0, .bool false, .int .u32 0] := by rw [← eWa]; exact has_set V4.out 0 _
                obtain ⟨Wb, eWb⟩ : ∃ W, Wa.setCell ⟨Wn2.heap.size, 2, none⟩ (.slice TA' 1 tc') = W := ⟨_, rfl⟩
                have Vb : HasB Wb (Wn2.heap.size) 40 [.slice RA' 2 rc', .int .i64 0, .slice TA' 1 tc', .bool false, .int .u32 0] := by rw [← eWb]; exact has_set Va 2 _
                obtain ⟨Wc, eWc⟩ : ∃ W, Wb.setCell ⟨Wn2.heap.size, 3, none⟩ (.bool true) = W := ⟨_, rfl⟩
                have Vc : HasB Wc (Wn2.heap.size) 40 [.slice RA' 2 rc', .int .i64 0, .slice TA' 1 tc', .bool true, .int .u32 0] := by rw [← eWc]; exact has_set Vb 3 _
                obtain ⟨Wn5, eWn5⟩ : ∃ W, Wc.setCell ⟨Wn2.heap.size, 4, none⟩ (.int .u32 v) = W := ⟨_, rfl⟩
                have V5 : HasB Wn5 (Wn2.heap.size) 40 [.slice RA' 2 rc', .int .i64 0, .slice TA' 1 tc', .bool true, .int .u32 v] := by rw [← eWn5]; exact has_set Vc 4 _
                have X5 : Chg (Wn2.heap.size) (Wn2.heap.size) Wn4 Wn5 := by rw [← eWn5, ← eWc, ← eWb, ← eWa]; exact chg_set (chg_set (chg_set (chg_set (Chg.refl _ _ _) _ (.inl rfl) _ _) _ (.inl rfl) _ _) _ (.inl rfl) _ _) _ (.inl rfl) _ _
                have BN5 := Lib.hid (X5.below BN4.out BN4.out.size SZ11.out SZ11.out)
                have C5 := Lib.hid (HC4.out.chg X5 (Ne.symm NE.out) (Ne.symm NE.out))
                have R5 := Lib.hid (R4.out.chg X5 OR11.out OR11.out)
                have E5 := Lib.hid (E4.out.chg X5 OT11.out OT11.out)
                have q1 := set_same Va 1 _ rfl
                have mc0 := V4.out.cell 0; have mf0 := V4.out.frozen 0
                simp only [List.getElem?_cons_zero] at mc0
                have nc1 := Va.cell 1; have nf1 := Va.frozen 1
                have nc2 := Va.cell 2; have nf2 := Va.frozen 2
                simp only [List.getElem?_cons_succ, List.getElem?_cons_zero] at nc1 nc2
                have oc3 := Vb.cell 3; have of3 := Vb.frozen 3
                simp only [List.getElem?_cons_succ, List.getElem?_cons_zero] at oc3
                have rc4 := Vc.cell 4; have rf4 := Vc.frozen 4
                simp only [List.getElem?_cons_succ, List.getElem?_cons_zero] at rc4
                have U5 := Lib.hid V5
                clear X5 V5 hHeld V4 R4 E4 HC4
                go_simp
                clear eWa eWb eWc eWn5 q1 mc0 mf0 nc1 nf1 nc2 nf2 oc3 of3 rc4 rf4 Va Vb Vc
                refine hK.out _ _ ?_ (fun hHeld => ?_)
                · (try dsimp only)
                  exact KS.out _ BN5.out
                clear hK K
                (try simp only [Act.put, List.setIfInBounds_toArray, List.set_cons_zero, List.set_cons_succ])
                refine wpAnyH_done (by kernel_rfl) ?_ _
                refine NoPanic.normal ?_
                clear hHeld
                generalize Wn0.heap.size = b8 at *
                generalize Wn2.heap.size = b9 at *
                clear BN1 BQ1 BN2 BQ2 BN3 BQ3 BN4 KS BR SZ6 SZ10 SZ11 OR10 OR11 OT10 OT11 D1
                have HC5 := Lib.hid (HC.out.below BN5.out)
                have HW5 := Lib.hid (HW.out.below BN5.out)
                have B5 := Lib.hid (HB.out.trans (BN5.out.mono HB.out.size))
                obtain ⟨W6, e6⟩ : ∃ W, Wn5.setCell ⟨g + 1, 0, none⟩ (.slice RA' 2 rc') = W := ⟨_, rfl⟩
                have V6 : HasB W6 (g + 1) 40 [.slice RA' 2 rc', .int .i64 0, .slice TA 1 tc, .bool true, .int .u32 v] := by rw [← e6]; exact has_set HW5.out 0 _
                obtain ⟨W7, e7⟩ : ∃ W, W6.setCell ⟨g + 1, 2, none⟩ (.slice TA' 1 tc') = W := ⟨_, rfl⟩
                have V7 : HasB W7 (g + 1) 40 [.slice RA' 2 rc', .int .i64 0, .slice TA' 1 tc', .bool true, .int .u32 v] := by rw [← e7]; exact has_set V6 2 _
                have X7 : Chg (g + 1) (g + 1) Wn5 W7 := by rw [← e7, ← e6]; exact chg_set (chg_set (Chg.refl _ _ _) _ (.inl rfl) _ _) _ (.inl rfl) _ _
                have HC7 := Lib.hid (HC5.out.chg X7 (by omega) (by omega))
                have HW7 := Lib.hid V7
                have R7 := Lib.hid (R5.out.chg X7 OG.out.1 OG.out.1)
                have E7 := Lib.hid (E5.out.chg X7 OG.out.2 OG.out.2)
                have B7 := Lib.hid (X7.below B5.out B5.out.size (by omega) (by omega))
                have q1 := set_same V6 1 _ rfl
                have q3 := set_same V7 3 _ rfl
                have q4 := set_same V7 4 _ rfl
                have ac0 := C5.out.cell 0; have af0 := C5.out.frozen 0
                have ac1 := C5.out.cell 1; have af1 := C5.out.frozen 1
                have ac2 := C5.out.cell 2; have af2 := C5.out.frozen 2
                have ac3 := C5.out.cell 3; have af3 := C5.out.frozen 3
                have ac4 := C5.out.cell 4; have af4 := C5.out.frozen 4
                have ac5 := C5.out.cell 5; have af5 := C5.out.frozen 5
                have ac6 := C5.out.cell 6; have af6 := C5.out.frozen 6
                have ac7 := C5.out.cell 7; have af7 := C5.out.frozen 7
                have ac8 := C5.out.cell 8; have af8 := C5.out.frozen 8
                have ac9 := C5.out.cell 9; have af9 := C5.out.frozen 9
                have ac10 := C5.out.cell 10; have af10 := C5.out.frozen 10
                simp only [List.getElem?_cons_succ, List.getElem?_cons_zero] at ac0 ac1 ac2 ac3 ac4 ac5 ac6 ac7 ac8 ac9 ac10
                have bc0 := HC5.out.cell 0; have bf0 := HC5.out.frozen 0
                have bc1 := HC5.out.cell 1; have bf1 := HC5.out.frozen 1
                have bc2 := HC5.out.cell 2; have bf2 := HC5.out.frozen 2
                have bc3 := HC5.out.cell 3; have bf3 := HC5.out.frozen 3
                have bc4 := HC5.out.cell 4; have bf4 := HC5.out.frozen 4
                have bc5 := HC5.out.cell 5; have bf5 := HC5.out.frozen 5
                have bc6 := HC5.out.cell 6; have bf6 := HC5.out.frozen 6
                have bc7 := HC5.out.cell 7; have bf7 := HC5.out.frozen 7
                have bc8 := HC5.out.cell 8; have bf8 := HC5.out.frozen 8
                have bc9 := HC5.out.cell 9; have bf9 := HC5.out.frozen 9
                have bc10 := HC5.out.cell 10; have bf10 := HC5.out.frozen 10
                simp only [List.getElem?_cons_succ, List.getElem?_cons_zero] at bc0 bc1 bc2 bc3 bc4 bc5 bc6 bc7 bc8 bc9 bc10
                have cc0 := U5.out.cell 0; have cf0 := U5.out.frozen 0
                have cc1 := U5.out.cell 1; have cf1 := U5.out.frozen 1
                have cc2 := U5.out.cell 2; have cf2 := U5.out.frozen 2
                have cc3 := U5.out.cell 3; have cf3 := U5.out.frozen 3
                have cc4 := U5.out.cell 4; have cf4 := U5.out.frozen 4
                simp only [List.getElem?_cons_succ, List.getElem?_cons_zero] at cc0 cc1 cc2 cc3 cc4
                have dc0 := HW5.out.cell 0; have df0 := HW5.out.frozen 0
                have dc1 := HW5.out.cell 1; have df1 := HW5.out.frozen 1
                have dc2 := HW5.out.cell 2; have df2 := HW5.out.frozen 2
                have dc3 := HW5.out.cell 3; have df3 := HW5.out.frozen 3
                have dc4 := HW5.out.cell 4; have df4 := HW5.out.frozen 4
                simp only [List.getElem?_cons_succ, List.getElem?_cons_zero] at dc0 dc1 dc2 dc3 dc4
                have mc1 := V6.cell 1; have mf1 := V6.frozen 1
                have mc2 := V6.cell 2; have mf2 := V6.frozen 2
                simp only [List.getElem?_cons_succ, List.getElem?_cons_zero] at mc1 mc2
                have nc3 := V7.cell 3; have nf3 := V7.frozen 3
                have nc4 := V7.cell 4; have nf4 := V7.frozen 4
                simp only [List.getElem?_cons_succ, List.getElem?_cons_zero] at nc3 nc4
                have EQ8 := eq8 v 0 0 0 0 0 0 0 Wn5
                clear X7 V6 V7 HC5 HW5 B5 BN5 C5 U5 R5 E5 NE
                go_wp2_with fail
                go_roundw
                case rel => exact ⟨j + 1, RA', rc', TA', tc', by go_num, by omega, HC7, HW7, R7, E7, OG, B7⟩
                case measure => simp [intOf]; omega
              exact AllReadyH.nil
            exact AllReadyH.nil
          exact AllReadyH.nil
        refine AllReadyH.cons (o := { dst := some 9, op := Op.alloc 40, type := 0, pos := "law.go:154", after := #[], guard := none }) rfl (fun K hK => ?_) ?_
        · go_simp
          obtain ⟨Wn2, en2, h11, bq2⟩ := allocW (Wn1)
          rw [en2]
          have BN2 := Lib.hid (hHeld.2.trans (bq2.mono hHeld.2.size))
          have SZ11 := Lib.hid hHeld.2.size
          have H11 := Lib.hid h11
          have BQ2 := Lib.hid bq2
          clear hHeld en2 h11 bq2
          refine hK.out _ _ ?_ (fun hHeld => ?_)
          · (try dsimp only)
            exact KS.out _ BN2.out
          clear hK K
          (try simp only [Act.put, List.setIfInBounds_toArray, List.set_cons_zero, List.set_cons_succ])
          refine wpAnyH_ready (rs := [6]) (by kernel_rfl) (by simp) ?_
          refine AllReadyH.cons (o := { dst := some 40, op := Op.call { callee := Callee.value (Operand.func 11), args := #[Operand.tmp 34, Operand.const (Value.pointer none), Operand.tmp 35, Operand.tmp 39], argTypes := #[35, 28, 40, 3] }, type := 41, pos := "law.go:154", after := #[{ on := 0, ground := Ground.data }, { on := 1, ground := Ground.data }, { on := 5, ground := Ground.data }], guard := none }) rfl (fun K hK => ?_) ?_
          · go_simp
            (with_reducible refine (D1.out _ hHeld.2).mono ?_); rintro e Wn3 ⟨RA', rc', TA', tc', rfl, k1, k2, k3, k4⟩
            go_wp2_with fail
            have BN3 := Lib.hid (hHeld.2.trans (k3.mono hHeld.2.size))
            have SZ6 := Lib.hid hHeld.2.size
            have K1 := Lib.hid k1
            have K2 := Lib.hid k2
            have BQ3 := Lib.hid k3
            have K4 := Lib.hid k4
            clear hHeld k1 k2 k3 k4
            refine hK.out _ _ ?_ (fun hHeld => ?_)
            · (try dsimp only)
              exact KS.out _ BN3.out
            clear hK K
            (try simp only [Act.put, List.setIfInBounds_toArray, List.set_cons_zero, List.set_cons_succ])
            refine wpAnyH_take (i := 7) (oi := { dst := some 33, op := Op.move (Operand.tmp 40), type := 41, pos := "law.go:154", after := #[{ on := 6, ground := Ground.data }], guard := none }) (v := ?_) rfl (by kernel_rfl) (by kernel_rfl) (by kernel_rfl) (fun _ _ _ h => h) (Or.inl ⟨by rfl, ?_⟩) (by assumption) ?_
            rotate_left
            · intro w hSw; (try dsimp only at hSw); go_simp <;> (with_reducible rfl)
            (try simp only [Act.put, List.setIfInBounds_toArray, List.set_cons_zero, List.set_cons_succ])
            refine wpAnyH_take (i := 8) (oi := { dst := some 41, op := Op.extract (Operand.tmp 33) 0, type := 35, pos := "law.go:154", after := #[{ on := 7, ground := Ground.data }], guard := none }) (v := ?_) rfl (by kernel_rfl) (by kernel_rfl) (by kernel_rfl) (fun _ _ _ h => h) (Or.inl ⟨by rfl, ?_⟩) (by assumption) ?_
            rotate_left
            · intro w hSw; (try dsimp only at hSw); go_simp <;> (with_reducible rfl)
            (try simp only [Act.put, List.setIfInBounds_toArray, List.set_cons_zero, List.set_cons_succ])
            refine wpAnyH_take (i := 9) (oi := { dst := some 42, op := Op.extract (Operand.tmp 33) 1, type := 40, pos := "law.go:154", after := #[{ on := 7, ground := Ground.data }, { on := 12, ground := Ground.gcOnly Departure.lateStores }], guard := none }) (v := ?_) rfl (by kernel_rfl) (by kernel_rfl) (by kernel_rfl) (fun _ _ _ h => h) (Or.inl ⟨by rfl, ?_⟩) (by assumption) ?_
            rotate_left
            · intro w hSw; (try dsimp only at hSw); go_simp <;> (with_reducible rfl)
            (try simp only [Act.put, List.setIfInBounds_toArray, List.set_cons_zero, List.set_cons_succ])
            refine wpAnyH_ready (rs := [12]) (by kernel_rfl) (by simp) ?_
            refine AllReadyH.cons (o := { dst := none, op := Op.store 35 (Operand.tmp 8) (Operand.tmp 41), type := 0, pos := "law.go:154", after := #[{ on := 10, ground := Ground.data }, { on := 8, ground := Ground.data }, { on := 6, ground := Ground.chain }, { on := 0, ground := Ground.phase }, { on := 1, ground := Ground.phase }, { on := 2, ground := Ground.phase }, { on := 3, ground := Ground.phase }, { on := 4, ground := Ground.phase }, { on := 5, ground := Ground.phase }, { on := 6, ground := Ground.phase }, { on := 7, ground := Ground.phase }, { on := 8, ground := Ground.phase }, { on := 9, ground := Ground.textOnly Departure.lateStores }, { on := 10, ground := Ground.phase }, { on := 11, ground := Ground.phase }], guard := none }) rfl (fun K hK => ?_) ?_
            · have C0 := Lib.hid ((H10.out.below BQ2.out).below BQ3.out)
              have V0 := Lib.hid (H11.out.below BQ3.out)
              have R3 := Lib.hid K1.out
              have E3 := Lib.hid K2.out
              have OR10 : Hid (Off RA' Wn0.heap.size) := Lib.hid (K4.out.1 _ (H10.out.below BQ2.out).lt (krow_off RK.out (by simp) SZ10.out))
              have OT10 : Hid (Off TA' Wn0.heap.size) := Lib.hid (K4.out.2 _ (H10.out.below BQ2.out).lt (evrow_off RE.out (by simp) SZ10.out))
              have OR11 : Hid (Off RA' Wn1.heap.size) := Lib.hid (K4.out.1 _ H11.out.lt (krow_off RK.out (by simp) SZ11.out))
              have OT11 : Hid (Off TA' Wn1.heap.size) := Lib.hid (K4.out.2 _ H11.out.lt (evrow_off RE.out (by simp) SZ11.out))
              have OG := Lib.hid (And.intro (K4.out.1 (g + 1) (Nat.lt_of_lt_of_le GL.out SZ6.out) OA.out.1) (K4.out.2 (g + 1) (Nat.lt_of_lt_of_le GL.out SZ6.out) OA.out.2))
              have NE : Hid (Wn1.heap.size ≠ Wn0.heap.size) := Lib.hid (Nat.ne_of_gt H10.out.lt)
              obtain ⟨Wn4, e4⟩ : ∃ W, Wn3.setCell ⟨Wn0.heap.size, 1, none⟩ (.int .u32 v) = W := ⟨_, rfl⟩
              have C4 : HasB Wn4 (Wn0.heap.size) 35 [.int .u32 0, .int .u32 v, .int .u32 0, .int .u32 0, .int .u32 0, .int .u32 0, .int .u32 0, .int .u32 0, .int .u32 0, .int .u32 0, .int .u32 0] := by rw [← e4]; exact has_set C0.out 1 _
              have X4 : Chg (Wn0.heap.size) (Wn0.heap.size) Wn3 Wn4 := by rw [← e4]; exact chg_set (Chg.refl _ _ _) _ (.inl rfl) _ _
              have BN4 := Lib.hid (X4.below BN3.out BN3.out.size SZ10.out SZ10.out)
              have V4 := Lib.hid (V0.out.chg X4 NE.out NE.out)
              have R4 := Lib.hid (R3.out.chg X4 OR10.out OR10.out)
              have E4 := Lib.hid (E3.out.chg X4 OT10.out OT10.out)
              have q0 := set_same C0.out 0 _ rfl
              have q2 := set_same C4 2 _ rfl
              have q3 := set_same C4 3 _ rfl
              have q4 := set_same C4 4 _ rfl
              have q5 := set_same C4 5 _ rfl
              have q6 := set_same C4 6 _ rfl
              have q7 := set_same C4 7 _ rfl
              have q8 := set_same C4 8 _ rfl
              have q9 := set_same C4 9 _ rfl
              have q10 := set_same C4 10 _ rfl
              have mc0 := C0.out.cell 0; have mf0 := C0.out.frozen 0
              have mc1 := C0.out.cell 1; have mf1 := C0.out.frozen 1
              simp only [List.getElem?_cons_succ, List.getElem?_cons_zero] at mc0 mc1
              have nc2 := C4.cell 2; have nf2 := C4.frozen 2
              have nc3 := C4.cell 3; have nf3 := C4.frozen 3
              have nc4 := C4.cell 4; have nf4 := C4.frozen 4
              have nc5 := C4.cell 5; have nf5 := C4.frozen 5
              have nc6 := C4.cell 6; have nf6 := C4.frozen 6
              have nc7 := C4.cell 7; have nf7 := C4.frozen 7
              have nc8 := C4.cell 8; have nf8 := C4.frozen 8
              have nc9 := C4.cell 9; have nf9 := C4.frozen 9
              have nc10 := C4.cell 10; have nf10 := C4.frozen 10
              simp only [List.getElem?_cons_succ, List.getElem?_cons_zero] at nc2 nc3 nc4 nc5 nc6 nc7 nc8 nc9 nc10
              have HC4 := Lib.hid C4
              clear X4 C4 hHeld C0 V0 R3 E3 K1 K2 K4 H10 H11
              go_simp
              clear e4 q0 q2 q3 q4 q5 q6 q7 q8 q9 q10 mc0 mf0 mc1 mf1 nc2 nf2 nc3 nf3 nc4 nf4 nc5 nf5 nc6 nf6 nc7 nf7 nc8 nf8 nc9 nf9 nc10 nf10
              refine hK.out _ _ ?_ (fun hHeld => ?_)
              · (try dsimp only)
                exact KS.out _ BN4.out
              clear hK K
              (try simp only [Act.put, List.setIfInBounds_toArray, List.set_cons_zero, List.set_cons_succ])
              refine wpAnyH_ready (rs := [13]) (by kernel_rfl) (by simp) ?_
              refine AllReadyH.cons (o := { dst := none, op := Op.store 40 (Operand.tmp 9) (Operand.tmp 42), type := 0, pos := "law.go:154", after := #[{ on := 11, ground := Ground.data }, { on := 9, ground := Ground.data }, { on := 12, ground := Ground.chain }, { on := 0, ground := Ground.phase }, { on := 1, ground := Ground.phase }, { on := 2, ground := Ground.phase }, { on := 3, ground := Ground.phase }, { on := 4, ground := Ground.phase }, { on := 5, ground := Ground.phase }, { on := 6, ground := Ground.phase }, { on := 7, ground := Ground.phase }, { on := 8, ground := Ground.phase }, { on := 9, ground := Ground.phase }, { on := 10, ground := Ground.phase }, { on := 11, ground := Ground.phase }, { on := 12, ground := Ground.phase }], guard := none }) rfl (fun K hK => ?_) ?_
              · obtain ⟨Wa, eWa⟩ : ∃ W, Wn4.setCell ⟨Wn1.heap.size, 0, none⟩ (.slice RA' 2 rc') = W := ⟨_, rfl⟩
                have Va : HasB Wa (Wn1.heap.size) 40 [.slice RA' 2 rc', .int .i64 0, .slice none 0 0, .bool false, .int .u32 0] := by rw [← eWa]; exact has_set V4.out 0 _
                obtain ⟨Wb, eWb⟩ : ∃ W, Wa.setCell ⟨Wn1.heap.size, 2, none⟩ (.slice TA' 1 tc') = W := ⟨_, rfl⟩
                have Vb : HasB Wb (Wn1.heap.size) 40 [.slice RA' 2 rc', .int .i64 0, .slice TA' 1 tc', .bool false, .int .u32 0] := by rw [← eWb]; exact has_set Va 2 _
                obtain ⟨Wc, eWc⟩ : ∃ W, Wb.setCell ⟨Wn1.heap.size, 3, none⟩ (.bool true) = W := ⟨_, rfl⟩
                have Vc : HasB Wc (Wn1.heap.size) 40 [.slice RA' 2 rc', .int .i64 0, .slice TA' 1 tc', .bool true, .int .u32 0] := by rw [← eWc]; exact has_set Vb 3 _
                obtain ⟨Wn5, eWn5⟩ : ∃ W, Wc.setCell ⟨Wn1.heap.size, 4, none⟩ (.int .u32 v) = W := ⟨_, rfl⟩
                have V5 : HasB Wn5 (Wn1.heap.size) 40 [.slice RA' 2 rc', .int .i64 0, .slice TA' 1 tc', .bool true, .int .u32 v] := by rw [← eWn5]; exact has_set Vc 4 _
                have X5 : Chg (Wn1.heap.size) (Wn1.heap.size) Wn4 Wn5 := by rw [← eWn5, ← eWc, ← eWb, ← eWa]; exact chg_set (chg_set (chg_set (chg_set (Chg.refl _ _ _) _ (.inl rfl) _ _) _ (.inl rfl) _ _) _ (.inl rfl) _ _) _ (.inl rfl) _ _
                have BN5 := Lib.hid (X5.below BN4.out BN4.out.size SZ11.out SZ11.out)
                have C5 := Lib.hid (HC4.out.chg X5 (Ne.symm NE.out) (Ne.symm NE.out))
                have R5 := Lib.hid (R4.out.chg X5 OR11.out OR11.out)
                have E5 := Lib.hid (E4.out.chg X5 OT11.out OT11.out)
                have q1 := set_same Va 1 _ rfl
                have mc0 := V4.out.cell 0; have mf0 := V4.out.frozen 0
                simp only [List.getElem?_cons_zero] at mc0
                have nc1 := Va.cell 1; have nf1 := Va.frozen 1
                have nc2 := Va.cell 2; have nf2 := Va.frozen 2
                simp only [List.getElem?_cons_succ, List.getElem?_cons_zero] at nc1 nc2
                have oc3 := Vb.cell 3; have of3 := Vb.frozen 3
                simp only [List.getElem?_cons_succ, List.getElem?_cons_zero] at oc3
                have rc4 := Vc.cell 4; have rf4 := Vc.frozen 4
                simp only [List.getElem?_cons_succ, List.getElem?_cons_zero] at rc4
                have U5 := Lib.hid V5
                clear X5 V5 hHeld V4 R4 E4 HC4
                go_simp
                clear eWa eWb eWc eWn5 q1 mc0 mf0 nc1 nf1 nc2 nf2 oc3 of3 rc4 rf4 Va Vb Vc
                refine hK.out _ _ ?_ (fun hHeld => ?_)
                · (try dsimp only)
                  exact KS.out _ BN5.out
                clear hK K
                (try simp only [Act.put, List.setIfInBounds_toArray, List.set_cons_zero, List.set_cons_succ])
                refine wpAnyH_done (by kernel_rfl) ?_ _
                refine NoPanic.normal ?_
                clear hHeld
                generalize Wn0.heap.size = b8 at *
                generalize Wn1.heap.size = b9 at *
                clear BN1 BQ1 BN2 BQ2 BN3 BQ3 BN4 KS BR SZ6 SZ10 SZ11 OR10 OR11 OT10 OT11 D1
                have HC5 := Lib.hid (HC.out.below BN5.out)
                have HW5 := Lib.hid (HW.out.below BN5.out)
                have B5 := Lib.hid (HB.out.trans (BN5.out.mono HB.out.size))
                obtain ⟨W6, e6⟩ : ∃ W, Wn5.setCell ⟨g + 1, 0, none⟩ (.slice RA' 2 rc') = W := ⟨_, rfl⟩
                have V6 : HasB W6 (g + 1) 40 [.slice RA' 2 rc', .int .i64 0, .slice TA 1 tc, .bool true, .int .u32 v] := by rw [← e6]; exact has_set HW5.out 0 _
                obtain ⟨W7, e7⟩ : ∃ W, W6.setCell ⟨g + 1, 2, none⟩ (.slice TA' 1 tc') = W := ⟨_, rfl⟩
                have V7 : HasB W7 (g + 1) 40 [.slice RA' 2 rc', .int .i64 0, .slice TA' 1 tc', .bool true, .int .u32 v] := by rw [← e7]; exact has_set V6 2 _
                have X7 : Chg (g + 1) (g + 1) Wn5 W7 := by rw [← e7, ← e6]; exact chg_set (chg_set (Chg.refl _ _ _) _ (.inl rfl) _ _) _ (.inl rfl) _ _
                have HC7 := Lib.hid (HC5.out.chg X7 (by omega) (by omega))
                have HW7 := Lib.hid V7
                have R7 := Lib.hid (R5.out.chg X7 OG.out.1 OG.out.1)
                have E7 := Lib.hid (E5.out.chg X7 OG.out.2 OG.out.2)
                have B7 := Lib.hid (X7.below B5.out B5.out.size (by omega) (by omega))
                have q1 := set_same V6 1 _ rfl
                have q3 := set_same V7 3 _ rfl
                have q4 := set_same V7 4 _ rfl
                have ac0 := C5.out.cell 0; have af0 := C5.out.frozen 0
                have ac1 := C5.out.cell 1; have af1 := C5.out.frozen 1
                have ac2 := C5.out.cell 2; have af2 := C5.out.frozen 2
                have ac3 := C5.out.cell 3; have af3 := C5.out.frozen 3
                have ac4 := C5.out.cell 4; have af4 := C5.out.frozen 4
                have ac5 := C5.out.cell 5; have af5 := C5.out.frozen 5
                have ac6 := C5.out.cell 6; have af6 := C5.out.frozen 6
                have ac7 := C5.out.cell 7; have af7 := C5.out.frozen 7
                have ac8 := C5.out.cell 8; have af8 := C5.out.frozen 8
                have ac9 := C5.out.cell 9; have af9 := C5.out.frozen 9
                have ac10 := C5.out.cell 10; have af10 := C5.out.frozen 10
                simp only [List.getElem?_cons_succ, List.getElem?_cons_zero] at ac0 ac1 ac2 ac3 ac4 ac5 ac6 ac7 ac8 ac9 ac10
                have bc0 := HC5.out.cell 0; have bf0 := HC5.out.frozen 0
                have bc1 := HC5.out.cell 1; have bf1 := HC5.out.frozen 1
                have bc2 := HC5.out.cell 2; have bf2 := HC5.out.frozen 2
                have bc3 := HC5.out.cell 3; have bf3 := HC5.out.frozen 3
                have bc4 := HC5.out.cell 4; have bf4 := HC5.out.frozen 4
                have bc5 := HC5.out.cell 5; have bf5 := HC5.out.frozen 5
                have bc6 := HC5.out.cell 6; have bf6 := HC5.out.frozen 6
                have bc7 := HC5.out.cell 7; have bf7 := HC5.out.frozen 7
                have bc8 := HC5.out.cell 8; have bf8 := HC5.out.frozen 8
                have bc9 := HC5.out.cell 9; have bf9 := HC5.out.frozen 9
                have bc10 := HC5.out.cell 10; have bf10 := HC5.out.frozen 10
                simp only [List.getElem?_cons_succ, List.getElem?_cons_zero] at bc0 bc1 bc2 bc3 bc4 bc5 bc6 bc7 bc8 bc9 bc10
                have cc0 := U5.out.cell 0; have cf0 := U5.out.frozen 0
                have cc1 := U5.out.cell 1; have cf1 := U5.out.frozen 1
                have cc2 := U5.out.cell 2; have cf2 := U5.out.frozen 2
                have cc3 := U5.out.cell 3; have cf3 := U5.out.frozen 3
                have cc4 := U5.out.cell 4; have cf4 := U5.out.frozen 4
                simp only [List.getElem?_cons_succ, List.getElem?_cons_zero] at cc0 cc1 cc2 cc3 cc4
                have dc0 := HW5.out.cell 0; have df0 := HW5.out.frozen 0
                have dc1 := HW5.out.cell 1; have df1 := HW5.out.frozen 1
                have dc2 := HW5.out.cell 2; have df2 := HW5.out.frozen 2
                have dc3 := HW5.out.cell 3; have df3 := HW5.out.frozen 3
                have dc4 := HW5.out.cell 4; have df4 := HW5.out.frozen 4
                simp only [List.getElem?_cons_succ, List.getElem?_cons_zero] at dc0 dc1 dc2 dc3 dc4
                have mc1 := V6.cell 1; have mf1 := V6.frozen 1
                have mc2 := V6.cell 2; have mf2 := V6.frozen 2
                simp only [List.getElem?_cons_succ, List.getElem?_cons_zero] at mc1 mc2
                have nc3 := V7.cell 3; have nf3 := V7.frozen 3
                have nc4 := V7.cell 4; have nf4 := V7.frozen 4
                simp only [List.getElem?_cons_succ, List.getElem?_cons_zero] at nc3 nc4
                have EQ8 := eq8 v 0 0 0 0 0 0 0 Wn5
                clear X7 V6 V7 HC5 HW5 B5 BN5 C5 U5 R5 E5 NE
                go_wp2_with fail
                go_roundw
                case rel => exact ⟨j + 1, RA', rc', TA', tc', by go_num, by omega, HC7, HW7, R7, E7, OG, B7⟩
                case measure => simp [intOf]; omega
              exact AllReadyH.nil
            exact AllReadyH.nil
          exact AllReadyH.nil
        exact AllReadyH.nil
      refine AllReadyH.cons (o := { dst := some 9, op := Op.alloc 40, type := 0, pos := "law.go:154", after := #[], guard := none }) rfl (fun K hK => ?_) ?_
      · go_simp
        obtain ⟨Wn1, en1, h11, bq1⟩ := allocW (Wn0)
        rw [en1]
        have BN1 := Lib.hid (hHeld.2.trans (bq1.mono hHeld.2.size))
        have SZ11 := Lib.hid hHeld.2.size
        have H11 := Lib.hid h11
        have BQ1 := Lib.hid bq1
        clear hHeld en1 h11 bq1
        refine hK.out _ _ ?_ (fun hHeld => ?_)
        · (try dsimp only)
          exact KS.out _ BN1.out
        clear hK K
        (try simp only [Act.put, List.setIfInBounds_toArray, List.set_cons_zero, List.set_cons_succ])
        refine wpAnyH_ready (rs := [6, 10]) (by kernel_rfl) (by simp) ?_
        refine AllReadyH.cons (o := { dst := some 40, op := Op.call { callee := Callee.value (Operand.func 11), args := #[Operand.tmp 34, Operand.const (Value.pointer none), Operand.tmp 35, Operand.tmp 39], argTypes := #[35, 28, 40, 3] }, type := 41, pos := "law.go:154", after := #[{ on := 0, ground := Ground.data }, { on := 1, ground := Ground.data }, { on := 5, ground := Ground.data }], guard := none }) rfl (fun K hK => ?_) ?_
        · go_simp
          (with_reducible refine (D1.out _ hHeld.2).mono ?_); rintro e Wn2 ⟨RA', rc', TA', tc', rfl, k1, k2, k3, k4⟩
          go_wp2_with fail
          have BN2 := Lib.hid (hHeld.2.trans (k3.mono hHeld.2.size))
          have SZ6 := Lib.hid hHeld.2.size
          have K1 := Lib.hid k1
          have K2 := Lib.hid k2
          have BQ2 := Lib.hid k3
          have K4 := Lib.hid k4
          clear hHeld k1 k2 k3 k4
          refine hK.out _ _ ?_ (fun hHeld => ?_)
          · (try dsimp only)
            exact KS.out _ BN2.out
          clear hK K
          (try simp only [Act.put, List.setIfInBounds_toArray, List.set_cons_zero, List.set_cons_succ])
          refine wpAnyH_take (i := 7) (oi := { dst := some 33, op := Op.move (Operand.tmp 40), type := 41, pos := "law.go:154", after := #[{ on := 6, ground := Ground.data }], guard := none }) (v := ?_) rfl (by kernel_rfl) (by kernel_rfl) (by kernel_rfl) (fun _ _ _ h => h) (Or.inl ⟨by rfl, ?_⟩) (by assumption) ?_
          rotate_left
          · intro w hSw; (try dsimp only at hSw); go_simp <;> (with_reducible rfl)
          (try simp only [Act.put, List.setIfInBounds_toArray, List.set_cons_zero, List.set_cons_succ])
          refine wpAnyH_take (i := 8) (oi := { dst := some 41, op := Op.extract (Operand.tmp 33) 0, type := 35, pos := "law.go:154", after := #[{ on := 7, ground := Ground.data }], guard := none }) (v := ?_) rfl (by kernel_rfl) (by kernel_rfl) (by kernel_rfl) (fun _ _ _ h => h) (Or.inl ⟨by rfl, ?_⟩) (by assumption) ?_
          rotate_left
          · intro w hSw; (try dsimp only at hSw); go_simp <;> (with_reducible rfl)
          (try simp only [Act.put, List.setIfInBounds_toArray, List.set_cons_zero, List.set_cons_succ])
          refine wpAnyH_take (i := 9) (oi := { dst := some 42, op := Op.extract (Operand.tmp 33) 1, type := 40, pos := "law.go:154", after := #[{ on := 7, ground := Ground.data }, { on := 12, ground := Ground.gcOnly Departure.lateStores }], guard := none }) (v := ?_) rfl (by kernel_rfl) (by kernel_rfl) (by kernel_rfl) (fun _ _ _ h => h) (Or.inl ⟨by rfl, ?_⟩) (by assumption) ?_
          rotate_left
          · intro w hSw; (try dsimp only at hSw); go_simp <;> (with_reducible rfl)
          (try simp only [Act.put, List.setIfInBounds_toArray, List.set_cons_zero, List.set_cons_succ])
          refine wpAnyH_ready (rs := [10]) (by kernel_rfl) (by simp) ?_
          refine AllReadyH.cons (o := { dst := some 8, op := Op.alloc 35, type := 0, pos := "law.go:154", after := #[], guard := none }) rfl (fun K hK => ?_) ?_
          · go_simp
            obtain ⟨Wn3, en3, h10, bq3⟩ := allocC (Wn2)
            rw [en3]
            have BN3 := Lib.hid (hHeld.2.trans (bq3.mono hHeld.2.size))
            have SZ10 := Lib.hid hHeld.2.size
            have H10 := Lib.hid h10
            have BQ3 := Lib.hid bq3
            clear hHeld en3 h10 bq3
            refine hK.out _ _ ?_ (fun hHeld => ?_)
            · (try dsimp only)
              exact KS.out _ BN3.out
            clear hK K
            (try simp only [Act.put, List.setIfInBounds_toArray, List.set_cons_zero, List.set_cons_succ])
            refine wpAnyH_ready (rs := [12]) (by kernel_rfl) (by simp) ?_
            refine AllReadyH.cons (o := { dst := none, op := Op.store 35 (Operand.tmp 8) (Operand.tmp 41), type := 0, pos := "law.go:154", after := #[{ on := 10, ground := Ground.data }, { on := 8, ground := Ground.data }, { on := 6, ground := Ground.chain }, { on := 0, ground := Ground.phase }, { on := 1, ground := Ground.phase }, { on := 2, ground := Ground.phase }, { on := 3, ground := Ground.phase }, { on := 4, ground := Ground.phase }, { on := 5, ground := Ground.phase }, { on := 6, ground := Ground.phase }, { on := 7, ground := Ground.phase }, { on := 8, ground := Ground.phase }, { on := 9, ground := Ground.textOnly Departure.lateStores }, { on := 10, ground := Ground.phase }, { on := 11, ground := Ground.phase }], guard := none }) rfl (fun K hK => ?_) ?_
            · have C0 := Lib.hid H10.out
              have V0 := Lib.hid ((H11.out.below BQ2.out).below BQ3.out)
              have R3 := Lib.hid (K1.out.below BQ3.out)
              have E3 := Lib.hid (K2.out.below BQ3.out)
              have OR10 : Hid (Off RA' Wn2.heap.size) := Lib.hid (krow_off K1.out (by simp) (Nat.le_refl _))
              have OT10 : Hid (Off TA' Wn2.heap.size) := Lib.hid (evrow_off K2.out (by simp) (Nat.le_refl _))
              have OR11 : Hid (Off RA' Wn0.heap.size) := Lib.hid (K4.out.1 _ H11.out.lt (krow_off RK.out (by simp) SZ11.out))
              have OT11 : Hid (Off TA' Wn0.heap.size) := Lib.hid (K4.out.2 _ H11.out.lt (evrow_off RE.out (by simp) SZ11.out))
              have OG := Lib.hid (And.intro (K4.out.1 (g + 1) (Nat.lt_of_lt_of_le GL.out SZ6.out) OA.out.1) (K4.out.2 (g + 1) (Nat.lt_of_lt_of_le GL.out SZ6.out) OA.out.2))
              have NE : Hid (Wn0.heap.size ≠ Wn2.heap.size) := Lib.hid (Nat.ne_of_lt (H11.out.below BQ2.out).lt)
              obtain ⟨Wn4, e4⟩ : ∃ W, Wn3.setCell ⟨Wn2.heap.size, 1, none⟩ (.int .u32 v) = W := ⟨_, rfl⟩
              have C4 : HasB Wn4 (Wn2.heap.size) 35 [.int .u32 0, .int .u32 v, .int .u32 0, .int .u32 0, .int .u32 0, .int .u32 0, .int .u32 0, .int .u32 0, .int .u32 0, .int .u32 0, .int .u32 0] := by rw [← e4]; exact has_set C0.out 1 _
              have X4 : Chg (Wn2.heap.size) (Wn2.heap.size) Wn3 Wn4 := by rw [← e4]; exact chg_set (Chg.refl _ _ _) _ (.inl rfl) _ _
              have BN4 := Lib.hid (X4.below BN3.out BN3.out.size SZ10.out SZ10.out)
              have V4 := Lib.hid (V0.out.chg X4 NE.out NE.out)
              have R4 := Lib.hid (R3.out.chg X4 OR10.out OR10.out)
              have E4 := Lib.hid (E3.out.chg X4 OT10.out OT10.out)
              have q0 := set_same C0.out 0 _ rfl
              have q2 := set_same C4 2 _ rfl
              have q3 := set_same C4 3 _ rfl
              have q4 := set_same C4 4 _ rfl
              have q5 := set_same C4 5 _ rfl
              have q6 := set_same C4 6 _ rfl
              have q7 := set_same C4 7 _ rfl
              have q8 := set_same C4 8 _ rfl
              have q9 := set_same C4 9 _ rfl
              have q10 := set_same C4 10 _ rfl
              have mc0 := C0.out.cell 0; have mf0 := C0.out.frozen 0
              have mc1 := C0.out.cell 1; have mf1 := C0.out.frozen 1
              simp only [List.getElem?_cons_succ, List.getElem?_cons_zero] at mc0 mc1
              have nc2 := C4.cell 2; have nf2 := C4.frozen 2
              have nc3 := C4.cell 3; have nf3 := C4.frozen 3
              have nc4 := C4.cell 4; have nf4 := C4.frozen 4
              have nc5 := C4.cell 5; have nf5 := C4.frozen 5
              have nc6 := C4.cell 6; have nf6 := C4.frozen 6
              have nc7 := C4.cell 7; have nf7 := C4.frozen 7
              have nc8 := C4.cell 8; have nf8 := C4.frozen 8
              have nc9 := C4.cell 9; have nf9 := C4.frozen 9
              have nc10 := C4.cell 10; have nf10 := C4.frozen 10
              simp only [List.getElem?_cons_succ, List.getElem?_cons_zero] at nc2 nc3 nc4 nc5 nc6 nc7 nc8 nc9 nc10
              have HC4 := Lib.hid C4
              clear X4 C4 hHeld C0 V0 R3 E3 K1 K2 K4 H10 H11
              go_simp
              clear e4 q0 q2 q3 q4 q5 q6 q7 q8 q9 q10 mc0 mf0 mc1 mf1 nc2 nf2 nc3 nf3 nc4 nf4 nc5 nf5 nc6 nf6 nc7 nf7 nc8 nf8 nc9 nf9 nc10 nf10
              refine hK.out _ _ ?_ (fun hHeld => ?_)
              · (try dsimp only)
                exact KS.out _ BN4.out
              clear hK K
              (try simp only [Act.put, List.setIfInBounds_toArray, List.set_cons_zero, List.set_cons_succ])
              refine wpAnyH_ready (rs := [13]) (by kernel_rfl) (by simp) ?_
              refine AllReadyH.cons (o := { dst := none, op := Op.store 40 (Operand.tmp 9) (Operand.tmp 42), type := 0, pos := "law.go:154", after := #[{ on := 11, ground := Ground.data }, { on := 9, ground := Ground.data }, { on := 12, ground := Ground.chain }, { on := 0, ground := Ground.phase }, { on := 1, ground := Ground.phase }, { on := 2, ground := Ground.phase }, { on := 3, ground := Ground.phase }, { on := 4, ground := Ground.phase }, { on := 5, ground := Ground.phase }, { on := 6, ground := Ground.phase }, { on := 7, ground := Ground.phase }, { on := 8, ground := Ground.phase }, { on := 9, ground := Ground.phase }, { on := 10, ground := Ground.phase }, { on := 11, ground := Ground.phase }, { on := 12, ground := Ground.phase }], guard := none }) rfl (fun K hK => ?_) ?_
              · obtain ⟨Wa, eWa⟩ : ∃ W, Wn4.setCell ⟨Wn0.heap.size, 0, none⟩ (.slice RA' 2 rc') = W := ⟨_, rfl⟩
                have Va : HasB Wa (Wn0.heap.size) 40 [.slice RA' 2 rc', .int .i64 0, .slice none 0 0, .bool false, .int .u32 0] := by rw [← eWa]; exact has_set V4.out 0 _
                obtain ⟨Wb, eWb⟩ : ∃ W, Wa.setCell ⟨Wn0.heap.size, 2, none⟩ (.slice TA' 1 tc') = W := ⟨_, rfl⟩
                have Vb : HasB Wb (Wn0.heap.size) 40 [.slice RA' 2 rc', .int .i64 0, .slice TA' 1 tc', .bool false, .int .u32 0] := by rw [← eWb]; exact has_set Va 2 _
                obtain ⟨Wc, eWc⟩ : ∃ W, Wb.setCell ⟨Wn0.heap.size, 3, none⟩ (.bool true) = W := ⟨_, rfl⟩
                have Vc : HasB Wc (Wn0.heap.size) 40 [.slice RA' 2 rc', .int .i64 0, .slice TA' 1 tc', .bool true, .int .u32 0] := by rw [← eWc]; exact has_set Vb 3 _
                obtain ⟨Wn5, eWn5⟩ : ∃ W, Wc.setCell ⟨Wn0.heap.size, 4, none⟩ (.int .u32 v) = W := ⟨_, rfl⟩
                have V5 : HasB Wn5 (Wn0.heap.size) 40 [.slice RA' 2 rc', .int .i64 0, .slice TA' 1 tc', .bool true, .int .u32 v] := by rw [← eWn5]; exact has_set Vc 4 _
                have X5 : Chg (Wn0.heap.size) (Wn0.heap.size) Wn4 Wn5 := by rw [← eWn5, ← eWc, ← eWb, ← eWa]; exact chg_set (chg_set (chg_set (chg_set (Chg.refl _ _ _) _ (.inl rfl) _ _) _ (.inl rfl) _ _) _ (.inl rfl) _ _) _ (.inl rfl) _ _
                have BN5 := Lib.hid (X5.below BN4.out BN4.out.size SZ11.out SZ11.out)
                have C5 := Lib.hid (HC4.out.chg X5 (Ne.symm NE.out) (Ne.symm NE.out))
                have R5 := Lib.hid (R4.out.chg X5 OR11.out OR11.out)
                have E5 := Lib.hid (E4.out.chg X5 OT11.out OT11.out)
                have q1 := set_same Va 1 _ rfl
                have mc0 := V4.out.cell 0; have mf0 := V4.out.frozen 0
                simp only [List.getElem?_cons_zero] at mc0
                have nc1 := Va.cell 1; have nf1 := Va.frozen 1
                have nc2 := Va.cell 2; have nf2 := Va.frozen 2
                simp only [List.getElem?_cons_succ, List.getElem?_cons_zero] at nc1 nc2
                have oc3 := Vb.cell 3; have of3 := Vb.frozen 3
                simp only [List.getElem?_cons_succ, List.getElem?_cons_zero] at oc3
                have rc4 := Vc.cell 4; have rf4 := Vc.frozen 4
                simp only [List.getElem?_cons_succ, List.getElem?_cons_zero] at rc4
                have U5 := Lib.hid V5
                clear X5 V5 hHeld V4 R4 E4 HC4
                go_simp
                clear eWa eWb eWc eWn5 q1 mc0 mf0 nc1 nf1 nc2 nf2 oc3 of3 rc4 rf4 Va Vb Vc
                refine hK.out _ _ ?_ (fun hHeld => ?_)
                · (try dsimp only)
                  exact KS.out _ BN5.out
                clear hK K
                (try simp only [Act.put, List.setIfInBounds_toArray, List.set_cons_zero, List.set_cons_succ])
                refine wpAnyH_done (by kernel_rfl) ?_ _
                refine NoPanic.normal ?_
                clear hHeld
                generalize Wn2.heap.size = b8 at *
                generalize Wn0.heap.size = b9 at *
                clear BN1 BQ1 BN2 BQ2 BN3 BQ3 BN4 KS BR SZ6 SZ10 SZ11 OR10 OR11 OT10 OT11 D1
                have HC5 := Lib.hid (HC.out.below BN5.out)
                have HW5 := Lib.hid (HW.out.below BN5.out)
                have B5 := Lib.hid (HB.out.trans (BN5.out.mono HB.out.size))
                obtain ⟨W6, e6⟩ : ∃ W, Wn5.setCell ⟨g + 1, 0, none⟩ (.slice RA' 2 rc') = W := ⟨_, rfl⟩
                have V6 : HasB W6 (g + 1) 40 [.slice RA' 2 rc', .int .i64 0, .slice TA 1 tc, .bool true, .int .u32 v] := by rw [← e6]; exact has_set HW5.out 0 _
                obtain ⟨W7, e7⟩ : ∃ W, W6.setCell ⟨g + 1, 2, none⟩ (.slice TA' 1 tc') = W := ⟨_, rfl⟩
                have V7 : HasB W7 (g + 1) 40 [.slice RA' 2 rc', .int .i64 0, .slice TA' 1 tc', .bool true, .int .u32 v] := by rw [← e7]; exact has_set V6 2 _
                have X7 : Chg (g + 1) (g + 1) Wn5 W7 := by rw [← e7, ← e6]; exact chg_set (chg_set (Chg.refl _ _ _) _ (.inl rfl) _ _) _ (.inl rfl) _ _
                have HC7 := Lib.hid (HC5.out.chg X7 (by omega) (by omega))
                have HW7 := Lib.hid V7
                have R7 := Lib.hid (R5.out.chg X7 OG.out.1 OG.out.1)
                have E7 := Lib.hid (E5.out.chg X7 OG.out.2 OG.out.2)
                have B7 := Lib.hid (X7.below B5.out B5.out.size (by omega) (by omega))
                have q1 := set_same V6 1 _ rfl
                have q3 := set_same V7 3 _ rfl
                have q4 := set_same V7 4 _ rfl
                have ac0 := C5.out.cell 0; have af0 := C5.out.frozen 0
                have ac1 := C5.out.cell 1; have af1 := C5.out.frozen 1
                have ac2 := C5.out.cell 2; have af2 := C5.out.frozen 2
                have ac3 := C5.out.cell 3; have af3 := C5.out.frozen 3
                have ac4 := C5.out.cell 4; have af4 := C5.out.frozen 4
                have ac5 := C5.out.cell 5; have af5 := C5.out.frozen 5
                have ac6 := C5.out.cell 6; have af6 := C5.out.frozen 6
                have ac7 := C5.out.cell 7; have af7 := C5.out.frozen 7
                have ac8 := C5.out.cell 8; have af8 := C5.out.frozen 8
                have ac9 := C5.out.cell 9; have af9 := C5.out.frozen 9
                have ac10 := C5.out.cell 10; have af10 := C5.out.frozen 10
                simp only [List.getElem?_cons_succ, List.getElem?_cons_zero] at ac0 ac1 ac2 ac3 ac4 ac5 ac6 ac7 ac8 ac9 ac10
                have bc0 := HC5.out.cell 0; have bf0 := HC5.out.frozen 0
                have bc1 := HC5.out.cell 1; have bf1 := HC5.out.frozen 1
                have bc2 := HC5.out.cell 2; have bf2 := HC5.out.frozen 2
                have bc3 := HC5.out.cell 3; have bf3 := HC5.out.frozen 3
                have bc4 := HC5.out.cell 4; have bf4 := HC5.out.frozen 4
                have bc5 := HC5.out.cell 5; have bf5 := HC5.out.frozen 5
                have bc6 := HC5.out.cell 6; have bf6 := HC5.out.frozen 6
                have bc7 := HC5.out.cell 7; have bf7 := HC5.out.frozen 7
                have bc8 := HC5.out.cell 8; have bf8 := HC5.out.frozen 8
                have bc9 := HC5.out.cell 9; have bf9 := HC5.out.frozen 9
                have bc10 := HC5.out.cell 10; have bf10 := HC5.out.frozen 10
                simp only [List.getElem?_cons_succ, List.getElem?_cons_zero] at bc0 bc1 bc2 bc3 bc4 bc5 bc6 bc7 bc8 bc9 bc10
                have cc0 := U5.out.cell 0; have cf0 := U5.out.frozen 0
                have cc1 := U5.out.cell 1; have cf1 := U5.out.frozen 1
                have cc2 := U5.out.cell 2; have cf2 := U5.out.frozen 2
                have cc3 := U5.out.cell 3; have cf3 := U5.out.frozen 3
                have cc4 := U5.out.cell 4; have cf4 := U5.out.frozen 4
                simp only [List.getElem?_cons_succ, List.getElem?_cons_zero] at cc0 cc1 cc2 cc3 cc4
                have dc0 := HW5.out.cell 0; have df0 := HW5.out.frozen 0
                have dc1 := HW5.out.cell 1; have df1 := HW5.out.frozen 1
                have dc2 := HW5.out.cell 2; have df2 := HW5.out.frozen 2
                have dc3 := HW5.out.cell 3; have df3 := HW5.out.frozen 3
                have dc4 := HW5.out.cell 4; have df4 := HW5.out.frozen 4
                simp only [List.getElem?_cons_succ, List.getElem?_cons_zero] at dc0 dc1 dc2 dc3 dc4
                have mc1 := V6.cell 1; have mf1 := V6.frozen 1
                have mc2 := V6.cell 2; have mf2 := V6.frozen 2
                simp only [List.getElem?_cons_succ, List.getElem?_cons_zero] at mc1 mc2
                have nc3 := V7.cell 3; have nf3 := V7.frozen 3
                have nc4 := V7.cell 4; have nf4 := V7.frozen 4
                simp only [List.getElem?_cons_succ, List.getElem?_cons_zero] at nc3 nc4
                have EQ8 := eq8 v 0 0 0 0 0 0 0 Wn5
                clear X7 V6 V7 HC5 HW5 B5 BN5 C5 U5 R5 E5 NE
                go_wp2_with fail
                go_roundw
                case rel => exact ⟨j + 1, RA', rc', TA', tc', by go_num, by omega, HC7, HW7, R7, E7, OG, B7⟩
                case measure => simp [intOf]; omega
              exact AllReadyH.nil
            exact AllReadyH.nil
          exact AllReadyH.nil
        refine AllReadyH.cons (o := { dst := some 8, op := Op.alloc 35, type := 0, pos := "law.go:154", after := #[], guard := none }) rfl (fun K hK => ?_) ?_
        · go_simp
          obtain ⟨Wn2, en2, h10, bq2⟩ := allocC (Wn1)
          rw [en2]
          have BN2 := Lib.hid (hHeld.2.trans (bq2.mono hHeld.2.size))
          have SZ10 := Lib.hid hHeld.2.size
          have H10 := Lib.hid h10
          have BQ2 := Lib.hid bq2
          clear hHeld en2 h10 bq2
          refine hK.out _ _ ?_ (fun hHeld => ?_)
          · (try dsimp only)
            exact KS.out _ BN2.out
          clear hK K
          (try simp only [Act.put, List.setIfInBounds_toArray, List.set_cons_zero, List.set_cons_succ])
          refine wpAnyH_ready (rs := [6]) (by kernel_rfl) (by simp) ?_
          refine AllReadyH.cons (o := { dst := some 40, op := Op.call { callee := Callee.value (Operand.func 11), args := #[Operand.tmp 34, Operand.const (Value.pointer none), Operand.tmp 35, Operand.tmp 39], argTypes := #[35, 28, 40, 3] }, type := 41, pos := "law.go:154", after := #[{ on := 0, ground := Ground.data }, { on := 1, ground := Ground.data }, { on := 5, ground := Ground.data }], guard := none }) rfl (fun K hK => ?_) ?_
          · go_simp
            (with_reducible refine (D1.out _ hHeld.2).mono ?_); rintro e Wn3 ⟨RA', rc', TA', tc', rfl, k1, k2, k3, k4⟩
            go_wp2_with fail
            have BN3 := Lib.hid (hHeld.2.trans (k3.mono hHeld.2.size))
            have SZ6 := Lib.hid hHeld.2.size
            have K1 := Lib.hid k1
            have K2 := Lib.hid k2
            have BQ3 := Lib.hid k3
            have K4 := Lib.hid k4
            clear hHeld k1 k2 k3 k4
            refine hK.out _ _ ?_ (fun hHeld => ?_)
            · (try dsimp only)
              exact KS.out _ BN3.out
            clear hK K
            (try simp only [Act.put, List.setIfInBounds_toArray, List.set_cons_zero, List.set_cons_succ])
            refine wpAnyH_take (i := 7) (oi := { dst := some 33, op := Op.move (Operand.tmp 40), type := 41, pos := "law.go:154", after := #[{ on := 6, ground := Ground.data }], guard := none }) (v := ?_) rfl (by kernel_rfl) (by kernel_rfl) (by kernel_rfl) (fun _ _ _ h => h) (Or.inl ⟨by rfl, ?_⟩) (by assumption) ?_
            rotate_left
            · intro w hSw; (try dsimp only at hSw); go_simp <;> (with_reducible rfl)
            (try simp only [Act.put, List.setIfInBounds_toArray, List.set_cons_zero, List.set_cons_succ])
            refine wpAnyH_take (i := 8) (oi := { dst := some 41, op := Op.extract (Operand.tmp 33) 0, type := 35, pos := "law.go:154", after := #[{ on := 7, ground := Ground.data }], guard := none }) (v := ?_) rfl (by kernel_rfl) (by kernel_rfl) (by kernel_rfl) (fun _ _ _ h => h) (Or.inl ⟨by rfl, ?_⟩) (by assumption) ?_
            rotate_left
            · intro w hSw; (try dsimp only at hSw); go_simp <;> (with_reducible rfl)
            (try simp only [Act.put, List.setIfInBounds_toArray, List.set_cons_zero, List.set_cons_succ])
            refine wpAnyH_take (i := 9) (oi := { dst := some 42, op := Op.extract (Operand.tmp 33) 1, type := 40, pos := "law.go:154", after := #[{ on := 7, ground := Ground.data }, { on := 12, ground := Ground.gcOnly Departure.lateStores }], guard := none }) (v := ?_) rfl (by kernel_rfl) (by kernel_rfl) (by kernel_rfl) (fun _ _ _ h => h) (Or.inl ⟨by rfl, ?_⟩) (by assumption) ?_
            rotate_left
            · intro w hSw; (try dsimp only at hSw); go_simp <;> (with_reducible rfl)
            (try simp only [Act.put, List.setIfInBounds_toArray, List.set_cons_zero, List.set_cons_succ])
            refine wpAnyH_ready (rs := [12]) (by kernel_rfl) (by simp) ?_
            refine AllReadyH.cons (o := { dst := none, op := Op.store 35 (Operand.tmp 8) (Operand.tmp 41), type := 0, pos := "law.go:154", after := #[{ on := 10, ground := Ground.data }, { on := 8, ground := Ground.data }, { on := 6, ground := Ground.chain }, { on := 0, ground := Ground.phase }, { on := 1, ground := Ground.phase }, { on := 2, ground := Ground.phase }, { on := 3, ground := Ground.phase }, { on := 4, ground := Ground.phase }, { on := 5, ground := Ground.phase }, { on := 6, ground := Ground.phase }, { on := 7, ground := Ground.phase }, { on := 8, ground := Ground.phase }, { on := 9, ground := Ground.textOnly Departure.lateStores }, { on := 10, ground := Ground.phase }, { on := 11, ground := Ground.phase }], guard := none }) rfl (fun K hK => ?_) ?_
            · have C0 := Lib.hid (H10.out.below BQ3.out)
              have V0 := Lib.hid ((H11.out.below BQ2.out).below BQ3.out)
              have R3 := Lib.hid K1.out
              have E3 := Lib.hid K2.out
              have OR10 : Hid (Off RA' Wn1.heap.size) := Lib.hid (K4.out.1 _ H10.out.lt (krow_off RK.out (by simp) SZ10.out))
              have OT10 : Hid (Off TA' Wn1.heap.size) := Lib.hid (K4.out.2 _ H10.out.lt (evrow_off RE.out (by simp) SZ10.out))
              have OR11 : Hid (Off RA' Wn0.heap.size) := Lib.hid (K4.out.1 _ (H11.out.below BQ2.out).lt (krow_off RK.out (by simp) SZ11.out))
              have OT11 : Hid (Off TA' Wn0.heap.size) := Lib.hid (K4.out.2 _ (H11.out.below BQ2.out).lt (evrow_off RE.out (by simp) SZ11.out))
              have OG := Lib.hid (And.intro (K4.out.1 (g + 1) (Nat.lt_of_lt_of_le GL.out SZ6.out) OA.out.1) (K4.out.2 (g + 1) (Nat.lt_of_lt_of_le GL.out SZ6.out) OA.out.2))
              have NE : Hid (Wn0.heap.size ≠ Wn1.heap.size) := Lib.hid (Nat.ne_of_lt H11.out.lt)
              obtain ⟨Wn4, e4⟩ : ∃ W, Wn3.setCell ⟨Wn1.heap.size, 1, none⟩ (.int .u32 v) = W := ⟨_, rfl⟩
              have C4 : HasB Wn4 (Wn1.heap.size) 35 [.int .u32 0, .int .u32 v, .int .u32 0, .int .u32 0, .int .u32 0, .int .u32 0, .int .u32 0, .int .u32 0, .int .u32 0, .int .u32 0, .int .u32 0] := by rw [← e4]; exact has_set C0.out 1 _
              have X4 : Chg (Wn1.heap.size) (Wn1.heap.size) Wn3 Wn4 := by rw [← e4]; exact chg_set (Chg.refl _ _ _) _ (.inl rfl) _ _
              have BN4 := Lib.hid (X4.below BN3.out BN3.out.size SZ10.out SZ10.out)
              have V4 := Lib.hid (V0.out.chg X4 NE.out NE.out)
              have R4 := Lib.hid (R3.out.chg X4 OR10.out OR10.out)
              have E4 := Lib.hid (E3.out.chg X4 OT10.out OT10.out)
              have q0 := set_same C0.out 0 _ rfl
              have q2 := set_same C4 2 _ rfl
              have q3 := set_same C4 3 _ rfl
              have q4 := set_same C4 4 _ rfl
              have q5 := set_same C4 5 _ rfl
              have q6 := set_same C4 6 _ rfl
              have q7 := set_same C4 7 _ rfl
              have q8 := set_same C4 8 _ rfl
              have q9 := set_same C4 9 _ rfl
              have q10 := set_same C4 10 _ rfl
              have mc0 := C0.out.cell 0; have mf0 := C0.out.frozen 0
              have mc1 := C0.out.cell 1; have mf1 := C0.out.frozen 1
              simp only [List.getElem?_cons_succ, List.getElem?_cons_zero] at mc0 mc1
              have nc2 := C4.cell 2; have nf2 := C4.frozen 2
              have nc3 := C4.cell 3; have nf3 := C4.frozen 3
              have nc4 := C4.cell 4; have nf4 := C4.frozen 4
              have nc5 := C4.cell 5; have nf5 := C4.frozen 5
              have nc6 := C4.cell 6; have nf6 := C4.frozen 6
              have nc7 := C4.cell 7; have nf7 := C4.frozen 7
              have nc8 := C4.cell 8; have nf8 := C4.frozen 8
              have nc9 := C4.cell 9; have nf9 := C4.frozen 9
              have nc10 := C4.cell 10; have nf10 := C4.frozen 10
              simp only [List.getElem?_cons_succ, List.getElem?_cons_zero] at nc2 nc3 nc4 nc5 nc6 nc7 nc8 nc9 nc10
              have HC4 := Lib.hid C4
              clear X4 C4 hHeld C0 V0 R3 E3 K1 K2 K4 H10 H11
              go_simp
              clear e4 q0 q2 q3 q4 q5 q6 q7 q8 q9 q10 mc0 mf0 mc1 mf1 nc2 nf2 nc3 nf3 nc4 nf4 nc5 nf5 nc6 nf6 nc7 nf7 nc8 nf8 nc9 nf9 nc10 nf10
              refine hK.out _ _ ?_ (fun hHeld => ?_)
              · (try dsimp only)
                exact KS.out _ BN4.out
              clear hK K
              (try simp only [Act.put, List.setIfInBounds_toArray, List.set_cons_zero, List.set_cons_succ])
              refine wpAnyH_ready (rs := [13]) (by kernel_rfl) (by simp) ?_
              refine AllReadyH.cons (o := { dst := none, op := Op.store 40 (Operand.tmp 9) (Operand.tmp 42), type := 0, pos := "law.go:154", after := #[{ on := 11, ground := Ground.data }, { on := 9, ground := Ground.data }, { on := 12, ground := Ground.chain }, { on := 0, ground := Ground.phase }, { on := 1, ground := Ground.phase }, { on := 2, ground := Ground.phase }, { on := 3, ground := Ground.phase }, { on := 4, ground := Ground.phase }, { on := 5, ground := Ground.phase }, { on := 6, ground := Ground.phase }, { on := 7, ground := Ground.phase }, { on := 8, ground := Ground.phase }, { on := 9, ground := Ground.phase }, { on := 10, ground := Ground.phase }, { on := 11, ground := Ground.phase }, { on := 12, ground := Ground.phase }], guard := none }) rfl (fun K hK => ?_) ?_
              · obtain ⟨Wa, eWa⟩ : ∃ W, Wn4.setCell ⟨Wn0.heap.size, 0, none⟩ (.slice RA' 2 rc') = W := ⟨_, rfl⟩
                have Va : HasB Wa (Wn0.heap.size) 40 [.slice RA' 2 rc', .int .i64 0, .slice none 0 0, .bool false, .int .u32 0] := by rw [← eWa]; exact has_set V4.out 0 _
                obtain ⟨Wb, eWb⟩ : ∃ W, Wa.setCell ⟨Wn0.heap.size, 2, none⟩ (.slice TA' 1 tc') = W := ⟨_, rfl⟩
                have Vb : HasB Wb (Wn0.heap.size) 40 [.slice RA' 2 rc', .int .i64 0, .slice TA' 1 tc', .bool false, .int .u32 0] := by rw [← eWb]; exact has_set Va 2 _
                obtain ⟨Wc, eWc⟩ : ∃ W, Wb.setCell ⟨Wn0.heap.size, 3, none⟩ (.bool true) = W := ⟨_, rfl⟩
                have Vc : HasB Wc (Wn0.heap.size) 40 [.slice RA' 2 rc', .int .i64 0, .slice TA' 1 tc', .bool true, .int .u32 0] := by rw [← eWc]; exact has_set Vb 3 _
                obtain ⟨Wn5, eWn5⟩ : ∃ W, Wc.setCell ⟨Wn0.heap.size, 4, none⟩ (.int .u32 v) = W := ⟨_, rfl⟩
                have V5 : HasB Wn5 (Wn0.heap.size) 40 [.slice RA' 2 rc', .int .i64 0, .slice TA' 1 tc', .bool true, .int .u32 v] := by rw [← eWn5]; exact has_set Vc 4 _
                have X5 : Chg (Wn0.heap.size) (Wn0.heap.size) Wn4 Wn5 := by rw [← eWn5, ← eWc, ← eWb, ← eWa]; exact chg_set (chg_set (chg_set (chg_set (Chg.refl _ _ _) _ (.inl rfl) _ _) _ (.inl rfl) _ _) _ (.inl rfl) _ _) _ (.inl rfl) _ _
                have BN5 := Lib.hid (X5.below BN4.out BN4.out.size SZ11.out SZ11.out)
                have C5 := Lib.hid (HC4.out.chg X5 (Ne.symm NE.out) (Ne.symm NE.out))
                have R5 := Lib.hid (R4.out.chg X5 OR11.out OR11.out)
                have E5 := Lib.hid (E4.out.chg X5 OT11.out OT11.out)
                have q1 := set_same Va 1 _ rfl
                have mc0 := V4.out.cell 0; have mf0 := V4.out.frozen 0
                simp only [List.getElem?_cons_zero] at mc0
                have nc1 := Va.cell 1; have nf1 := Va.frozen 1
                have nc2 := Va.cell 2; have nf2 := Va.frozen 2
                simp only [List.getElem?_cons_succ, List.getElem?_cons_zero] at nc1 nc2
                have oc3 := Vb.cell 3; have of3 := Vb.frozen 3
                simp only [List.getElem?_cons_succ, List.getElem?_cons_zero] at oc3
                have rc4 := Vc.cell 4; have rf4 := Vc.frozen 4
                simp only [List.getElem?_cons_succ, List.getElem?_cons_zero] at rc4
                have U5 := Lib.hid V5
                clear X5 V5 hHeld V4 R4 E4 HC4
                go_simp
                clear eWa eWb eWc eWn5 q1 mc0 mf0 nc1 nf1 nc2 nf2 oc3 of3 rc4 rf4 Va Vb Vc
                refine hK.out _ _ ?_ (fun hHeld => ?_)
                · (try dsimp only)
                  exact KS.out _ BN5.out
                clear hK K
                (try simp only [Act.put, List.setIfInBounds_toArray, List.set_cons_zero, List.set_cons_succ])
                refine wpAnyH_done (by kernel_rfl) ?_ _
                refine NoPanic.normal ?_
                clear hHeld
                generalize Wn1.heap.size = b8 at *
                generalize Wn0.heap.size = b9 at *
                clear BN1 BQ1 BN2 BQ2 BN3 BQ3 BN4 KS BR SZ6 SZ10 SZ11 OR10 OR11 OT10 OT11 D1
                have HC5 := Lib.hid (HC.out.below BN5.out)
                have HW5 := Lib.hid (HW.out.below BN5.out)
                have B5 := Lib.hid (HB.out.trans (BN5.out.mono HB.out.size))
                obtain ⟨W6, e6⟩ : ∃ W, Wn5.setCell ⟨g + 1, 0, none⟩ (.slice RA' 2 rc') = W := ⟨_, rfl⟩
                have V6 : HasB W6 (g + 1) 40 [.slice RA' 2 rc', .int .i64 0, .slice TA 1 tc, .bool true, .int .u32 v] := by rw [← e6]; exact has_set HW5.out 0 _
                obtain ⟨W7, e7⟩ : ∃ W, W6.setCell ⟨g + 1, 2, none⟩ (.slice TA' 1 tc') = W := ⟨_, rfl⟩
                have V7 : HasB W7 (g + 1) 40 [.slice RA' 2 rc', .int .i64 0, .slice TA' 1 tc', .bool true, .int .u32 v] := by rw [← e7]; exact has_set V6 2 _
                have X7 : Chg (g + 1) (g + 1) Wn5 W7 := by rw [← e7, ← e6]; exact chg_set (chg_set (Chg.refl _ _ _) _ (.inl rfl) _ _) _ (.inl rfl) _ _
                have HC7 := Lib.hid (HC5.out.chg X7 (by omega) (by omega))
                have HW7 := Lib.hid V7
                have R7 := Lib.hid (R5.out.chg X7 OG.out.1 OG.out.1)
                have E7 := Lib.hid (E5.out.chg X7 OG.out.2 OG.out.2)
                have B7 := Lib.hid (X7.below B5.out B5.out.size (by omega) (by omega))
                have q1 := set_same V6 1 _ rfl
                have q3 := set_same V7 3 _ rfl
                have q4 := set_same V7 4 _ rfl
                have ac0 := C5.out.cell 0; have af0 := C5.out.frozen 0
                have ac1 := C5.out.cell 1; have af1 := C5.out.frozen 1
                have ac2 := C5.out.cell 2; have af2 := C5.out.frozen 2
                have ac3 := C5.out.cell 3; have af3 := C5.out.frozen 3
                have ac4 := C5.out.cell 4; have af4 := C5.out.frozen 4
                have ac5 := C5.out.cell 5; have af5 := C5.out.frozen 5
                have ac6 := C5.out.cell 6; have af6 := C5.out.frozen 6
                have ac7 := C5.out.cell 7; have af7 := C5.out.frozen 7
                have ac8 := C5.out.cell 8; have af8 := C5.out.frozen 8
                have ac9 := C5.out.cell 9; have af9 := C5.out.frozen 9
                have ac10 := C5.out.cell 10; have af10 := C5.out.frozen 10
                simp only [List.getElem?_cons_succ, List.getElem?_cons_zero] at ac0 ac1 ac2 ac3 ac4 ac5 ac6 ac7 ac8 ac9 ac10
                have bc0 := HC5.out.cell 0; have bf0 := HC5.out.frozen 0
                have bc1 := HC5.out.cell 1; have bf1 := HC5.out.frozen 1
                have bc2 := HC5.out.cell 2; have bf2 := HC5.out.frozen 2
                have bc3 := HC5.out.cell 3; have bf3 := HC5.out.frozen 3
                have bc4 := HC5.out.cell 4; have bf4 := HC5.out.frozen 4
                have bc5 := HC5.out.cell 5; have bf5 := HC5.out.frozen 5
                have bc6 := HC5.out.cell 6; have bf6 := HC5.out.frozen 6
                have bc7 := HC5.out.cell 7; have bf7 := HC5.out.frozen 7
                have bc8 := HC5.out.cell 8; have bf8 := HC5.out.frozen 8
                have bc9 := HC5.out.cell 9; have bf9 := HC5.out.frozen 9
                have bc10 := HC5.out.cell 10; have bf10 := HC5.out.frozen 10
                simp only [List.getElem?_cons_succ, List.getElem?_cons_zero] at bc0 bc1 bc2 bc3 bc4 bc5 bc6 bc7 bc8 bc9 bc10
                have cc0 := U5.out.cell 0; have cf0 := U5.out.frozen 0
                have cc1 := U5.out.cell 1; have cf1 := U5.out.frozen 1
                have cc2 := U5.out.cell 2; have cf2 := U5.out.frozen 2
                have cc3 := U5.out.cell 3; have cf3 := U5.out.frozen 3
                have cc4 := U5.out.cell 4; have cf4 := U5.out.frozen 4
                simp only [List.getElem?_cons_succ, List.getElem?_cons_zero] at cc0 cc1 cc2 cc3 cc4
                have dc0 := HW5.out.cell 0; have df0 := HW5.out.frozen 0
                have dc1 := HW5.out.cell 1; have df1 := HW5.out.frozen 1
                have dc2 := HW5.out.cell 2; have df2 := HW5.out.frozen 2
                have dc3 := HW5.out.cell 3; have df3 := HW5.out.frozen 3
                have dc4 := HW5.out.cell 4; have df4 := HW5.out.frozen 4
                simp only [List.getElem?_cons_succ, List.getElem?_cons_zero] at dc0 dc1 dc2 dc3 dc4
                have mc1 := V6.cell 1; have mf1 := V6.frozen 1
                have mc2 := V6.cell 2; have mf2 := V6.frozen 2
                simp only [List.getElem?_cons_succ, List.getElem?_cons_zero] at mc1 mc2
                have nc3 := V7.cell 3; have nf3 := V7.frozen 3
                have nc4 := V7.cell 4; have nf4 := V7.frozen 4
                simp only [List.getElem?_cons_succ, List.getElem?_cons_zero] at nc3 nc4
                have EQ8 := eq8 v 0 0 0 0 0 0 0 Wn5
                clear X7 V6 V7 HC5 HW5 B5 BN5 C5 U5 R5 E5 NE
                go_wp2_with fail
                go_roundw
                case rel => exact ⟨j + 1, RA', rc', TA', tc', by go_num, by omega, HC7, HW7, R7, E7, OG, B7⟩
                case measure => simp [intOf]; omega
              exact AllReadyH.nil
            exact AllReadyH.nil
          exact AllReadyH.nil
        exact AllReadyH.nil
      exact AllReadyH.nil
    · have hlt' : ¬ ((j : Int) < (n : Int)) := by omega
      have y0 := HC.out.cell 1
      have y3 := HW.out.cell 3
      have y4 := HW.out.cell 4
      simp only [List.getElem?_cons_succ, List.getElem?_cons_zero] at y0 y3 y4
      go_wp2_with fail
      go_ret
      exact ⟨rfl, HB.out⟩
theorem vover_long (AW : Hid AwG) (v : Int) (A0 : Option Addr) (ca n : Nat) (h1 : n ≤ maxLen) (h : 40 < n) (w : World) :
    Calls Try.prog 6 #[.int .u32 v, .slice A0 n ca] w fun e w' => e = .returned (.bool true) ∧ Below w.heap.size w w' := by
  unfold maxLen at h1
  go_enter Try.func6, Try.ntmps6
  go_wp2_with fail
  refine (AW.out _).mono ?_; rintro e w1 ⟨rfl, hb1⟩
  have B1 := Lib.hid hb1; clear hb1
  go_wp2_with fail
  refine (AW.out _).mono ?_; rintro e w2 ⟨rfl, hb2⟩
  have B2 := Lib.hid (bel_then B1.out hb2); clear hb2
  go_wp2_with fail
  go_ret
  exact ⟨rfl, B2.out⟩
theorem vover (AW : Hid AwG) (DC : Hid DoGC) (v : Int) (A0 : Option Addr) (n ca : Nat) (w : World) (wv : (Lit.int .u32 v).wf = true) (rA : ∃ l : List Int, n = l.length ∧ KRow .i64 w A0 ca l) :
    Calls Try.prog 6 #[.int .u32 v, .slice A0 n ca] w fun e w' => e = .returned (.bool true) ∧ Below w.heap.size w w' := by
  obtain ⟨l, hl, rA⟩ := rA
  by_cases h : n ≤ 40
  · exact vover_few AW DC v (by have := bounds_u32 wv; unfold U32; omega) A0 ca n l hl.symm h w rA
  · exact vover_long AW v A0 ca n (by rw [hl]; exact Nat.le_trans rA.1 rA.2.1) (by omega) w
end Go.Proofs.Ytjfhoaahohinhaa.Mm
