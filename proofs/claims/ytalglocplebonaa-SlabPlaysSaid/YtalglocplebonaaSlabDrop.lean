/- Package slab as it landed: Drop. -/
import Derived.Test.YtalglocplebonaaSlabAdd
namespace Go.Proofs.Ytalglocplebonaa.Mm
open Go.ChangeShapes Go.WideShapes Go.ChangeAt Go.RowKit
set_option linter.unusedVariables false
set_option linter.unusedSimpArgs false

theorem parts2 (ws : World) (A1 : Option Addr) (c1 : Nat) (L1 : List Rg) (A2 : Option Addr) (c2 : Nat) (L2 : List Rg) (r1 : RgRow ws A1 c1 L1) (r2 : RgRow ws A2 c2 L2) :
    PartsG ((ws.alloc (.cells #[.slice A1 L1.length c1, .slice A2 L2.length c2] 30)).drew) ws.heap.size [⟨A1, c1, L1⟩, ⟨A2, c2, L2⟩] := by
  have b1 := bel_al (Below.refl ws.heap.size ws) (.cells #[.slice A1 L1.length c1, .slice A2 L2.length c2] 30)
  have H := HasB.new ws 30 [.slice A1 L1.length c1, .slice A2 L2.length c2]
  refine ⟨H, fun p hp => ?_⟩
  simp only [List.mem_cons, List.not_mem_nil, or_false] at hp
  rcases hp with rfl | rfl
  · exact r1.below (below_drewG b1)
  · exact r2.below (below_drewG b1)
theorem cat2 (ws : World) (A1 : Option Addr) (c1 : Nat) (L1 : List Rg) (A2 : Option Addr) (c2 : Nat) (L2 : List Rg) (r1 : RgRow ws A1 c1 L1) (r2 : RgRow ws A2 c2 L2) (k m N : Nat) (hk : L1.length = k) (hm : L2.length = m) (hN : k + m = N) (hb : N ≤ 5000) :
    ∀ W, W = ((ws.alloc (.cells #[.slice A1 k c1, .slice A2 m c2] 30)).drew) →
    Calls Try.prog 23 #[.slice (some ⟨ws.heap.size, 0, none⟩) 2 2] W fun e w' => ∃ A cap, e = .returned (.slice A N cap) ∧ RgRow w' A cap (L1 ++ L2) ∧ Below W.heap.size W w' := by
  intro W hW
  have P := parts2 ws A1 c1 L1 A2 c2 L2 r1 r2
  rw [hk, hm, ← hW] at P
  have e : flatP [⟨A1, c1, L1⟩, ⟨A2, c2, L2⟩] = L1 ++ L2 := by simp [flatP]
  have hl : (L1 ++ L2).length = N := by simp; omega
  have C := concat_any _ ws.heap.size 2 W rfl P (by rw [e, hl]; omega) (by omega)
  rw [e, hl] at C
  exact C
theorem base_any (y : Rg) (b : Int) (h : Nat) (w : World) (X : HasB w h 3 [.int .i64 b]) :
    Calls Try.prog 25 #[.agg #[.int .i64 y.1, .int .i64 y.2], .pointer (some ⟨h, 0, none⟩)] w fun e w' => e = .returned (.bool (y.1 == b)) ∧ Below w.heap.size w w' := by
  obtain ⟨ya, yb⟩ := y
  have hne : h ≠ w.heap.size := by have := X.lt; omega
  have X2 := X.below (bel_al (Below.refl _ w) (.cells #[.int .i64 ya, .int .i64 yb] 26))
  have d0 := X2.cell 0
  simp only [List.getElem?_cons_zero] at d0
  have B1 := Lib.hid (bel_al (Below.refl _ w) (.cells #[.int .i64 ya, .int .i64 yb] 26))
  clear X X2
  simp only
  go_enter Try.func25, Try.ntmps25
  go_wp2
  go_ret
  exact ⟨rfl, B1.out⟩
def IxP (L : List Rg) (b : Int) (i : Int) : Prop := (i = -1 ∧ ∀ r ∈ L, r.1 ≠ b) ∨ (∃ k : Nat, i = k ∧ k < L.length ∧ (L.getD k (0, 0)).1 = b ∧ ∀ j, j < k → (L.getD j (0, 0)).1 ≠ b)
set_option maxHeartbeats 1000000 in
theorem ix_any (h : Nat) (A : Option Addr) (c n : Nat) (L : List Rg) (b : Int) (hn : L.length = n) (hb : n ≤ 100000) (w : World) (r : RgRow w A c L) (X : HasB w h 3 [.int .i64 b]) :
    Calls Try.prog 24 #[.slice A n c, .func (.func 25) #[] #[.pointer (some ⟨h, 0, none⟩)]] w fun e w' => ∃ i : Int, e = .returned (.int .i64 i) ∧ IxP L b i ∧ Below w.heap.size w w' := by
  have HN := Lib.hid hn
  have R := Lib.hid r
  have HX := Lib.hid X
  have B0 := Lib.hid (Below.refl w.heap.size w)
  clear hn r X
  go_enter Try.func24, Try.ntmps24
  go_wp2
  go_loopw [8] (fun i wr => ∃ (k : Nat), i = .int .i64 k ∧ k ≤ n ∧ Hid (∀ j, j < k → (L.getD j (0, 0)).1 ≠ b) ∧ Hid (Below w.heap.size w wr)) (fun i _ => n - (intOf i).toNat)
  case atStart => exact ⟨0, rfl, Nat.zero_le _, Lib.hid (fun j h => by omega), B0⟩
  case round =>
    obtain ⟨k, rfl, hk, HI, HB⟩ := hrel
    by_cases hlt : k < n
    · obtain ⟨x, rfl, hxb, hc⟩ := (R.out.below HB.out).2.2.2 (by intro e; have := HN.out; rw [e] at this; simp at this; omega)
      have c0 := (hc k (by rw [HN.out]; exact hlt)).c0
      have c1 := (hc k (by rw [HN.out]; exact hlt)).c1
      have C := Lib.hid (base_any (L.getD k (0, 0)) b h wr (HX.out.below HB.out))
      have HY := Lib.hid (fun (e : (L.getD k (0, 0)).1 = b) => (.inr ⟨k, rfl, by rw [HN.out]; exact hlt, e, HI.out⟩ : IxP L b (k : Int)))
      have HS := Lib.hid (fun (e : (L.getD k (0, 0)).1 ≠ b) j (hj : j < k + 1) => (by
        rcases Nat.lt_or_ge j k with h | h
        · exact HI.out j h
        · obtain rfl : j = k := by omega
          exact e : (L.getD j (0, 0)).1 ≠ b))
      clear hc HI
      have hkn : (k : Int) < (n : Int) := by omega
      generalize hy : L.getD k (0, 0) = y at *
      clear hy
      obtain ⟨ya, yb⟩ := y
      simp only at c0 c1 C HY HS
      by_cases hq : ya = b
      · have H1 := Lib.hid (HY.out hq)
        rw [show (ya == b) = true by simpa using hq] at C
        clear hq HY HS
        go_wp2_with fail
        refine C.out.mono ?_; rintro e w1 ⟨rfl, hb1⟩
        have B1 := Lib.hid (bel_then HB.out hb1)
        clear hb1
        go_wp2
        go_ret
        exact ⟨k, rfl, H1.out, B1.out⟩
      · have H1 := Lib.hid (HS.out hq)
        rw [show (ya == b) = false by simpa using hq] at C
        clear hq HY HS
        go_wp2_with fail
        refine C.out.mono ?_; rintro e w1 ⟨rfl, hb1⟩
        have B1 := Lib.hid (bel_then HB.out hb1)
        clear hb1
        go_wp2
        go_roundw
        case rel => exact ⟨k + 1, by go_num, by omega, H1, B1⟩
        case measure => simp [intOf]; omega
    · obtain rfl : k = n := by omega
      have H1 : Hid (IxP L b (-1)) := Lib.hid (.inl ⟨rfl, fun r hr e => by
        obtain ⟨j, hj, rfl⟩ := List.mem_iff_getElem.1 hr
        have := HI.out j (by rw [← HN.out]; exact hj)
        rw [List.getD_eq_getElem?_getD, List.getElem?_eq_getElem hj] at this
        exact this e⟩)
      go_wp2
      go_ret
      exact ⟨-1, rfl, H1.out, HB.out⟩
theorem drop_is {L : List Rg} {b : Int} {k : Nat} (hk : k < L.length) (h1 : (L.getD k (0, 0)).1 = b) (h2 : ∀ j, j < k → (L.getD j (0, 0)).1 ≠ b) : DropIs L b (L.take k ++ L.drop (k + 1)) (L.take k) (L.drop (k + 1)) (L.getD k (0, 0)) := by
  refine ⟨?_, rfl, h1, fun r hr => ?_⟩
  · conv => lhs; rw [← List.take_append_drop k L]
    rw [List.drop_eq_getElem_cons hk, List.getD_eq_getElem?_getD, List.getElem?_eq_getElem hk]; rfl
  · obtain ⟨i, hi, rfl⟩ := List.mem_iff_getElem.1 hr
    have hik : i < k := by rw [List.length_take] at hi; omega
    have := h2 i hik
    rwa [← take_getDG L hik, List.getD_eq_getElem?_getD, List.getElem?_eq_getElem hi] at this
set_option maxRecDepth 10000 in
set_option maxHeartbeats 4000000 in
theorem drop_code : DropC := by
  intro A cap n L b hl hn hb w R
  have RR := Lib.hid R
  have HL := Lib.hid hl
  have HX := Lib.hid (HasB.new w 3 [.int .i64 b])
  have hX2 : w.alloc (.cells #[.int .i64 b] 3) = w.alloc (.cells [.int .i64 b].toArray 3) := rfl
  rw [← hX2] at HX
  have B0 := Lib.hid (bel_al (Below.refl w.heap.size w) (.cells #[.int .i64 b] 3))
  have IC := Lib.hid (ix_any w.heap.size A cap n L b hl (by omega) _ (R.below B0.out) HX.out)
  clear hX2 R hl hb HX
  go_enter Try.func17, Try.ntmps17
  go_wp2_with fail
  refine IC.out.mono ?_; rintro e w1 ⟨i, rfl, hi, hb1⟩
  have BW := Lib.hid (bel_then B0.out hb1)
  clear hb1 IC B0
  rcases hi with ⟨rfl, hno⟩ | ⟨k, rfl, hk, h1, h2⟩
  · have NO := Lib.hid hno
    clear hno
    go_wp2_with fail
    go_ret2
    exact .inl ⟨NO.out, rfl, BW.out⟩
  · have DI := Lib.hid (drop_is hk h1 h2)
    rw [HL.out] at hk
    have CUTL := cut_toG RR.out n HL.out k (k : Int) rfl (by omega)
    have CUTR := cut_fromG RR.out n HL.out (k + 1) (n - (k + 1)) ((k : Int) + 1) (by omega) (by omega)
    obtain ⟨A1, c1, s1, t1⟩ := CUTL
    obtain ⟨A2, c2, s2, t2⟩ := CUTR
    have RW := RR.out.below BW.out
    have C2 := Lib.hid (cat2 w1 A1 c1 _ A2 c2 _ (t1 _ RW) (t2 _ RW) k (n - (k + 1)) (n - 1) (by rw [List.length_take, HL.out]; omega) (by rw [List.length_drop, HL.out]) (by omega) (by omega))
    clear RW t1 t2 h1 h2
    generalize L.getD k (0, 0) = y at *
    have wk : IntKind.i64.wrap ((k : Int) + 1) = (k : Int) + 1 := IntWalk.i64_in _ (by omega)
    have hk0 : ¬ ((k : Int) < 0) := by omega
    go_wp2_with fail
    generalize hws : w1 = ws at *
    clear hws
    have BR := Lib.hid (Below.refl ws.heap.size ws)
    refine wp_region_noPanic ?_
    refine wp_region_held_drew (S := (fun w' => Below ws.heap.size ws w')) (by kernel_rfl) ?_ (fun hHeld => ?_)
    · (try dsimp only)
      first | exact BR.out | exact below_drewG BR.out
    refine wpAnyH_take (i := 0) (oi := { dst := some 12, op := Op.move (Operand.tmp 0), type := 30, pos := "slab.go:70", after := #[], guard := none }) (v := ?_) rfl (by kernel_rfl) (by kernel_rfl) (by kernel_rfl) (fun _ _ _ h => h) (Or.inl ⟨by rfl, ?_⟩) (by assumption) ?_
    rotate_left
    · intro w hSw; (try dsimp only at hSw); go_simp <;> (with_reducible rfl)
    (try simp only [Act.put, List.setIfInBounds_toArray, List.set_cons_zero, List.set_cons_succ])
    refine wpAnyH_take (i := 1) (oi := { dst := some 13, op := Op.move (Operand.tmp 6), type := 3, pos := "slab.go:70", after := #[], guard := none }) (v := ?_) rfl (by kernel_rfl) (by kernel_rfl) (by kernel_rfl) (fun _ _ _ h => h) (Or.inl ⟨by rfl, ?_⟩) (by assumption) ?_
    rotate_left
    · intro w hSw; (try dsimp only at hSw); go_simp <;> (with_reducible rfl)
    (try simp only [Act.put, List.setIfInBounds_toArray, List.set_cons_zero, List.set_cons_succ])
    refine wpAnyH_take (i := 2) (oi := { dst := some 14, op := Op.slice 30 (Operand.tmp 12) none (some (Operand.tmp 13)) none, type := 30, pos := "slab.go:70", after := #[{ on := 0, ground := Ground.data }, { on := 1, ground := Ground.data }], guard := none }) (v := ?_) rfl (by kernel_rfl) (by kernel_rfl) (by kernel_rfl) (fun _ _ _ h => h) (Or.inl ⟨by rfl, ?_⟩) (by assumption) ?_
    rotate_left
    · intro w hSw; (try dsimp only at hSw); go_simp <;> (with_reducible rfl)
    (try simp only [Act.put, List.setIfInBounds_toArray, List.set_cons_zero, List.set_cons_succ])
    refine wpAnyH_take (i := 3) (oi := { dst := some 15, op := Op.move (Operand.tmp 0), type := 30, pos := "slab.go:70", after := #[], guard := none }) (v := ?_) rfl (by kernel_rfl) (by kernel_rfl) (by kernel_rfl) (fun _ _ _ h => h) (Or.inl ⟨by rfl, ?_⟩) (by assumption) ?_
    rotate_left
    · intro w hSw; (try dsimp only at hSw); go_simp <;> (with_reducible rfl)
    (try simp only [Act.put, List.setIfInBounds_toArray, List.set_cons_zero, List.set_cons_succ])
    refine wpAnyH_take (i := 4) (oi := { dst := some 16, op := Op.move (Operand.tmp 6), type := 3, pos := "slab.go:70", after := #[], guard := none }) (v := ?_) rfl (by kernel_rfl) (by kernel_rfl) (by kernel_rfl) (fun _ _ _ h => h) (Or.inl ⟨by rfl, ?_⟩) (by assumption) ?_
    rotate_left
    · intro w hSw; (try dsimp only at hSw); go_simp <;> (with_reducible rfl)
    (try simp only [Act.put, List.setIfInBounds_toArray, List.set_cons_zero, List.set_cons_succ])
    refine wpAnyH_take (i := 5) (oi := { dst := some 17, op := Op.binOp BinOp.add 3 (Operand.tmp 16) (Operand.const (Value.int IntKind.i64 1)) 3, type := 3, pos := "slab.go:70", after := #[{ on := 4, ground := Ground.data }], guard := none }) (v := ?_) rfl (by kernel_rfl) (by kernel_rfl) (by kernel_rfl) (fun _ _ _ h => h) (Or.inl ⟨by rfl, ?_⟩) (by assumption) ?_
    rotate_left
    · intro w hSw; (try dsimp only at hSw); go_simp <;> (with_reducible rfl)
    (try simp only [Act.put, List.setIfInBounds_toArray, List.set_cons_zero, List.set_cons_succ])
    refine wpAnyH_take (i := 6) (oi := { dst := some 18, op := Op.slice 30 (Operand.tmp 15) (some (Operand.tmp 17)) none none, type := 30, pos := "slab.go:70", after := #[{ on := 3, ground := Ground.data }, { on := 5, ground := Ground.data }], guard := none }) (v := ?_) rfl (by kernel_rfl) (by kernel_rfl) (by kernel_rfl) (fun _ _ _ h => h) (Or.inl ⟨by rfl, ?_⟩) (by assumption) ?_
    rotate_left
    · intro w hSw; (try dsimp only at hSw); go_simp <;> (with_reducible rfl)
    (try simp only [Act.put, List.setIfInBounds_toArray, List.set_cons_zero, List.set_cons_succ])
    refine wpAnyH_ready (rs := [7]) (by kernel_rfl) (by simp) ?_
    refine AllReadyH.cons (o := { dst := some 19, op := Op.buildSlice 55 2 #[(0, Operand.tmp 14), (1, Operand.tmp 18)], type := 55, pos := "slab.go:70", after := #[{ on := 2, ground := Ground.data }, { on := 6, ground := Ground.data }], guard := none }) rfl (fun K hK => ?_) ?_
    · go_simp
      refine hK.out _ _ ?_ (fun hHeld => ?_)
      · (try dsimp only)
        exact bel_al hHeld _
      clear hK K
      (try simp only [Act.put, List.setIfInBounds_toArray, List.set_cons_zero, List.set_cons_succ])
      refine wpAnyH_ready (rs := [8]) (by kernel_rfl) (by simp) ?_
      refine AllReadyH.cons (o := { dst := some 20, op := Op.call { callee := Callee.value (Operand.func 23), args := #[Operand.tmp 19], argTypes := #[55] }, type := 30, pos := "slab.go:70", after := #[{ on := 7, ground := Ground.data }], guard := none }) rfl (fun K hK => ?_) ?_
      · go_simp
        (with_reducible refine (C2.out _ rfl).mono ?_); rintro e w' ⟨A9, c9, rfl, r9, hb⟩
        go_wp2_with fail
        refine hK.out _ _ ?_ (fun hHeld => ?_)
        · (try dsimp only)
          exact bel_then hHeld hb
        clear hK K
        (try simp only [Act.put, List.setIfInBounds_toArray, List.set_cons_zero, List.set_cons_succ])
        refine wpAnyH_take (i := 9) (oi := { dst := some 4, op := Op.assign (Operand.tmp 20), type := 30, pos := "slab.go:70", after := #[{ on := 8, ground := Ground.data }, { on := 8, ground := Ground.chain }, { on := 0, ground := Ground.phase }, { on := 1, ground := Ground.phase }, { on := 2, ground := Ground.phase }, { on := 3, ground := Ground.phase }, { on := 4, ground := Ground.phase }, { on := 5, ground := Ground.phase }, { on := 6, ground := Ground.phase }, { on := 7, ground := Ground.phase }, { on := 8, ground := Ground.phase }], guard := none }) (v := ?_) rfl (by kernel_rfl) (by kernel_rfl) (by kernel_rfl) (fun _ _ _ h => h) (Or.inl ⟨by rfl, ?_⟩) (by assumption) ?_
        rotate_left
        · intro w hSw; (try dsimp only at hSw); go_simp <;> (with_reducible rfl)
        (try simp only [Act.put, List.setIfInBounds_toArray, List.set_cons_zero, List.set_cons_succ])
        refine wpAnyH_take (i := 10) (oi := { dst := some 5, op := Op.assign (Operand.const (Value.int IntKind.i64 0)), type := 27, pos := "slab.go:70", after := #[{ on := 9, ground := Ground.chain }, { on := 0, ground := Ground.phase }, { on := 1, ground := Ground.phase }, { on := 2, ground := Ground.phase }, { on := 3, ground := Ground.phase }, { on := 4, ground := Ground.phase }, { on := 5, ground := Ground.phase }, { on := 6, ground := Ground.phase }, { on := 7, ground := Ground.phase }, { on := 8, ground := Ground.phase }, { on := 9, ground := Ground.phase }], guard := none }) (v := ?_) rfl (by kernel_rfl) (by kernel_rfl) (by kernel_rfl) (fun _ _ _ h => h) (Or.inl ⟨by rfl, ?_⟩) (by assumption) ?_
        rotate_left
        · intro w hSw; (try dsimp only at hSw); go_simp <;> (with_reducible rfl)
        (try simp only [Act.put, List.setIfInBounds_toArray, List.set_cons_zero, List.set_cons_succ])
        refine wpAnyH_done (by kernel_rfl) ?_ _
        refine NoPanic.normal ?_
        have R9 := Lib.hid r9
        have BN := Lib.hid (BW.out.trans (hHeld.mono BW.out.size))
        clear r9 hHeld hb
        go_wp2_with fail
        go_ret2
        exact .inr ⟨A9, c9, _, _, _, _, rfl, DI.out, R9.out, BN.out⟩
      exact AllReadyH.nil
    exact AllReadyH.nil
end Go.Proofs.Ytalglocplebonaa.Mm
