/- The goals of all jumps: the program's own. -/
import Derived.Test.YthjllbagmbknbaaGoalOf
namespace Go.Proofs.Ythjllbagmbknbaa.Mm
open Go.ChangeShapes Go.WideShapes Go.ChangeAt Go.RowKit
set_option linter.unusedVariables false

/-- a round's world: where the places lie, one of them, an instruction -/
def GoR (w : World) (g : Nat) (sv : Value) (ps : Addr) (P : Int) (h : Nat) (x : InsV) (w' : World) : Prop := w'.cell? ⟨g, 1, none⟩ = some sv ∧ w'.cell? ps = some (.int .i64 P) ∧ Ins4 w' h x ∧ Below w.heap.size w w'
def GoS (w : World) (g : Nat) (sv : Value) (ps : Addr) (P : Int) (h : Nat) (x : InsV) (w' : World) : Prop :=
  (w'.cell? ⟨g, 1, none⟩ = some sv ∧ w'.cell? ps = some (.int .i64 P) ∧ w'.cell? ⟨h, 0, none⟩ = some (.int .i64 x.op) ∧ w'.cell? ⟨h, 1, none⟩ = some (.int .i64 x.a) ∧ w'.cell? ⟨h, 2, none⟩ = some (.int .i64 x.b) ∧ w'.cell? ⟨h, 3, none⟩ = some (.int .u32 x.imm)) ∧ GoR w g sv ps P h x w'
theorem GoR.s {w w' : World} {g h : Nat} {sv : Value} {ps : Addr} {P : Int} {x : InsV} (k : GoR w g sv ps P h x w') : GoS w g sv ps P h x w' := ⟨⟨k.1, k.2.1, k.2.2.1.at.c0, k.2.2.1.at.c1, k.2.2.1.at.c2, k.2.2.1.at.c3⟩, k⟩
theorem GoR.below {w a w' : World} {g h : Nat} {sv : Value} {ps : Addr} {P : Int} {x : InsV} (cv : g < w.heap.size ∧ ps.block < w.heap.size) (k : GoR w g sv ps P h x a) (hb : Below a.heap.size a w') : GoR w g sv ps P h x w' :=
  ⟨(hb.cell (p := ⟨g, 1, none⟩) (Nat.lt_of_lt_of_le cv.1 k.2.2.2.size)).trans k.1, (hb.cell (Nat.lt_of_lt_of_le cv.2 k.2.2.2.size)).trans k.2.1, k.2.2.1.below hb, bel_then k.2.2.2 hb⟩
theorem go_keep {w a w' : World} {g h : Nat} {sv : Value} {ps : Addr} {P : Int} {x : InsV} {X : Prop} (cv : g < w.heap.size ∧ ps.block < w.heap.size) (k : X ∧ GoR w g sv ps P h x a) (hb : Below a.heap.size a w') : GoS w g sv ps P h x w' := (k.2.below cv hb).s

theorem hasb_al {w : World} {g : Nat} {t : TypeId} {cs : List Value} (h : HasB w g t cs) (o : Obj) : HasB (w.alloc o) g t cs := h.below (bel_al (Below.refl _ _) _)
theorem hasb_app {W W' : World} {g : Nat} {t e : TypeId} {cs : List Value} (h : HasB W g t cs) {base size n : Nat} {v : Value} {xs : List Value} (o : W.ownsRow base e size v n xs) (hne : t ≠ e) (hg : W.grownBy W' v.ownBlock) : HasB W' g t cs := by
  refine (hg.block g h.lt ?_).trans h
  intro e
  rcases o.2 with ⟨rfl, _⟩ | ⟨g2, cap, cur, rfl, _, hgb, _⟩
  · simp [Value.ownBlock] at e
  · simp [Value.ownBlock] at e
    subst e
    have h2 : W.heap[g]? = some (.cells cs.toArray t (0, 0)) := h
    rw [h2] at hgb
    simp at hgb
    exact hne hgb.2
set_option maxRecDepth 10000 in
set_option maxHeartbeats 2000000 in
theorem goals_any (A1 A2 : Option Addr) (c1 c2 : Nat) (v3 : Value) (L : List (Nat × InsV)) (z : Nat) (hz : L.length = z) (hz2 : z ≤ 4096) (HO : ∀ k, k < L.length → (L.getD k dfl).2.Ok) (HP : ∀ k, k < L.length → (L.getD k dfl).1 ≤ 100000)
    (w : World) (r1 : InsRow w A1 c1 (insI L)) (r2 : IntRow w A2 c2 (posI L)) :
    Calls Try.prog 20 #[.agg #[.slice A1 z c1, .slice A2 z c2, v3]] w fun e w' => ∃ A c, e = .returned (.slice A (goalL L).length c) ∧ IntRow w' A c (goalL L) ∧ Below w.heap.size w w' := by
  have HZ := Lib.hid hz
  have R1 := Lib.hid r1
  have R2 := Lib.hid r2
  have HOK := Lib.hid HO
  have HPL := Lib.hid HP
  have X0 := Lib.hid (HasB.new w 51 [.slice A1 z c1, .slice A2 z c2, v3])
  have B0 := Lib.hid (bel_al (Below.refl w.heap.size w) (.cells #[.slice A1 z c1, .slice A2 z c2, v3] 51))
  have PL := Lib.hid (posI_len L)
  have IL := Lib.hid (insI_len L)
  clear r1 r2 hz HO HP
  go_enter Try.func20, Try.ntmps20
  go_wp2
  go_loopw [3, 11] (fun v i wr => ∃ (k m : Nat), i = .int .i64 k ∧ k ≤ z ∧ m ≤ k ∧ Hid (m = (goalL (L.take k)).length) ∧ Hid (wr.ownsRow w.heap.size 3 1 v m ((goalL (L.take k)).map (Value.int .i64))) ∧ Hid (HasB wr w.heap.size 51 [.slice A1 z c1, .slice A2 z c2, v3]) ∧ Hid (Below w.heap.size w wr)) (fun _ i _ => z - (intOf i).toNat)
  case atStart => exact ⟨0, 0, rfl, Nat.zero_le _, Nat.zero_le _, Lib.hid rfl, Lib.hid (World.ownsRow_nil _ _ _ _), X0, B0⟩
  case round =>
    obtain ⟨k, m, rfl, hk, hm, HM, O1, HX, HB⟩ := hrel
    by_cases hlt : k < z
    · have hkL : k < L.length := by rw [HZ.out]; exact hlt
      obtain ⟨x, rfl, hxb, hc⟩ := (R2.out.below HB.out).2.2 (by intro e; have := PL.out; rw [e] at this; simp at this; omega)
      obtain ⟨y, rfl, hyb, hd⟩ := (R1.out.below HB.out).2.2.2 (by intro e; have := IL.out; rw [e] at this; simp at this; omega)
      have e1 := hc k (by rw [PL.out]; exact hkL)
      rw [pos_at hkL] at e1
      have PX := Lib.hid (hd k (by rw [IL.out]; exact hkL))
      rw [ins_at hkL] at PX
      have hP := HPL.out k hkL
      have HOX := Lib.hid (HOK.out k hkL)
      have GY := Lib.hid (fun h => @goal_yes L k hkL h)
      have GN := Lib.hid (fun h => @goal_no L k hkL h)
      rw [show L.getD k dfl = ((L.getD k dfl).1, (L.getD k dfl).2) from rfl] at GY GN
      clear hc hd hkL
      generalize (L.getD k dfl).1 = P at *
      generalize (L.getD k dfl).2 = u at *
      generalize goalL (L.take k) = F at *
      have HOF := Lib.hid (Of_any P hP u HOX.out)
      have hw0 := HB.out.size
      have K := Lib.hid (show GoR (wr.alloc (.cells #[.int .i64 u.op, .int .i64 u.a, .int .i64 u.b, .int .u32 u.imm] 37)) w.heap.size (.slice (some x) z c2) (x.add k) P wr.heap.size u (wr.alloc (.cells #[.int .i64 u.op, .int .i64 u.a, .int .i64 u.b, .int .u32 u.imm] 37)) from
        ⟨(hasb_al HX.out _).cell 1, ((bel_al (Below.refl _ wr) _).cell (by rw [block_add]; exact hxb)).trans e1, Ins4.new wr u, Below.refl _ _⟩)
      have CK := Lib.hid (show w.heap.size < (wr.alloc (.cells #[.int .i64 u.op, .int .i64 u.a, .int .i64 u.b, .int .u32 u.imm] 37)).heap.size ∧ (x.add k).block < (wr.alloc (.cells #[.int .i64 u.op, .int .i64 u.a, .int .i64 u.b, .int .u32 u.imm] 37)).heap.size from
        ⟨(hasb_al HX.out _).lt, by rw [block_add, World.size_alloc]; omega⟩)
      have X1 := Lib.hid (hasb_al HX.out (.cells #[.int .i64 u.op, .int .i64 u.a, .int .i64 u.b, .int .u32 u.imm] 37))
      have O2 := Lib.hid (own_al O1.out (.cells #[.int .i64 u.op, .int .i64 u.a, .int .i64 u.b, .int .u32 u.imm] 37))
      have B1 := Lib.hid (bel_al HB.out (.cells #[.int .i64 u.op, .int .i64 u.a, .int .i64 u.b, .int .u32 u.imm] 37))
      obtain ⟨p0, p1, p2, p3⟩ := PX.out
      unfold InsV.agg at HOF
      generalize hW : wr.alloc (.cells #[.int .i64 u.op, .int .i64 u.a, .int .i64 u.b, .int .u32 u.imm] 37) = W1 at *
      generalize hg : w.heap.size = g at *
      have HG := Lib.hid hg
      clear hg
      have HQ : Hid (jmpB u = true → (if jmpB u = true then goalV (P, u) else 0) = goalV (P, u)) := Lib.hid (fun h => by rw [if_pos h])
      generalize (if jmpB u = true then goalV (P, u) else 0) = G at *
      generalize jmpB u = q at *
      go_wp2_with fail
      go_region_held3 (fun w' => (w'.cell? ⟨g, 1, none⟩ = some (.slice (some x) z c2) ∧ w'.cell? (x.add k) = some (.int .i64 (P : Int)) ∧ w'.cell? ⟨wr.heap.size, 0, none⟩ = some (.int .i64 u.op) ∧ w'.cell? ⟨wr.heap.size, 1, none⟩ = some (.int .i64 u.a) ∧ w'.cell? ⟨wr.heap.size, 2, none⟩ = some (.int .i64 u.b) ∧ w'.cell? ⟨wr.heap.size, 3, none⟩ = some (.int .u32 u.imm)) ∧ GoR W1 g (.slice (some x) z c2) (x.add k) P wr.heap.size u w')
        (first | exact GoR.s K.out | exact GoR.s (GoR.below CK.out K.out (below_drew1 (Below.refl _ _))) | exact go_keep CK.out ‹_ ∧ GoR _ _ _ _ _ _ _ _› hb)
        (first | (go_at_call 18; (with_reducible refine (HOF.out _).mono ?_); rintro e w' ⟨rfl, hb⟩))
      rename_i hh
      obtain ⟨_, K2⟩ := hh
      have bw := K2.2.2.2
      have X2 := Lib.hid (X1.out.below bw)
      have O3 := Lib.hid (own_below O2.out bw)
      have B2 := Lib.hid (B1.out.trans (bw.mono (Nat.le_of_lt CK.out.1)))
      clear K2 bw K HOF p0 p1 p2 p3 hW X0 B0 hb
      cases q
      · have HF := Lib.hid (GN.out rfl)
        clear GY GN HQ
        go_wp2
        go_roundw
        case rel => exact ⟨k + 1, m, by go_num, by omega, by omega, by rw [HF.out]; exact HM, by rw [HF.out]; exact O3, X2, B2⟩
        case measure => simp [intOf]; omega
      · have HF := Lib.hid (GY.out rfl)
        have hG := HQ.out rfl
        subst hG
        clear GY GN HQ
        have B3 := Lib.hid (bel_al (Below.refl w'.heap.size w') (.cells #[.int .i64 (goalV (P, u))] 3))
        have hgs := B2.out.size
        rw [HG.out] at hgs
        go_wp2_with (first
          | (at_builtin
             refine append_int rfl (.tmp 27) (.tmp 29) rfl g u3 m F rfl (own_al O3.out _) w'.heap.size 1 (goalV (P, u)) rfl (one_new _ _ _) (m + 1) rfl (by omega) (by simp; omega) ?_
             intro A7 c7 w7 own7 grown7 row7 bel7
             have S2 := Lib.hid own7
             have X7 := Lib.hid ((hasb_app (hasb_al X2.out _) (own_al O3.out _) (by decide) grown7))
             have B7 := Lib.hid ((B2.out.trans (B3.out.mono hgs)).trans bel7)
             clear own7 grown7 row7 bel7))
        go_roundw
        case rel => exact ⟨k + 1, m + 1, by go_num, by omega, by omega, Lib.hid (by rw [HF.out, List.length_append, ← HM.out]; rfl), Lib.hid (by rw [HF.out]; exact S2.out), X7, B7⟩
        case measure => simp [intOf]; omega
    · obtain rfl : k = z := by omega
      obtain ⟨A4, c4, rfl, hml, i4⟩ := int_of_own O1.out
      rw [← HZ.out, goal_all] at hml i4
      subst hml
      clear HM O1
      go_wp2
      go_ret
      exact ⟨A4, c4, rfl, i4, HB.out⟩
end Go.Proofs.Ythjllbagmbknbaa.Mm
