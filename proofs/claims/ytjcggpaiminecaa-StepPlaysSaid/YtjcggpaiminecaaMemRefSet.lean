/- What Set of the document's own memory (corralref03) answers. -/
import Derived.Test.YtjcggpaiminecaaMemRef
namespace Go.Proofs.Ytjcggpaiminecaa.Mm
open Go.ChangeShapes Go.WideShapes Go.ChangeAt Go.RowKit
set_option linter.unusedVariables false

/-- k elements laid, the others as they were made -/
def fil {α : Type} (L : List α) (k : Nat) (z : α) : List α := L.take k ++ List.replicate (L.length - k) z
section
variable {α : Type}
theorem fil_len (L : List α) (k : Nat) (z : α) (h : k ≤ L.length) : (fil L k z).length = L.length := by unfold fil; simp; omega
theorem fil_zero (L : List α) (z : α) : fil L 0 z = List.replicate L.length z := by unfold fil; simp
theorem fil_all (L : List α) (k : Nat) (z : α) (h : L.length = k) : fil L k z = L := by unfold fil; rw [h, Nat.sub_self, List.replicate_zero, List.append_nil, List.take_of_length_le (by omega)]
theorem fil_set (L : List α) (k : Nat) (z d : α) (h : k < L.length) : (fil L k z).set k (L.getD k d) = fil L (k + 1) z := by
  apply ext_getD z
  · rw [List.length_set, fil_len _ _ _ (by omega), fil_len _ _ _ (by omega)]
  · intro i hi
    rw [List.length_set, fil_len _ _ _ (by omega)] at hi
    have hg : ∀ m, m ≤ L.length → (fil L m z).getD i z = if i < m then L.getD i z else z := fun m hm => by
      unfold fil
      simp only [List.getD, List.getElem?_append, List.length_take, Nat.min_eq_left hm, List.getElem?_take]
      by_cases q : i < m
      · rw [if_pos q, if_pos q, if_pos q]
      · rw [if_neg q, if_neg q]
        simp [show i - m < L.length - m by omega]
    rw [hg _ (by omega)]
    have e : ((fil L k z).set k (L.getD k d)).getD i z = if k = i then L.getD k d else (fil L k z).getD i z := by
      simp only [List.getD, List.getElem?_set]
      rw [fil_len _ _ _ (by omega)]
      by_cases q : k = i
      · rw [if_pos q, if_pos q, if_pos (by omega)]; rfl
      · rw [if_neg q, if_neg q]
    rw [e, hg _ (by omega)]
    by_cases q : k = i
    · subst q
      rw [if_pos rfl, if_pos (by omega)]
      simp [List.getD, List.getElem?_eq_getElem h]
    · rw [if_neg q]
      by_cases q2 : i < k
      · rw [if_pos q2, if_pos (by omega)]
      · rw [if_neg q2, if_neg (by omega)]
end

theorem has_set {w : World} {g : Nat} {t : TypeId} {cs : List Value} (h : HasB w g t cs) (i : Nat) (u : Value) : HasB (w.setCell ⟨g, i, none⟩ u) g t (cs.set i u) := by
  unfold HasB at h ⊢
  simp [World.setCell, Array.getElem?_modify, h]
theorem has_far {w : World} {g g' : Nat} {t : TypeId} {cs : List Value} (h : HasB w g t cs) (hne : g ≠ g') (i : Nat) (u : Value) : HasB (w.setCell ⟨g', i, none⟩ u) g t cs := h.same (Below.heap_setCell _ _ _ _ hne)
theorem chg_set {g h : Nat} {W w : World} (c : Chg g h W w) (b : Nat) (hb : b = g ∨ b = h) (i : Nat) (u : Value) : Chg g h W (w.setCell ⟨b, i, none⟩ u) :=
  c.trans ⟨rfl, rfl, rfl, by simp, fun k _ h1 h2 => Below.heap_setCell _ _ _ _ (by rcases hb with rfl | rfl <;> assumption)⟩
theorem chg_drew {g h : Nat} {W w : World} (c : Chg g h W w) : Chg g h W w.drew := ⟨c.os, c.tape, c.output, c.size, c.block⟩

/-- the world, where k of the document's bytes are set -/
def RSetRel (W : World) (g h N : Nat) (NB : List Int) (NU : List Bool) (i : Value) (w' : World) : Prop :=
  ∃ k : Nat, k ≤ N ∧ i = .int .i64 k ∧ HasB w' g 5 ((fil NB k 0).map (Value.int .u8)) ∧ HasB w' h 4 ((fil NU k false).map Value.bool) ∧ Chg g h W w'

theorem rset_in {W wr : World} {g h N k : Nat} {NB : List Int} {NU : List Bool} {x : Int} {y is : Bool} (hk : k < N) (hgh : g ≠ h) (lb : NB.length = N) (lu : NU.length = N) (gB : HasB wr g 5 ((fil NB k 0).map (Value.int .u8))) (gU : HasB wr h 4 ((fil NU k false).map Value.bool)) (c : Chg g h W wr) (e1 : NB.getD k 0 = 0) (e2 : NU.getD k false = is) :
    RSetRel W g h N NB NU (.int .i64 ((k : Int) + 1)) ((((wr.setCell ⟨g, k, none⟩ (.int .u8 x)).setCell ⟨h, k, none⟩ (.bool y)).setCell ⟨g, k, none⟩ (.int .u8 0)).setCell ⟨h, k, none⟩ (.bool is)).drew.drew := by
  refine ⟨k + 1, hk, by simp, drew_has (drew_has ?_), drew_has (drew_has ?_), chg_drew (chg_drew (chg_set (chg_set (chg_set (chg_set c g (.inl rfl) _ _) h (.inr rfl) _ _) g (.inl rfl) _ _) h (.inr rfl) _ _))⟩
  · have := has_far (has_set (has_far (has_set gB k (.int .u8 x)) hgh k (.bool y)) k (.int .u8 0)) hgh k (.bool is)
    rw [List.set_set, ← List.map_set] at this
    have q := fil_set NB k 0 0 (by omega)
    rw [e1] at q
    rw [q] at this
    exact this
  · have := has_set (has_far (has_set (has_far gU hgh.symm k (.int .u8 x)) k (.bool y)) hgh.symm k (.int .u8 0)) k (.bool is)
    rw [List.set_set, ← List.map_set] at this
    have q := fil_set NU k false false (by omega)
    rw [e2] at q
    rw [q] at this
    exact this
theorem rset_out {W wr : World} {g h N k : Nat} {NB : List Int} {NU : List Bool} {x : Int} {y : Bool} (hk : k < N) (hgh : g ≠ h) (lb : NB.length = N) (lu : NU.length = N) (gB : HasB wr g 5 ((fil NB k 0).map (Value.int .u8))) (gU : HasB wr h 4 ((fil NU k false).map Value.bool)) (c : Chg g h W wr) (e1 : NB.getD k 0 = x) (e2 : NU.getD k false = y) :
    RSetRel W g h N NB NU (.int .i64 ((k : Int) + 1)) ((wr.setCell ⟨g, k, none⟩ (.int .u8 x)).setCell ⟨h, k, none⟩ (.bool y)).drew.drew := by
  refine ⟨k + 1, hk, by simp, drew_has (drew_has ?_), drew_has (drew_has ?_), chg_drew (chg_drew (chg_set (chg_set c g (.inl rfl) _ _) h (.inr rfl) _ _))⟩
  · have := has_far (has_set gB k (.int .u8 x)) hgh k (.bool y)
    rw [← List.map_set] at this
    have q := fil_set NB k 0 0 (by omega)
    rw [e1] at q
    rw [q] at this
    exact this
  · have := has_set (has_far gU hgh.symm k (.int .u8 x)) k (.bool y)
    rw [← List.map_set] at this
    have q := fil_set NU k false false (by omega)
    rw [e2] at q
    rw [q] at this
    exact this

def RSetP (w : World) (N : Nat) (NB : List Int) (NU : List Bool) (e : Ending) (w' : World) : Prop :=
  ∃ g h, e = .returned (.agg #[.slice (some ⟨g, 0, none⟩) N N, .slice (some ⟨h, 0, none⟩) N N]) ∧ HasB w' g 5 (NB.map (Value.int .u8)) ∧ HasB w' h 4 (NU.map Value.bool) ∧ w.heap.size ≤ g ∧ w.heap.size ≤ h ∧ Below w.heap.size w w'

theorem rSet_any (xb yb N a n cB cU : Nat) (is : Bool) (B : List Int) (U : List Bool) (hB : B.length = N) (hU : U.length = N) (hN : N ≤ 65536) (han : a + n ≤ N) (w : World) (rB : RowAt w (some ⟨xb, 0, none⟩) cB B) (rU : BlAt w (some ⟨yb, 0, none⟩) cU U)
    (NB : List Int) (NU : List Bool) (hNB : NB.length = N) (hNU : NU.length = N) (n1 : ∀ i, i < N → (a ≤ i ∧ i < a + n) → NB.getD i 0 = 0 ∧ NU.getD i false = is) (n2 : ∀ i, i < N → ¬ (a ≤ i ∧ i < a + n) → NB.getD i 0 = B.getD i 0 ∧ NU.getD i false = U.getD i false) (hN0 : 0 < N) :
    Calls Try.prog 11 #[.agg #[.slice (some ⟨xb, 0, none⟩) N cB, .slice (some ⟨yb, 0, none⟩) N cU], .int .i64 a, .int .i64 n, .bool is] w (RSetP w N NB NU) := by
  have N1 := Lib.hid n1
  have N2 := Lib.hid n2
  have HB := Lib.hid hB
  have HU := Lib.hid hU
  have LB := Lib.hid hNB
  have LU := Lib.hid hNU
  have RB := Lib.hid rB
  have RU := Lib.hid rU
  clear n1 n2 hB hU hNB hNU
  have hxb : xb < w.heap.size := by obtain ⟨x, hx, hlt, _⟩ := rB.at_ 0 (by rw [HB.out]; exact hN0); injection hx with hx; subst hx; exact hlt
  have hyb : yb < w.heap.size := by obtain ⟨_, _, y, hy, hlt, _⟩ := rU; injection hy with hy; subst hy; exact hlt
  clear rB rU
  go_enter Try.func11, Try.ntmps11
  go_wp2_with fail
  refine (rNew_any N hN _).mono ?_
  rintro e w1 ⟨g, h, rfl, hg, hh, lg, lh, hb⟩
  have P4 : HasB w1 w.heap.size 33 [.slice (some ⟨xb, 0, none⟩) N cB, .slice (some ⟨yb, 0, none⟩) N cU] := ((HasB.new w _ _).below (bel_al (Below.refl _ _) _)).below hb
  have R8 : HasB w1 (w.heap.size + 1) 33 [.slice none 0 0, .slice none 0 0] := by
    have := (HasB.new (w.alloc (.cells #[.slice (some ⟨xb, 0, none⟩) N cB, .slice (some ⟨yb, 0, none⟩) N cU] 33)) 33 [.slice none 0 0, .slice none 0 0]).below hb
    rwa [World.size_alloc] at this
  have hbw : Below w.heap.size w w1 := bel_then (bel_al (bel_al (Below.refl _ _) _) _) hb
  rw [World.size_alloc, World.size_alloc] at lg lh
  clear hb
  have RB1 := Lib.hid (RB.out.below hbw)
  have RU1 := Lib.hid (RU.out.below hbw)
  clear RB RU
  have hgl := hg.lt
  have hhl := hh.lt
  have G := Lib.hid hg
  have HH := Lib.hid hh
  have HP := Lib.hid P4
  have HR := Lib.hid R8
  have HW := Lib.hid hbw
  have hgh : g ≠ h := hg.ne hh (by decide)
  have hsz := hbw.size
  have hpl := P4.lt
  have hrl := R8.lt
  clear hg hh P4 R8 hbw
  generalize hs : w.heap.size = s at *
  have HS := Lib.hid hs
  clear hs
  go_wp2_with fail
  obtain ⟨W, hW⟩ : ∃ W, w1.alloc (.cells #[.slice (some ⟨g, 0, none⟩) N N, .slice (some ⟨h, 0, none⟩) N N] 33) = W := ⟨_, rfl⟩
  have b1 : Below w1.heap.size w1 W := by rw [← hW]; exact bel_al (Below.refl _ _) _
  have HO : HasB W w1.heap.size 33 [.slice (some ⟨g, 0, none⟩) N N, .slice (some ⟨h, 0, none⟩) N N] := by rw [← hW]; exact HasB.new _ _ _
  have HO := Lib.hid HO
  have G := Lib.hid (G.out.below b1)
  have HH := Lib.hid (HH.out.below b1)
  have HP := Lib.hid (HP.out.below b1)
  have HR := Lib.hid (HR.out.below b1)
  have RB2 := Lib.hid (RB1.out.below b1)
  have RU2 := Lib.hid (RU1.out.below b1)
  have HWW : Hid (Below s w W) := HW.out.trans (b1.mono hsz)
  rw [hW]
  clear hW b1 RB1 RU1 HW
  generalize w1.heap.size = O at *
  go_loopw [10] (fun i w' => RSetRel W g h N NB NU i w') (fun i _ => N - (intOf i).toNat)
  case atStart => exact ⟨0, Nat.zero_le _, rfl, by rw [fil_zero, LB.out]; exact G.out, by rw [fil_zero, LU.out]; exact HH.out, Chg.refl _ _ _⟩
  case round =>
    obtain ⟨k, hk, rfl, gB, gU, ch⟩ := hrel
    have p0 := HP.out.chg ch (by omega) (by omega)
    have o0 := HO.out.chg ch (by omega) (by omega)
    by_cases hlt : k < N
    · have lB : (fil NB k 0).length = N := by rw [fil_len _ _ _ (by rw [LB.out]; exact hk), LB.out]
      have lU : (fil NU k false).length = N := by rw [fil_len _ _ _ (by rw [LU.out]; exact hk), LU.out]
      have c40 := p0.cell 0
      have c41 := p0.cell 1
      have c90 := o0.cell 0
      have c91 := o0.cell 1
      simp only [List.getElem?_cons_succ, List.getElem?_cons_zero] at c40 c41 c90 c91
      obtain ⟨tv, tg⟩ : ∃ v, wr.cell? ⟨g, k, none⟩ = some v := ⟨_, by rw [gB.cell k, List.getElem?_map, List.getElem?_eq_getElem (by omega), Option.map_some]⟩
      obtain ⟨sv, th⟩ : ∃ v, wr.cell? ⟨h, k, none⟩ = some v := ⟨_, by rw [gU.cell k, List.getElem?_map, List.getElem?_eq_getElem (by omega), Option.map_some]⟩
      have fg := gB.frozen k
      have fh := gU.frozen k
      have cx : wr.cell? ⟨xb, k, none⟩ = some (.int .u8 (B.getD k 0)) := by
        obtain ⟨x, hx, _, hc⟩ := RB2.out.at_ k (by rw [HB.out]; exact hlt)
        injection hx with hx; subst hx
        rw [addr_add, Nat.zero_add] at hc
        rw [← hc]
        exact World.cell?_of_block (ch.block xb (by have := HO.out.lt; omega) (by omega) (by omega))
      have cy : wr.cell? ⟨yb, k, none⟩ = some (.bool (U.getD k false)) := by
        obtain ⟨_, _, y, hy, _, hc⟩ := RU2.out
        injection hy with hy; subst hy
        have hc := hc k (by rw [HU.out]; exact hlt)
        rw [addr_add, Nat.zero_add] at hc
        rw [← hc]
        exact World.cell?_of_block (ch.block yb (by have := HO.out.lt; omega) (by omega) (by omega))
      have GB := Lib.hid gB
      have GU := Lib.hid gU
      have CH := Lib.hid ch
      clear gB gU ch p0 o0 lB lU
      have kN : (k : Int) < (N : Int) := by omega
      have z1 : ¬ g = h := hgh
      have z2 : ¬ h = g := fun e => hgh e.symm
      have z3 : ¬ g = s := by omega
      have z4 : ¬ h = s := by omega
      have z5 : ¬ g = O := by omega
      have z6 : ¬ h = O := by omega
      have z7 : ¬ g = xb := by omega
      have z8 : ¬ g = yb := by omega
      by_cases hin : a ≤ k ∧ k < a + n
      · have d1 : decide ((a : Int) ≤ (k : Int)) = true := by rw [decide_eq_true_iff]; omega
        have d2 : decide ((k : Int) < (a : Int) + (n : Int)) = true := by rw [decide_eq_true_iff]; omega
        have d3 : decide (a ≤ k) = true := by rw [decide_eq_true_iff]; omega
        have d4 : decide (k < a + n) = true := by rw [decide_eq_true_iff]; omega
        have e1 := (N1.out k hlt hin).1
        have e2 := (N1.out k hlt hin).2
        have E1 := Lib.hid e1
        have E2 := Lib.hid e2
        clear e1 e2
        generalize B.getD k 0 = xv at cx
        generalize U.getD k false = yv at cy
        clear hin
        go_wp2_with fail
        go_region
        go_wp2_with fail
        go_region
        go_wp2_with fail
        go_roundw
        case rel => exact rset_in hlt hgh LB.out LU.out GB.out GU.out CH.out E1.out E2.out
        case measure => simp [intOf]; omega
      · have e1 := (N2.out k hlt hin).1
        have e2 := (N2.out k hlt hin).2
        rw [← e1] at cx
        rw [← e2] at cy
        obtain ⟨xv, e1⟩ : ∃ x, NB.getD k 0 = x := ⟨_, rfl⟩
        obtain ⟨yv, e2⟩ : ∃ x, NU.getD k false = x := ⟨_, rfl⟩
        rw [e1] at cx
        rw [e2] at cy
        have E1 := Lib.hid e1
        have E2 := Lib.hid e2
        clear e1 e2
        by_cases hak : a ≤ k
        · have d1 : decide ((a : Int) ≤ (k : Int)) = true := by rw [decide_eq_true_iff]; omega
          have d2 : decide ((k : Int) < (a : Int) + (n : Int)) = false := by rw [decide_eq_false_iff_not]; omega
          have d3 : decide (a ≤ k) = true := by rw [decide_eq_true_iff]; omega
          have d4 : decide (k < a + n) = false := by rw [decide_eq_false_iff_not]; omega
          clear hin
          go_wp2_with fail
          go_region
          go_wp2_with fail
          go_region
          go_wp2_with fail
          go_roundw
          case rel => exact rset_out hlt hgh LB.out LU.out GB.out GU.out CH.out E1.out E2.out
          case measure => simp [intOf]; omega
        · have d1 : decide ((a : Int) ≤ (k : Int)) = false := by rw [decide_eq_false_iff_not]; omega
          have d3 : decide (a ≤ k) = false := by rw [decide_eq_false_iff_not]; omega
          clear hin
          go_wp2_with fail
          go_region
          go_wp2_with fail
          go_region
          go_wp2_with fail
          go_roundw
          case rel => exact rset_out hlt hgh LB.out LU.out GB.out GU.out CH.out E1.out E2.out
          case measure => simp [intOf]; omega
    · have hkN : k = N := by omega
      subst hkN
      have r0 := HR.out.chg ch (by omega) (by omega)
      have c40 := p0.cell 0
      have c90 := o0.cell 0
      have c91 := o0.cell 1
      have c80 := r0.cell 0
      have c81 := r0.cell 1
      have f80 := r0.frozen 0
      have f81 := r0.frozen 1
      simp only [List.getElem?_cons_succ, List.getElem?_cons_zero] at c40 c90 c91 c80 c81
      rw [fil_all _ _ _ LB.out] at gB
      rw [fil_all _ _ _ LU.out] at gU
      have GB := Lib.hid gB
      have GU := Lib.hid gU
      have CH := Lib.hid ch
      clear gB gU ch p0 o0 r0
      go_wp2_with fail
      refine bodyPost_ret (v := .agg #[.slice (some ⟨g, 0, none⟩) k k, .slice (some ⟨h, 0, none⟩) k k]) (by simp [results, Try.results11, go_sem, c80, c81]) rfl ?_
      have hgs : g ≠ s + 1 := by omega
      have hhs : h ≠ s + 1 := by omega
      refine ⟨g, h, rfl, has_far (has_far GB.out hgs _ _) hgs _ _, has_far (has_far GU.out hhs _ _) hhs _ _, by rw [HS.out]; omega, by rw [HS.out]; omega, ?_⟩
      rw [HS.out]
      exact ((CH.out.below HWW.out (by have := HO.out.lt; omega) (by omega) (by omega)).setCell (by show s ≤ s + 1; omega) _).setCell (by show s ≤ s + 1; omega) _
end Go.Proofs.Ytjcggpaiminecaa.Mm
