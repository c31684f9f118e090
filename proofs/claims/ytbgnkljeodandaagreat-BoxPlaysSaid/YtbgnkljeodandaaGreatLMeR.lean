/- Merged by wip/tools/regroup: MemApart, MemBack, MemRef, MemRefSet, MemRefWrite. -/
import Derived.Test.YtbgnkljeodandaaGreatLMeA
import Derived.Deep.AppendLies
import Derived.Deep.RegionLaw
import Derived.Deep.DeepCutAuto
namespace Go.Proofs.YtbgnkljeodandaaGreat.Mm
open Go.ChangeShapes Go.WideShapes Go.ChangeAt Go.RowKit
set_option linter.unusedVariables false
set_option maxRecDepth 10000
end Go.Proofs.YtbgnkljeodandaaGreat.Mm
namespace Go.Proofs.YtbgnkljeodandaaGreat.Mm
open Go.ChangeShapes Go.WideShapes Go.ChangeAt Go.RowKit
set_option linter.unusedVariables false
set_option maxRecDepth 10000
end Go.Proofs.YtbgnkljeodandaaGreat.Mm
namespace Go.Proofs.YtbgnkljeodandaaGreat.Mm
open Go.ChangeShapes Go.WideShapes Go.ChangeAt Go.RowKit
set_option linter.unusedVariables false
set_option maxRecDepth 10000
def BlAt (w : World) (A : Option Addr) (cap : Nat) (l : List Bool) : Prop :=
 l.length ≤ cap ∧ cap ≤ maxLen ∧ ∃ x, A = some x ∧ x.block < w.heap.size ∧ ∀ i, i < l.length → w.cell? (x.add i) = some (.bool (l.getD i false))
theorem BlAt.below {w w' : World} {A : Option Addr} {cap : Nat} {l : List Bool} (r : BlAt w A cap l) (b : Below w.heap.size w w') : BlAt w' A cap l := by
 obtain ⟨h1, h2, x, rfl, hx, hc⟩ := r
 exact ⟨h1, h2, x, rfl, Nat.lt_of_lt_of_le hx b.size, fun i hi => by rw [b.cell (by rw [block_add]; exact hx)]; exact hc i hi⟩
def allB (U : List Bool) (a n : Nat) : Bool := (List.range n).all fun i => U.getD (a + i) false
theorem allB_iff (U : List Bool) (a n : Nat) : allB U a n = true ↔ ∀ i, i < n → U.getD (a + i) false = true := by
 unfold allB
 rw [List.all_eq_true]
 exact ⟨fun h i hi => h i (List.mem_range.2 hi), fun h i hi => h i (List.mem_range.1 hi)⟩
theorem rBytes_any (v : Int) (v0 : 0 ≤ v) (v1 : v < 4294967296) (w : World) :
  Calls Tryz.prog 50 #[.int .u32 v] w fun e w' => e = .returned (.slice (some ⟨w.heap.size, 0, none⟩) 4 4) ∧ put4 w v = w' := by
 go_enter Tryz.func50, Tryz.ntmps50
 go_wp2
 go_ret
 exact ⟨rfl, rfl⟩
theorem rAll_any (x y : Addr) (N a n cB cU : Nat) (U : List Bool) (hU : U.length = N) (hN : N ≤ 65536) (ha : a ≤ 65536) (hn : n ≤ 65536) (w : World) (hb : BlAt w (some y) cU U) :
    Calls Tryz.prog 46 #[.agg #[.slice (some x) N cB, .slice (some y) N cU], .int .i64 a, .int .i64 n] w fun e w' => e = .returned (.bool (allB U a n)) ∧ Below w.heap.size w w' := by
  obtain ⟨_, _, y', hy, hyb, hc⟩ := hb
  injection hy with hy; subst hy
  have HC := Lib.hid hc; clear hc
  have HU := Lib.hid hU; clear hU
  have HA := Lib.hid (allB_iff U a n)
  go_enter Tryz.func46, Tryz.ntmps46
  go_wp2_with fail
  go_loop [7] (fun i => ∃ k : Nat, k ≤ n ∧ i = .int .i64 ((a + k : Nat) : Int) ∧ ∀ j, j < k → U.getD (a + j) false = true) (fun i => a + n - (intOf i).toNat)
  case atStart => exact ⟨0, Nat.zero_le _, by rw [Nat.add_zero], fun j h => by omega⟩
  case round =>
    obtain ⟨k, hk, rfl, hall⟩ := hrel
    have HL := Lib.hid hall; clear hall
    have e0 : ((a + k : Nat) : Int) = (a : Int) + (k : Int) := by omega
    rw [e0]
    clear e0
    by_cases hlt : k < n
    · by_cases hin : a + k < N
      · have c1 := HC.out (a + k) (by rw [HU.out]; exact hin)
        have c1 := Lib.cell?_alloc_some (.cells #[.slice (some x) N cB, .slice (some y) N cU] 50) c1
        obtain ⟨b, hb⟩ : ∃ b, U.getD (a + k) false = b := ⟨_, rfl⟩
        rw [hb] at c1
        have HB := Lib.hid hb; clear hb
        have d1 : ((a : Int) + (k : Int)).toNat = a + k := by omega
        cases b
        · go_wp2_with fail
          go_ret
          refine ⟨ret_bool ?_, bel_al (Below.refl _ _) _⟩
          have : ¬ allB U a n = true := fun ht => by
            have := HA.out.1 ht k hlt
            rw [HB.out] at this
            cases this
          simpa using this
        · go_wp2_with fail
          go_round
          case rel => exact ⟨k + 1, hlt, by go_num, fun j hj => by
            by_cases e : j = k
            · rw [e]; exact HB.out
            · exact HL.out j (by omega)⟩
          case measure => simp [intOf]; omega
      · go_wp2_with fail
        go_ret
        refine ⟨ret_bool ?_, bel_al (Below.refl _ _) _⟩
        have : ¬ allB U a n = true := fun ht => by
          have := HA.out.1 ht k hlt
          simp [List.getD, List.getElem?_eq_none (by have := HU.out; omega : U.length ≤ a + k)] at this
        simpa using this
    · have hkn : k = n := by omega
      subst hkn
      go_wp2
      go_ret
      exact ⟨ret_bool (HA.out.2 HL.out).symm, bel_al (Below.refl _ _) _⟩
theorem rNum_any (x y : Addr) (N a cB cU : Nat) (B : List Int) (hB : B.length = N) (hN : N ≤ 65536) (ha : a + 4 ≤ N) (w : World) (hb : RowAt w (some x) cB B) :
  Calls Tryz.prog 49 #[.agg #[.slice (some x) N cB, .slice (some y) N cU], .int .i64 a] w fun e w' => e = .returned (.int .u32 (v4 B a)) ∧ Below w.heap.size w w' := by
 have hcell : ∀ i, i < 4 → (w.alloc (.cells #[.slice (some x) N cB, .slice (some y) N cU] 50)).cell? (x.add (a + i)) = some (.int .u8 (B.getD (a + i) 0)) := fun i hi => by
  obtain ⟨x', hx, _, hc⟩ := hb.at_ (a + i) (by omega)
  injection hx with hx; subst hx
  exact Lib.cell?_alloc_some _ hc
 have c0 := hcell 0 (by decide)
 have ad : ∀ n, x.add (n + 1) = ⟨x.block, x.off + (n + 1), none⟩ := fun n => by unfold Addr.add; simp
 have c1 := hcell 1 (by decide)
 have c2 := hcell 2 (by decide)
 have c3 := hcell 3 (by decide)
 rw [ad a] at c1
 rw [ad (a + 1)] at c2
 rw [ad (a + 2)] at c3
 clear ad
 rw [Nat.add_zero] at c0
 have b0 := row_byte hb.2.2.1 a
 have b1 := row_byte hb.2.2.1 (a + 1)
 have b2 := row_byte hb.2.2.1 (a + 2)
 have b3 := row_byte hb.2.2.1 (a + 3)
 have V : Hid (v4 B a = B.getD a 0 + 256 * (B.getD (a + 1) 0 + 256 * (B.getD (a + 2) 0 + 256 * B.getD (a + 3) 0))) := rfl
 clear hcell hb
 generalize B.getD a 0 = y0 at *
 generalize B.getD (a + 1) 0 = y1 at *
 generalize B.getD (a + 2) 0 = y2 at *
 generalize B.getD (a + 3) 0 = y3 at *
 clear hB
 obtain ⟨p0, q0⟩ := b0
 obtain ⟨p1, q1⟩ := b1
 obtain ⟨p2, q2⟩ := b2
 obtain ⟨p3, q3⟩ := b3
 have e1 : IntKind.i64.wrap ((a : Int) + 1) = (a : Int) + 1 := IntWalk.i64_in _ (by omega)
 have e2 : IntKind.i64.wrap ((a : Int) + 2) = (a : Int) + 2 := IntWalk.i64_in _ (by omega)
 have e3 : IntKind.i64.wrap ((a : Int) + 3) = (a : Int) + 3 := IntWalk.i64_in _ (by omega)
 have f1 : ((a : Int) + 1).toNat = a + 1 := by omega
 have f2 : ((a : Int) + 2).toNat = a + 2 := by omega
 have f3 : ((a : Int) + 3).toNat = a + 3 := by omega
 have g0 : (a : Int) < (N : Int) := by omega
 have g0' : a < N := by omega
 have g1 : (a : Int) + 1 < (N : Int) := by omega
 have g2 : (a : Int) + 2 < (N : Int) := by omega
 have g3 : (a : Int) + 3 < (N : Int) := by omega
 have k1 : 0 ≤ (a : Int) + 1 := by omega
 have k2 : 0 ≤ (a : Int) + 2 := by omega
 have k3 : 0 ≤ (a : Int) + 3 := by omega
 go_enter Tryz.func49, Tryz.ntmps49
 go_wp2_with fail
 go_quiet (fail)
 go_wp2
 go_ret
 refine ⟨ret_int ?_, ?_⟩
 · exact V.out.symm
 · exact below_drewN (bel_al (Below.refl _ _) _) _
def RMade (w : World) (n : Nat) (e : Ending) (w' : World) : Prop :=
 ∃ g h, e = .returned (.agg #[.slice (some ⟨g, 0, none⟩) n n, .slice (some ⟨h, 0, none⟩) n n]) ∧ HasB w' g 5 ((List.replicate n (0 : Int)).map (Value.int .u8)) ∧ HasB w' h 4 ((List.replicate n false).map Value.bool) ∧ w.heap.size ≤ g ∧ w.heap.size ≤ h ∧ Below w.heap.size w w'
theorem two_new (w : World) (o : Obj) (t t' : TypeId) (cs cs' : List Value) :
    HasB (((w.alloc o).alloc (.cells cs.toArray t)).alloc (.cells cs'.toArray t')).drew (w.heap.size + 1) t cs ∧ HasB (((w.alloc o).alloc (.cells cs.toArray t)).alloc (.cells cs'.toArray t')).drew (w.heap.size + 1 + 1) t' cs' ∧
    Below w.heap.size w (((w.alloc o).alloc (.cells cs.toArray t)).alloc (.cells cs'.toArray t')).drew := by
  refine ⟨drew_has ?_, drew_has ?_, (bel_al (bel_al (bel_al (Below.refl _ _) _) _) _).drew⟩
  · have := (HasB.new (w.alloc o) t cs).below (bel_al (Below.refl _ _) (.cells cs'.toArray t'))
    rwa [World.size_alloc] at this
  · have := HasB.new ((w.alloc o).alloc (.cells cs.toArray t)) t' cs'
    rwa [World.size_alloc, World.size_alloc] at this
theorem rmade_1 (w : World) (n : Nat) (o : Obj) : RMade w n (.returned (.agg #[.slice (some ⟨w.heap.size + 1, 0, none⟩) n n, .slice (some ⟨w.heap.size + 1 + 1, 0, none⟩) n n])) (((w.alloc o).alloc (.cells ((List.replicate n (0 : Int)).map (Value.int .u8)).toArray 5)).alloc (.cells ((List.replicate n false).map Value.bool).toArray 4)).drew := by
 obtain ⟨h1, h2, h3⟩ := two_new w o 5 4 ((List.replicate n (0 : Int)).map (Value.int .u8)) ((List.replicate n false).map Value.bool)
 exact ⟨_, _, rfl, h1, h2, by omega, by omega, h3⟩
theorem rmade_2 (w : World) (n : Nat) (o : Obj) : RMade w n (.returned (.agg #[.slice (some ⟨w.heap.size + 1 + 1, 0, none⟩) n n, .slice (some ⟨w.heap.size + 1, 0, none⟩) n n])) (((w.alloc o).alloc (.cells ((List.replicate n false).map Value.bool).toArray 4)).alloc (.cells ((List.replicate n (0 : Int)).map (Value.int .u8)).toArray 5)).drew := by
 obtain ⟨h1, h2, h3⟩ := two_new w o 4 5 ((List.replicate n false).map Value.bool) ((List.replicate n (0 : Int)).map (Value.int .u8))
 exact ⟨_, _, rfl, h2, h1, by omega, by omega, h3⟩
theorem rNew_any (n : Nat) (hn : n ≤ 65536) (w : World) : Calls Tryz.prog 15 #[.int .i64 n] w (RMade w n) := by
  have m1 := make_u8 n (by omega)
  have m2 := make_bool n (by omega)
  go_enter Tryz.func15, Tryz.ntmps15
  go_wp2_with fail
  go_region
  · go_wp2
    refine bodyPost_ret (v := .agg #[.slice (some ⟨w.heap.size + 1, 0, none⟩) n n, .slice (some ⟨w.heap.size + 1 + 1, 0, none⟩) n n]) (by simp [results, Tryz.results15, go_sem]) rfl ?_
    rw [rep_u8, rep_bool]
    exact rmade_1 _ _ _
  · go_wp2
    refine bodyPost_ret (v := .agg #[.slice (some ⟨w.heap.size + 1 + 1, 0, none⟩) n n, .slice (some ⟨w.heap.size + 1, 0, none⟩) n n]) (by simp [results, Tryz.results15, go_sem]) rfl ?_
    rw [rep_u8, rep_bool]
    exact rmade_2 _ _ _
end Go.Proofs.YtbgnkljeodandaaGreat.Mm
namespace Go.Proofs.YtbgnkljeodandaaGreat.Mm
open Go.ChangeShapes Go.WideShapes Go.ChangeAt Go.RowKit
set_option linter.unusedVariables false
set_option maxRecDepth 10000
def fil {α : Type} (L : List α) (k : Nat) (z : α) : List α := L.take k ++ List.replicate (L.length - k) z
section
variable {α : Type}
theorem fil_len (L : List α) (k : Nat) (z : α) (h : k ≤ L.length) : (fil L k z).length = L.length := by unfold fil; simp; omega
theorem fil_zero (L : List α) (z : α) : fil L 0 z = List.replicate L.length z := by unfold fil; simp
theorem fil_all (L : List α) (k : Nat) (z : α) (h : L.length = k) : fil L k z = L := by unfold fil; rw [h, Nat.sub_self, List.replicate_zero, List.append_nil, List.take_of_length_le (by omega)]
theorem fil_set (L : List α) (k : Nat) (z d : α) (h : k < L.length) : (fil L k z).set k (L.getD k d) = fil L (k + 1) z := by
  apply ext_getD z
  · rw [List.length_set, fil_len _ _ _ (by omega), fil_len _ _ _ (by omega)]
  · intro i hi
    rw [List.length_set, fil_len _ _ _ (by omega)] at hi
    have hg : ∀ m, m ≤ L.length → (fil L m z).getD i z = if i < m then L.getD i z else z := fun m hm => by
      unfold fil
      simp only [List.getD, List.getElem?_append, List.length_take, Nat.min_eq_left hm, List.getElem?_take]
      by_cases q : i < m
      · rw [if_pos q, if_pos q, if_pos q]
      · rw [if_neg q, if_neg q]
        simp [show i - m < L.length - m by omega]
    rw [hg _ (by omega)]
    have e : ((fil L k z).set k (L.getD k d)).getD i z = if k = i then L.getD k d else (fil L k z).getD i z := by
      simp only [List.getD, List.getElem?_set]
      rw [fil_len _ _ _ (by omega)]
      by_cases q : k = i
      · rw [if_pos q, if_pos q, if_pos (by omega)]; rfl
      · rw [if_neg q, if_neg q]
    rw [e, hg _ (by omega)]
    by_cases q : k = i
    · subst q
      rw [if_pos rfl, if_pos (by omega)]
      simp [List.getD, List.getElem?_eq_getElem h]
    · rw [if_neg q]
      by_cases q2 : i < k
      · rw [if_pos q2, if_pos (by omega)]
      · rw [if_neg q2, if_neg (by omega)]
end
theorem has_set {w : World} {g : Nat} {t : TypeId} {cs : List Value} (h : HasB w g t cs) (i : Nat) (u : Value) : HasB (w.setCell ⟨g, i, none⟩ u) g t (cs.set i u) := by
 unfold HasB at h ⊢
 simp [World.setCell, Array.getElem?_modify, h]
theorem has_far {w : World} {g g' : Nat} {t : TypeId} {cs : List Value} (h : HasB w g t cs) (hne : g ≠ g') (i : Nat) (u : Value) : HasB (w.setCell ⟨g', i, none⟩ u) g t cs := h.same (Below.heap_setCell _ _ _ _ hne)
theorem chg_set {g h : Nat} {W w : World} (c : Chg g h W w) (b : Nat) (hb : b = g ∨ b = h) (i : Nat) (u : Value) : Chg g h W (w.setCell ⟨b, i, none⟩ u) :=
 c.trans ⟨rfl, rfl, rfl, by simp, fun k _ h1 h2 => Below.heap_setCell _ _ _ _ (by rcases hb with rfl | rfl <;> assumption)⟩
theorem chg_drew {g h : Nat} {W w : World} (c : Chg g h W w) : Chg g h W w.drew := ⟨c.os, c.tape, c.output, c.size, c.block⟩
def RSetRel (W : World) (g h N : Nat) (NB : List Int) (NU : List Bool) (i : Value) (w' : World) : Prop :=
 ∃ k : Nat, k ≤ N ∧ i = .int .i64 k ∧ HasB w' g 5 ((fil NB k 0).map (Value.int .u8)) ∧ HasB w' h 4 ((fil NU k false).map Value.bool) ∧ Chg g h W w'
theorem rset_in {W wr : World} {g h N k : Nat} {NB : List Int} {NU : List Bool} {x : Int} {y is : Bool} (hk : k < N) (hgh : g ≠ h) (lb : NB.length = N) (lu : NU.length = N) (gB : HasB wr g 5 ((fil NB k 0).map (Value.int .u8))) (gU : HasB wr h 4 ((fil NU k false).map Value.bool)) (c : Chg g h W wr) (e1 : NB.getD k 0 = 0) (e2 : NU.getD k false = is) :
    RSetRel W g h N NB NU (.int .i64 ((k : Int) + 1)) ((((wr.setCell ⟨g, k, none⟩ (.int .u8 x)).setCell ⟨h, k, none⟩ (.bool y)).setCell ⟨g, k, none⟩ (.int .u8 0)).setCell ⟨h, k, none⟩ (.bool is)).drew.drew := by
  refine ⟨k + 1, hk, by simp, drew_has (drew_has ?_), drew_has (drew_has ?_), chg_drew (chg_drew (chg_set (chg_set (chg_set (chg_set c g (.inl rfl) _ _) h (.inr rfl) _ _) g (.inl rfl) _ _) h (.inr rfl) _ _))⟩
  · have := has_far (has_set (has_far (has_set gB k (.int .u8 x)) hgh k (.bool y)) k (.int .u8 0)) hgh k (.bool is)
    rw [List.set_set, ← List.map_set] at this
    have q := fil_set NB k 0 0 (by omega)
    rw [e1] at q
    rw [q] at this
    exact this
  · have := has_set (has_far (has_set (has_far gU hgh.symm k (.int .u8 x)) k (.bool y)) hgh.symm k (.int .u8 0)) k (.bool is)
    rw [List.set_set, ← List.map_set] at this
    have q := fil_set NU k false false (by omega)
    rw [e2] at q
    rw [q] at this
    exact this
theorem rset_out {W wr : World} {g h N k : Nat} {NB : List Int} {NU : List Bool} {x : Int} {y : Bool} (hk : k < N) (hgh : g ≠ h) (lb : NB.length = N) (lu : NU.length = N) (gB : HasB wr g 5 ((fil NB k 0).map (Value.int .u8))) (gU : HasB wr h 4 ((fil NU k false).map Value.bool)) (c : Chg g h W wr) (e1 : NB.getD k 0 = x) (e2 : NU.getD k false = y) :
    RSetRel W g h N NB NU (.int .i64 ((k : Int) + 1)) ((wr.setCell ⟨g, k, none⟩ (.int .u8 x)).setCell ⟨h, k, none⟩ (.bool y)).drew.drew := by
  refine ⟨k + 1, hk, by simp, drew_has (drew_has ?_), drew_has (drew_has ?_), chg_drew (chg_drew (chg_set (chg_set c g (.inl rfl) _ _) h (.inr rfl) _ _))⟩
  · have := has_far (has_set gB k (.int .u8 x)) hgh k (.bool y)
    rw [← List.map_set] at this
    have q := fil_set NB k 0 0 (by omega)
    rw [e1] at q
    rw [q] at this
    exact this
  · have := has_set (has_far gU hgh.symm k (.int .u8 x)) k (.bool y)
    rw [← List.map_set] at this
    have q := fil_set NU k false false (by omega)
    rw [e2] at q
    rw [q] at this
    exact this
def RSetP (w : World) (N : Nat) (NB : List Int) (NU : List Bool) (e : Ending) (w' : World) : Prop :=
 ∃ g h, e = .returned (.agg #[.slice (some ⟨g, 0, none⟩) N N, .slice (some ⟨h, 0, none⟩) N N]) ∧ HasB w' g 5 (NB.map (Value.int .u8)) ∧ HasB w' h 4 (NU.map Value.bool) ∧ w.heap.size ≤ g ∧ w.heap.size ≤ h ∧ Below w.heap.size w w'
theorem rSet_any (xb yb N a n cB cU : Nat) (is : Bool) (B : List Int) (U : List Bool) (hB : B.length = N) (hU : U.length = N) (hN : N ≤ 65536) (han : a + n ≤ N) (w : World) (rB : RowAt w (some ⟨xb, 0, none⟩) cB B) (rU : BlAt w (some ⟨yb, 0, none⟩) cU U)
    (NB : List Int) (NU : List Bool) (hNB : NB.length = N) (hNU : NU.length = N) (n1 : ∀ i, i < N → (a ≤ i ∧ i < a + n) → NB.getD i 0 = 0 ∧ NU.getD i false = is) (n2 : ∀ i, i < N → ¬ (a ≤ i ∧ i < a + n) → NB.getD i 0 = B.getD i 0 ∧ NU.getD i false = U.getD i false) (hN0 : 0 < N) :
    Calls Tryz.prog 14 #[.agg #[.slice (some ⟨xb, 0, none⟩) N cB, .slice (some ⟨yb, 0, none⟩) N cU], .int .i64 a, .int .i64 n, .bool is] w (RSetP w N NB NU) := by
  have N1 := Lib.hid n1
  have N2 := Lib.hid n2
  have HB := Lib.hid hB
  have HU := Lib.hid hU
  have LB := Lib.hid hNB
  have LU := Lib.hid hNU
  have RB := Lib.hid rB
  have RU := Lib.hid rU
  clear n1 n2 hB hU hNB hNU
  have hxb : xb < w.heap.size := by obtain ⟨x, hx, hlt, _⟩ := rB.at_ 0 (by rw [HB.out]; exact hN0); injection hx with hx; subst hx; exact hlt
  have hyb : yb < w.heap.size := by obtain ⟨_, _, y, hy, hlt, _⟩ := rU; injection hy with hy; subst hy; exact hlt
  clear rB rU
  go_enter Tryz.func14, Tryz.ntmps14
  go_wp2_with fail
  refine (rNew_any N hN _).mono ?_
  rintro e w1 ⟨g, h, rfl, hg, hh, lg, lh, hb⟩
  have P4 : HasB w1 w.heap.size 50 [.slice (some ⟨xb, 0, none⟩) N cB, .slice (some ⟨yb, 0, none⟩) N cU] := ((HasB.new w _ _).below (bel_al (Below.refl _ _) _)).below hb
  have R8 : HasB w1 (w.heap.size + 1) 50 [.slice none 0 0, .slice none 0 0] := by
    have := (HasB.new (w.alloc (.cells #[.slice (some ⟨xb, 0, none⟩) N cB, .slice (some ⟨yb, 0, none⟩) N cU] 50)) 50 [.slice none 0 0, .slice none 0 0]).below hb
    rwa [World.size_alloc] at this
  have hbw : Below w.heap.size w w1 := bel_then (bel_al (bel_al (Below.refl _ _) _) _) hb
  rw [World.size_alloc, World.size_alloc] at lg lh
  clear hb
  have RB1 := Lib.hid (RB.out.below hbw)
  have RU1 := Lib.hid (RU.out.below hbw)
  clear RB RU
  have hgl := hg.lt
  have hhl := hh.lt
  have G := Lib.hid hg
  have HH := Lib.hid hh
  have HP := Lib.hid P4
  have HR := Lib.hid R8
  have HW := Lib.hid hbw
  have hgh : g ≠ h := hg.ne hh (by decide)
  have hsz := hbw.size
  have hpl := P4.lt
  have hrl := R8.lt
  clear hg hh P4 R8 hbw
  generalize hs : w.heap.size = s at *
  have HS := Lib.hid hs
  clear hs
  go_wp2_with fail
  obtain ⟨W, hW⟩ : ∃ W, w1.alloc (.cells #[.slice (some ⟨g, 0, none⟩) N N, .slice (some ⟨h, 0, none⟩) N N] 50) = W := ⟨_, rfl⟩
  have b1 : Below w1.heap.size w1 W := by rw [← hW]; exact bel_al (Below.refl _ _) _
  have HO : HasB W w1.heap.size 50 [.slice (some ⟨g, 0, none⟩) N N, .slice (some ⟨h, 0, none⟩) N N] := by rw [← hW]; exact HasB.new _ _ _
  have HO := Lib.hid HO
  have G := Lib.hid (G.out.below b1)
  have HH := Lib.hid (HH.out.below b1)
  have HP := Lib.hid (HP.out.below b1)
  have HR := Lib.hid (HR.out.below b1)
  have RB2 := Lib.hid (RB1.out.below b1)
  have RU2 := Lib.hid (RU1.out.below b1)
  have HWW : Hid (Below s w W) := HW.out.trans (b1.mono hsz)
  rw [hW]
  clear hW b1 RB1 RU1 HW
  generalize w1.heap.size = O at *
  go_loopw [10] (fun i w' => RSetRel W g h N NB NU i w') (fun i _ => N - (intOf i).toNat)
  case atStart => exact ⟨0, Nat.zero_le _, rfl, by rw [fil_zero, LB.out]; exact G.out, by rw [fil_zero, LU.out]; exact HH.out, Chg.refl _ _ _⟩
  case round =>
    obtain ⟨k, hk, rfl, gB, gU, ch⟩ := hrel
    have p0 := HP.out.chg ch (by omega) (by omega)
    have o0 := HO.out.chg ch (by omega) (by omega)
    by_cases hlt : k < N
    · have lB : (fil NB k 0).length = N := by rw [fil_len _ _ _ (by rw [LB.out]; exact hk), LB.out]
      have lU : (fil NU k false).length = N := by rw [fil_len _ _ _ (by rw [LU.out]; exact hk), LU.out]
      have c40 := p0.cell 0
      have c41 := p0.cell 1
      have c90 := o0.cell 0
      have c91 := o0.cell 1
      simp only [List.getElem?_cons_succ, List.getElem?_cons_zero] at c40 c41 c90 c91
      obtain ⟨tv, tg⟩ : ∃ v, wr.cell? ⟨g, k, none⟩ = some v := ⟨_, by rw [gB.cell k, List.getElem?_map, List.getElem?_eq_getElem (by omega), Option.map_some]⟩
      obtain ⟨sv, th⟩ : ∃ v, wr.cell? ⟨h, k, none⟩ = some v := ⟨_, by rw [gU.cell k, List.getElem?_map, List.getElem?_eq_getElem (by omega), Option.map_some]⟩
      have fg := gB.frozen k
      have fh := gU.frozen k
      have cx : wr.cell? ⟨xb, k, none⟩ = some (.int .u8 (B.getD k 0)) := by
        obtain ⟨x, hx, _, hc⟩ := RB2.out.at_ k (by rw [HB.out]; exact hlt)
        injection hx with hx; subst hx
        rw [addr_add, Nat.zero_add] at hc
        rw [← hc]
        exact World.cell?_of_block (ch.block xb (by have := HO.out.lt; omega) (by omega) (by omega))
      have cy : wr.cell? ⟨yb, k, none⟩ = some (.bool (U.getD k false)) := by
        obtain ⟨_, _, y, hy, _, hc⟩ := RU2.out
        injection hy with hy; subst hy
        have hc := hc k (by rw [HU.out]; exact hlt)
        rw [addr_add, Nat.zero_add] at hc
        rw [← hc]
        exact World.cell?_of_block (ch.block yb (by have := HO.out.lt; omega) (by omega) (by omega))
      have GB := Lib.hid gB
      have GU := Lib.hid gU
      have CH := Lib.hid ch
      clear gB gU ch p0 o0 lB lU
      have kN : (k : Int) < (N : Int) := by omega
      have z1 : ¬ g = h := hgh
      have z2 : ¬ h = g := fun e => hgh e.symm
      have z3 : ¬ g = s := by omega
      have z4 : ¬ h = s := by omega
      have z5 : ¬ g = O := by omega
      have z6 : ¬ h = O := by omega
      have z7 : ¬ g = xb := by omega
      have z8 : ¬ g = yb := by omega
      by_cases hin : a ≤ k ∧ k < a + n
      · have d1 : decide ((a : Int) ≤ (k : Int)) = true := by rw [decide_eq_true_iff]; omega
        have d2 : decide ((k : Int) < (a : Int) + (n : Int)) = true := by rw [decide_eq_true_iff]; omega
        have d3 : decide (a ≤ k) = true := by rw [decide_eq_true_iff]; omega
        have d4 : decide (k < a + n) = true := by rw [decide_eq_true_iff]; omega
        have e1 := (N1.out k hlt hin).1
        have e2 := (N1.out k hlt hin).2
        have E1 := Lib.hid e1
        have E2 := Lib.hid e2
        clear e1 e2
        generalize B.getD k 0 = xv at cx
        generalize U.getD k false = yv at cy
        clear hin
        go_wp2_with fail
        go_region
        go_wp2_with fail
        go_region
        go_wp2_with fail
        go_roundw
        case rel => exact rset_in hlt hgh LB.out LU.out GB.out GU.out CH.out E1.out E2.out
        case measure => simp [intOf]; omega
      · have e1 := (N2.out k hlt hin).1
        have e2 := (N2.out k hlt hin).2
        rw [← e1] at cx
        rw [← e2] at cy
        obtain ⟨xv, e1⟩ : ∃ x, NB.getD k 0 = x := ⟨_, rfl⟩
        obtain ⟨yv, e2⟩ : ∃ x, NU.getD k false = x := ⟨_, rfl⟩
        rw [e1] at cx
        rw [e2] at cy
        have E1 := Lib.hid e1
        have E2 := Lib.hid e2
        clear e1 e2
        by_cases hak : a ≤ k
        · have d1 : decide ((a : Int) ≤ (k : Int)) = true := by rw [decide_eq_true_iff]; omega
          have d2 : decide ((k : Int) < (a : Int) + (n : Int)) = false := by rw [decide_eq_false_iff_not]; omega
          have d3 : decide (a ≤ k) = true := by rw [decide_eq_true_iff]; omega
          have d4 : decide (k < a + n) = false := by rw [decide_eq_false_iff_not]; omega
          clear hin
          go_wp2_with fail
          go_region
          go_wp2_with fail
          go_region
          go_wp2_with fail
          go_roundw
          case rel => exact rset_out hlt hgh LB.out LU.out GB.out GU.out CH.out E1.out E2.out
          case measure => simp [intOf]; omega
        · have d1 : decide ((a : Int) ≤ (k : Int)) = false := by rw [decide_eq_false_iff_not]; omega
          have d3 : decide (a ≤ k) = false := by rw [decide_eq_false_iff_not]; omega
          clear hin
          go_wp2_with fail
          go_region
          go_wp2_with fail
          go_region
          go_wp2_with fail
          go_roundw
          case rel => exact rset_out hlt hgh LB.out LU.out GB.out GU.out CH.out E1.out E2.out
          case measure => simp [intOf]; omega
    · have hkN : k = N := by omega
      subst hkN
      have r0 := HR.out.chg ch (by omega) (by omega)
      have c40 := p0.cell 0
      have c90 := o0.cell 0
      have c91 := o0.cell 1
      have c80 := r0.cell 0
      have c81 := r0.cell 1
      have f80 := r0.frozen 0
      have f81 := r0.frozen 1
      simp only [List.getElem?_cons_succ, List.getElem?_cons_zero] at c40 c90 c91 c80 c81
      rw [fil_all _ _ _ LB.out] at gB
      rw [fil_all _ _ _ LU.out] at gU
      have GB := Lib.hid gB
      have GU := Lib.hid gU
      have CH := Lib.hid ch
      clear gB gU ch p0 o0 r0
      go_wp2_with fail
      refine bodyPost_ret (v := .agg #[.slice (some ⟨g, 0, none⟩) k k, .slice (some ⟨h, 0, none⟩) k k]) (by simp [results, Tryz.results14, go_sem, c80, c81]) rfl ?_
      have hgs : g ≠ s + 1 := by omega
      have hhs : h ≠ s + 1 := by omega
      refine ⟨g, h, rfl, has_far (has_far GB.out hgs _ _) hgs _ _, has_far (has_far GU.out hhs _ _) hhs _ _, by rw [HS.out]; omega, by rw [HS.out]; omega, ?_⟩
      rw [HS.out]
      exact ((CH.out.below HWW.out (by have := HO.out.lt; omega) (by omega) (by omega)).setCell (by show s ≤ s + 1; omega) _).setCell (by show s ≤ s + 1; omega) _
end Go.Proofs.YtbgnkljeodandaaGreat.Mm
namespace Go.Proofs.YtbgnkljeodandaaGreat.Mm
open Go.ChangeShapes Go.WideShapes Go.ChangeAt Go.RowKit
set_option linter.unusedVariables false
set_option maxRecDepth 10000
def RWriteP (w : World) (yb N cU : Nat) (NB : List Int) (e : Ending) (w' : World) : Prop :=
 ∃ g cap, e = .returned (.agg #[.slice (some ⟨g, 0, none⟩) N cap, .slice (some ⟨yb, 0, none⟩) N cU]) ∧ RowAt w' (some ⟨g, 0, none⟩) cap NB ∧ w.heap.size ≤ g ∧ g < w'.heap.size ∧ Below w.heap.size w w'
theorem news_at {w : World} {xb cB : Nat} {B : List Int} (r : RowAt w (some ⟨xb, 0, none⟩) cB B) (hne : B ≠ []) : ∀ j u, (B.map (Value.int .u8))[j]? = some u → w.cell? ((⟨xb, 0, none⟩ : Addr).add j) = some u := by
 intro j u hj
 have hjl : j < B.length := by
  rcases Nat.lt_or_ge j B.length with h | h
  · exact h
  · rw [List.getElem?_eq_none (by simpa using h)] at hj; cases hj
 obtain ⟨x, hx, _, hc⟩ := r.at_ j hjl
 injection hx with hx; subst hx
 rw [hc]
 simp [List.getElem?_eq_getElem hjl] at hj
 subst hj
 simp [List.getD, List.getElem?_eq_getElem hjl]
theorem step_app {W : World} {ops : Array Oper} {o : Oper} {a : Act} {K : Act → World → Prop} {Q : Exit → Act → World → Prop} {E : Prop} (hgd : o.guard = none) (s x : Operand)
    (ho : o.op = .call { callee := .builtin .append, args := #[s, x], argTypes := #[22, 22] }) (s0 G N cB xb : Nat) (B : List Int)
    (hs : a.eval s = .slice (some ⟨G, 0, none⟩) 0 0) (hx : a.eval x = .slice (some ⟨xb, 0, none⟩) N cB) (hG : HasB W G 5 []) (hsG : s0 ≤ G) (r : RowAt W (some ⟨xb, 0, none⟩) cB B) (hB : B.length = N) (hN0 : 0 < N) (hN : N ≤ 65536)
    (h : ∀ g cap w' cur, HasB w' g 5 cur → cur.length = cap → N ≤ cap → cap ≤ maxLen → cur.take N = B.map (Value.int .u8) → (g = G ∨ g = W.heap.size) → Chg G G W w' → K (a.put o.dst (.slice (some ⟨g, 0, none⟩) N cap)) w') :
    if Region.wanted o (yielded ops a.tmps) = true then Oper.wp Tryz.prog o a W K Q else E := by
  obtain ⟨u0, hu0, hz0, hz1, hz2⟩ := info_parts u8_info
  have hGl := hG.lt
  have hne : B ≠ [] := by intro e; subst e; simp at hB; omega
  refine step_append_lies W hgd s x 22 ho s0 5 u0 _ 1 1 Tryz.underlying22 hu0 hz0 hz1 hz2 rfl (by decide) _ 0 [] hs ?_ ⟨xb, 0, none⟩ N cB (B.map (Value.int .u8)) hx (by simp [hB]) (news_at r hne) (ints_oneCell .u8 B) hN0 (by unfold maxLen; omega) (by omega) (by omega) W.heap.size rfl ?_
  · exact ⟨rfl, .inr ⟨G, 0, #[], rfl, hsG, hG, Nat.le_refl _, Nat.zero_le _, rfl, rfl⟩⟩
  · intro g cap w' hown hgr hor hlt
    rw [Nat.zero_add, List.nil_append] at hown
    rw [Nat.zero_add]
    obtain ⟨hl, h2⟩ := hown
    rcases h2 with ⟨hq, _⟩ | ⟨g', cap', cur, hv, hb, hh, hc1, hc2, hc3, hc4⟩
    · cases hq
    · injection hv with hv1 hv2 hv3
      injection hv1 with hv1
      injection hv1 with hv1
      subst hv1 hv3
      refine h g cap w' cur.toList (by unfold HasB; simpa using hh) (by simpa using hc3) hc1 hc2 (by simpa using hc4) ?_ ⟨hgr.os, hgr.tape, hgr.output, hgr.size, fun k hk h1 _ => hgr.block k hk (fun e => by simp [Value.ownBlock] at e; exact h1 e)⟩
      rcases hor with e | e
      · simp [Value.ownBlock] at e; exact .inl e.symm
      · exact .inr e
theorem chg_cells {g : Nat} {w w' : World} (c : Chg g g w w') : (∀ b o, b < w.heap.size → ¬ b = g → w'.cell? ⟨b, o, none⟩ = w.cell? ⟨b, o, none⟩) ∧ (∀ b o, b < w.heap.size → ¬ b = g → w'.frozen? ⟨b, o, none⟩ = w.frozen? ⟨b, o, none⟩) :=
 ⟨fun b o h1 h2 => World.cell?_of_block (c.block b h1 h2 h2), fun b o h1 h2 => World.frozen?_of_block (c.block b h1 h2 h2)⟩
theorem HasB.al {w : World} {g : Nat} {t : TypeId} {cs : List Value} (h : HasB w g t cs) (o : Obj) : HasB (w.alloc o) g t cs := h.below (bel_al (Below.refl _ _) _)
theorem HasB.newAt (w : World) (g : Nat) (t : TypeId) (cs : Array Value) (hg : g = w.heap.size) : HasB (w.alloc (.cells cs t)) g t cs.toList := by
 subst hg
 have := HasB.new w t cs.toList
 rwa [Array.toArray_toList] at this
theorem RowAt.al {w : World} {A : Option Addr} {cap : Nat} {l : List Int} (r : RowAt w A cap l) (o : Obj) : RowAt (w.alloc o) A cap l := r.below (bel_al (Below.refl _ _) _)
theorem RowAt.dr {w : World} {A : Option Addr} {cap : Nat} {l : List Int} (r : RowAt w A cap l) : RowAt w.drew A cap l := r
def WCut (w2 : World) (yb N cU : Nat) (B : List Int) (s7 : Value) (wx : World) : Prop :=
 ∃ O g cap cur, s7 = .pointer (some ⟨O, 0, none⟩) ∧ HasB wx O 50 [.slice (some ⟨g, 0, none⟩) N cap, .slice (some ⟨yb, 0, none⟩) N cU] ∧ HasB wx g 5 cur ∧ cur.length = cap ∧ N ≤ cap ∧ cap ≤ maxLen ∧ cur.take N = B.map (Value.int .u8) ∧ w2.heap.size ≤ g ∧ w2.heap.size ≤ O ∧ Below w2.heap.size w2 wx
def RWRel (W : World) (g a n : Nat) (cur : List Value) (l : List Int) (i : Value) (w' : World) : Prop :=
 ∃ k : Nat, k ≤ n ∧ i = .int .i64 k ∧ HasB w' g 5 (splice cur a ((l.take k).map (Value.int .u8))) ∧ Chg g g W w'
theorem splice_set {α : Type} (L c : List α) (a : Nat) (x : α) (h : a + (c.length + 1) ≤ L.length) : (splice L a c).set (a + c.length) x = splice L a (c ++ [x]) := by
  apply ext_getD x
  · rw [List.length_set, splice_len _ _ _ (by omega), splice_len _ _ _ (by simp; omega)]
  · intro i hi
    have e : ((splice L a c).set (a + c.length) x).getD i x = if a + c.length = i then x else (splice L a c).getD i x := by
      simp only [List.getD, List.getElem?_set]
      rw [splice_len _ _ _ (by omega)]
      by_cases hq : a + c.length = i
      · rw [if_pos hq, if_pos hq, if_pos (by omega)]; rfl
      · rw [if_neg hq, if_neg hq]
    rw [e, splice_getD _ _ _ _ (by omega), splice_getD _ _ _ _ (by simp; omega)]
    simp only [List.length_append, List.length_cons, List.length_nil]
    by_cases hq : a + c.length = i
    · rw [if_pos hq, if_pos (by omega)]
      subst hq
      simp [List.getD]
    · rw [if_neg hq]
      by_cases h1 : a ≤ i ∧ i < a + c.length
      · rw [if_pos h1, if_pos (by omega)]
        simp [List.getD, List.getElem?_append, show i - a < c.length by omega]
      · rw [if_neg h1, if_neg (by omega)]
theorem rw_step {W wr : World} {g a n k : Nat} {cur : List Value} {l : List Int} {x : Int} (hk : k < n) (hl : l.length = n) (hf : a + n ≤ cur.length) (hB : HasB wr g 5 (splice cur a ((l.take k).map (Value.int .u8)))) (c : Chg g g W wr) (hx : l.getD k 0 = x) :
  RWRel W g a n cur l (.int .i64 ((k : Int) + 1)) (wr.setCell ⟨g, a + k, none⟩ (.int .u8 x)).drew := by
 refine ⟨k + 1, hk, by simp, drew_has ?_, chg_drew (chg_set c g (.inl rfl) _ _)⟩
 have hlk : ((l.take k).map (Value.int .u8)).length = k := by rw [List.length_map, List.length_take]; omega
 have := has_set hB (a + k) (.int .u8 x)
 have e := splice_set cur ((l.take k).map (Value.int .u8)) a (.int .u8 x) (by omega)
 rw [hlk] at e
 rw [e] at this
 have q : l.take (k + 1) = l.take k ++ [x] := by
  rw [List.take_succ_eq_append_getElem (by omega)]
  congr 2
  rw [← hx]
  simp [List.getD, List.getElem?_eq_getElem (by omega : k < l.length)]
 rw [q, List.map_append]
 exact this
theorem rw_row {w : World} {g a n N cp : Nat} {cur : List Value} {B l : List Int} (hf : a + l.length ≤ N) (hB : B.length = N) (hl : l.length = n) (hc : cur.length = cp) (h2 : N ≤ cp) (h3 : cp ≤ maxLen) (h4 : cur.take N = B.map (Value.int .u8)) (bB : Bytes B) (bl : Bytes l)
    (h : HasB w g 5 (splice cur a ((l.take n).map (Value.int .u8)))) : RowAt w (some ⟨g, 0, none⟩) cp (splice B a l) := by
  have hL : (splice B a l).length = N := by rw [splice_len _ _ _ (by omega), hB]
  refine ⟨by omega, h3, splice_byte bB bl _, fun _ => ⟨_, rfl, h.lt, fun i hi => ?_⟩⟩
  rw [hL] at hi
  rw [addr_add, Nat.zero_add, h.cell, List.take_of_length_le (by omega)]
  have hS : (splice cur a (l.map (Value.int .u8))).length = cp := by rw [splice_len _ _ _ (by rw [List.length_map]; omega), hc]
  have e := splice_getD cur a (l.map (Value.int .u8)) (.int .u8 0) (by rw [List.length_map]; omega) i
  rw [List.getElem?_eq_getElem (by omega)]
  simp only [List.getD, List.getElem?_eq_getElem (by omega : i < (splice cur a (l.map (Value.int .u8))).length), Option.getD_some] at e
  rw [e]
  have e' := splice_getD B a l 0 (by omega) i
  rw [e', List.length_map]
  by_cases q : a ≤ i ∧ i < a + l.length
  · rw [if_pos q, if_pos q]
    simp [List.getD, List.getElem?_eq_getElem (by omega : i - a < l.length)]
  · rw [if_neg q, if_neg q]
    have hc2 : cur[i]? = (B.map (Value.int .u8))[i]? := by rw [← h4, List.getElem?_take, if_pos hi]
    rw [hc2]
    simp [List.getD, List.getElem?_eq_getElem (by omega : i < B.length)]
theorem wcut_a {w2 W w4 : World} {yb N cU G g c : Nat} {B : List Int} {cur : List Value} (hW : Below w2.heap.size w2 W) (hG : w2.heap.size ≤ G) (h1 : HasB w4 g 5 cur) (h2 : cur.length = c) (h3 : N ≤ c) (h4 : c ≤ maxLen) (h5 : cur.take N = B.map (Value.int .u8)) (h6 : g = G ∨ g = W.heap.size) (h7 : Chg G G W w4) :
  WCut w2 yb N cU B (.pointer (some ⟨w4.heap.size, 0, none⟩)) (w4.alloc (.cells #[.slice (some ⟨g, 0, none⟩) N c, .slice (some ⟨yb, 0, none⟩) N cU] 50)) := by
 have hs := hW.size
 have hs4 := h7.size
 refine ⟨_, g, c, cur, rfl, HasB.newAt _ _ _ #[.slice (some ⟨g, 0, none⟩) N c, .slice (some ⟨yb, 0, none⟩) N cU] rfl, h1.al _, h2, h3, h4, h5, by omega, by omega, ?_⟩
 exact bel_al (h7.below hW hs hG hG) _
theorem wcut_b {w2 W w4 : World} {yb N cU G g c O : Nat} {B : List Int} {cur : List Value} {cs0 : Array Value} (hW : Below w2.heap.size w2 W) (hG : w2.heap.size ≤ G) (h1 : HasB w4 g 5 cur) (h2 : cur.length = c) (h3 : N ≤ c) (h4 : c ≤ maxLen) (h5 : cur.take N = B.map (Value.int .u8)) (h6 : g = G ∨ g = W.heap.size) (h7 : Chg G G W w4)
  (hO : HasB W O 50 cs0.toList) (hl : cs0.size = 2) (hOG : O ≠ G) (hO2 : w2.heap.size ≤ O) :
  WCut w2 yb N cU B (.pointer (some ⟨O, 0, none⟩)) ((w4.setCell ⟨O, 0, none⟩ (.slice (some ⟨g, 0, none⟩) N c)).setCell ⟨O, 1, none⟩ (.slice (some ⟨yb, 0, none⟩) N cU)) := by
 have hs := hW.size
 have hs4 := h7.size
 have o4 := hO.chg h7 hOG hOG
 have hne : g ≠ O := by have := hO.lt; omega
 have hset : (cs0.toList.set 0 (Value.slice (some ⟨g, 0, none⟩) N c)).set 1 (.slice (some ⟨yb, 0, none⟩) N cU) = [.slice (some ⟨g, 0, none⟩) N c, .slice (some ⟨yb, 0, none⟩) N cU] := by
  obtain ⟨l⟩ := cs0
  match l, hl with
  | [a, b], _ => rfl
 refine ⟨O, g, c, cur, rfl, by rw [← hset]; exact has_set (has_set o4 0 _) 1 _, has_far (has_far h1 hne _ _) hne _ _, h2, h3, h4, h5, by omega, hO2, ?_⟩
 exact ((h7.below hW hs hG hG).setCell hO2 _).setCell hO2 _
set_option maxHeartbeats 4000000 in
theorem rWrite_any (xb yb N a n cB cU cap : Nat) (A : Option Addr) (B l : List Int) (hB : B.length = N) (hl : l.length = n) (hN : N ≤ 65536) (hN0 : 0 < N) (han : a + n ≤ N) (w : World) (rB : RowAt w (some ⟨xb, 0, none⟩) cB B) (hyb : yb < w.heap.size) (rl : RowAt w A cap l) :
    Calls Tryz.prog 16 #[.agg #[.slice (some ⟨xb, 0, none⟩) N cB, .slice (some ⟨yb, 0, none⟩) N cU], .int .i64 a, .slice A n cap] w (RWriteP w yb N cU (splice B a l)) := by
  have HB := Lib.hid hB
  have HL := Lib.hid hl
  have RB := Lib.hid rB
  have RL := Lib.hid rl
  have hne : B ≠ [] := by intro e; subst e; simp at hB; omega
  have hxb : xb < w.heap.size := by obtain ⟨x, hx, hlt, _⟩ := rB.at_ 0 (by omega); injection hx with hx; subst hx; exact hlt
  clear rB rl hB hl
  go_enter Tryz.func16, Tryz.ntmps16
  go_upto_region 1 with fail
  obtain ⟨w2, hw2⟩ : ∃ w2, (w.alloc (.cells #[.slice (some ⟨xb, 0, none⟩) N cB, .slice (some ⟨yb, 0, none⟩) N cU] 50)).alloc (.cells #[.slice none 0 0, .slice none 0 0] 50) = w2 := ⟨_, rfl⟩
  have hb2 : Below w.heap.size w w2 := by rw [← hw2]; exact bel_al (bel_al (Below.refl _ _) _) _
  have P3 : HasB w2 w.heap.size 50 [.slice (some ⟨xb, 0, none⟩) N cB, .slice (some ⟨yb, 0, none⟩) N cU] := by rw [← hw2]; exact (HasB.new w _ _).al _
  have R6 : HasB w2 (w.heap.size + 1) 50 [.slice none 0 0, .slice none 0 0] := by rw [← hw2]; exact HasB.newAt _ _ _ #[.slice none 0 0, .slice none 0 0] (by simp)
  have hs2 : w2.heap.size = w.heap.size + 2 := by rw [← hw2]; simp
  rw [hw2]
  clear hw2
  have RB2 := Lib.hid (RB.out.below hb2)
  have RL2 := Lib.hid (RL.out.below hb2)
  have HP := Lib.hid P3
  have HR := Lib.hid R6
  have HW := Lib.hid hb2
  have c0 := P3.cell 0
  have c1 := P3.cell 1
  simp only [List.getElem?_cons_succ, List.getElem?_cons_zero] at c0 c1
  have hsl : w.heap.size < w2.heap.size := by omega
  have hsl1 : w.heap.size + 1 < w2.heap.size := by omega
  clear P3 R6 hb2 RB RL hs2
  generalize hs : w.heap.size = s at *
  have HS := Lib.hid hs
  clear hs
  have z1 : ¬ w2.heap.size = s := by omega
  have z2 : ¬ w2.heap.size + 1 = s := by omega
  have z3 : ¬ s = w2.heap.size := by omega
  have z4 : ¬ s = w2.heap.size + 1 := by omega
  go_cut [7] (fun s7 wx => WCut w2 yb N cU B s7 wx)
  case first =>
    go_region_held3 (fun w' => w'.cell? ⟨s, 0, none⟩ = some (.slice (some ⟨xb, 0, none⟩) N cB) ∧ w'.cell? ⟨s, 1, none⟩ = some (.slice (some ⟨yb, 0, none⟩) N cU))
      (first
        | exact ⟨k0, k1⟩
        | exact ⟨Lib.cell?_alloc_some _ k0, Lib.cell?_alloc_some _ k1⟩
        | (go_split_ands
           exact ⟨Lib.cell?_alloc_some _ (by assumption), Lib.cell?_alloc_some _ (by assumption)⟩)
        | go_keep)
      ((refine step_app (by rfl) _ _ (by rfl) w2.heap.size _ N cB xb B (by rfl) (by rfl) (by first | exact drew_has (HasB.newAt _ _ _ #[] (by simp)) | exact drew_has ((HasB.newAt _ _ _ #[] (by simp)).al _) | exact HasB.newAt _ _ _ #[] (by simp) | exact (HasB.newAt _ _ _ #[] (by simp)).al _) (by omega) (by first | exact (RB2.out.al _).dr | exact ((RB2.out.al _).al _).dr | exact RB2.out.al _ | exact (RB2.out.al _).al _) HB.out hN0 hN ?_; intro g c w4 cur h1 h2 h3 h4 h5 h6 h7; obtain ⟨hc, hf⟩ := chg_cells h7; have k0 : w4.cell? ⟨s, 0, none⟩ = some (.slice (some ⟨xb, 0, none⟩) N cB) := (by first | exact (hc s 0 (by first | omega | (simp; omega)) (by first | omega | (simp; omega))).trans (Lib.cell?_alloc_some _ c0) | exact (hc s 0 (by first | omega | (simp; omega)) (by first | omega | (simp; omega))).trans (Lib.cell?_alloc_some _ (Lib.cell?_alloc_some _ c0))); have k1 : w4.cell? ⟨s, 1, none⟩ = some (.slice (some ⟨yb, 0, none⟩) N cU) := (by first | exact (hc s 1 (by first | omega | (simp; omega)) (by first | omega | (simp; omega))).trans (Lib.cell?_alloc_some _ c1) | exact (hc s 1 (by first | omega | (simp; omega)) (by first | omega | (simp; omega))).trans (Lib.cell?_alloc_some _ (Lib.cell?_alloc_some _ c1))); have H1 := Lib.hid h1; have H2 := Lib.hid h2; have H5 := Lib.hid h5; have H6 := Lib.hid h6; have H7 := Lib.hid h7; clear h1 h2 h5 h6 h7))
    all_goals go_wp2_with fail
    all_goals go_meet
    · exact wcut_a (by first | exact (bel_al (Below.refl _ _) _).drew | exact bel_al (Below.refl _ _) _) (by omega) H1.out H2.out h3 h4 H5.out H6.out H7.out
    · exact wcut_b (by first | exact (bel_al (bel_al (Below.refl _ _) _) _).drew | exact bel_al (bel_al (Below.refl _ _) _) _) (by omega) H1.out H2.out h3 h4 H5.out H6.out H7.out (cs0 := #[.slice none 0 0, .slice none 0 0]) (by first | exact drew_has (HasB.newAt _ _ _ _ (by simp)) | exact HasB.newAt _ _ _ _ (by simp)) rfl (by omega) (by omega)
    · exact wcut_b (by first | exact (bel_al (bel_al (Below.refl _ _) _) _).drew | exact bel_al (bel_al (Below.refl _ _) _) _) (by omega) H1.out H2.out h3 h4 H5.out H6.out H7.out (cs0 := #[.slice none 0 0, .slice none 0 0]) (by first | exact drew_has ((HasB.newAt _ _ _ _ rfl).al _) | exact (HasB.newAt _ _ _ _ rfl).al _) rfl (by omega) (by omega)
  case rest =>
    obtain ⟨O, g, cp, cur, rfl, hO, hg, e1, e2, e3, e4, hsg, hsO, hbx⟩ := hcut
    have hgl := hg.lt
    have hOl := hO.lt
    have hgO : g ≠ O := hg.ne hO (by decide)
    have HO := Lib.hid hO
    have G := Lib.hid hg
    have E1 := Lib.hid e1
    have E4 := Lib.hid e4
    have HR := Lib.hid (HR.out.below hbx)
    have RLx := Lib.hid (RL2.out.below hbx)
    have HBX : Hid (Below s w wc) := HW.out.trans (hbx.mono (by omega))
    have hsx := hbx.size
    clear hO hg e1 e4 hbx c0 c1 HP
    go_wp2_with fail
    go_loopw [8] (fun i w' => RWRel wc g a n cur l i w') (fun i _ => n - (intOf i).toNat)
    case atStart => exact ⟨0, Nat.zero_le _, rfl, by rw [List.take_zero, List.map_nil, splice_nil]; exact G.out, Chg.refl _ _ _⟩
    case round =>
      obtain ⟨k, hk, rfl, gB, ch⟩ := hrel
      have o0 := HO.out.chg ch hgO.symm hgO.symm
      have c90 := o0.cell 0
      have c91 := o0.cell 1
      simp only [List.getElem?_cons_succ, List.getElem?_cons_zero] at c90 c91
      by_cases hlt : k < n
      · have lB : (splice cur a ((l.take k).map (Value.int .u8))).length = cp := by rw [splice_len _ _ _ (by rw [List.length_map, List.length_take, HL.out, E1.out]; omega), E1.out]
        obtain ⟨tv, tg⟩ : ∃ v, wr.cell? ⟨g, a + k, none⟩ = some v := ⟨_, by rw [gB.cell (a + k), List.getElem?_eq_getElem (by omega)]⟩
        have fg := gB.frozen (a + k)
        obtain ⟨x, rfl, hxl, hx⟩ := RL2.out.at_ k (by rw [HL.out]; exact hlt)
        have cx : wr.cell? (x.add k) = some (.int .u8 (l.getD k 0)) := by
          obtain ⟨x', hx', _, hc⟩ := RLx.out.at_ k (by rw [HL.out]; exact hlt)
          injection hx' with hx'; subst hx'
          rw [← hc]
          exact World.cell?_of_block (ch.block _ (by rw [block_add]; omega) (by rw [block_add]; omega) (by rw [block_add]; omega))
        have GB := Lib.hid gB
        have CH := Lib.hid ch
        clear gB ch o0 lB hx
        have hbd := row_byte RLx.out.2.2.1 k
        obtain ⟨xv, hxv⟩ : ∃ v, l.getD k 0 = v := ⟨_, rfl⟩
        rw [hxv] at cx hbd
        have HX := Lib.hid hxv
        clear hxv
        obtain ⟨p0, p1⟩ := hbd
        have d1 : IntKind.i64.wrap ((a : Int) + (k : Int)) = (a : Int) + (k : Int) := IntWalk.i64_in _ (by omega)
        have d2 : ((a : Int) + (k : Int)).toNat = a + k := by omega
        have d3 : 0 ≤ (a : Int) + (k : Int) := by omega
        have d4 : (a : Int) + (k : Int) < (N : Int) := by omega
        have d5 : (k : Int) < (n : Int) := by omega
        go_wp2_with fail
        go_region
        go_wp2_with fail
        go_roundw
        case rel => exact rw_step hlt HL.out (by rw [E1.out]; omega) GB.out CH.out HX.out
        case measure => simp [intOf]; omega
      · have hkN : k = n := by omega
        subst hkN
        have r0 := HR.out.chg ch (by omega) (by omega)
        have c80 := r0.cell 0
        have c81 := r0.cell 1
        have f80 := r0.frozen 0
        have f81 := r0.frozen 1
        simp only [List.getElem?_cons_succ, List.getElem?_cons_zero] at c80 c81
        have GB := Lib.hid gB
        have CH := Lib.hid ch
        clear gB ch o0 r0
        go_wp2_with fail
        refine bodyPost_ret (v := .agg #[.slice (some ⟨g, 0, none⟩) N cp, .slice (some ⟨yb, 0, none⟩) N cU]) (by simp [results, Tryz.results16, go_sem, c80, c81]) rfl ?_
        have hgs : g ≠ s + 1 := by omega
        have hsz := CH.out.size
        refine ⟨g, cp, rfl, rw_row (by rw [HL.out]; exact han) HB.out HL.out E1.out e2 e3 E4.out RB2.out.2.2.1 RL2.out.2.2.1 (has_far (has_far GB.out hgs _ _) hgs _ _), by rw [HS.out]; omega, by simp; omega, ?_⟩
        rw [HS.out]
        exact ((CH.out.below HBX.out (by omega) (by omega) (by omega)).setCell (by show s ≤ s + 1; omega) _).setCell (by show s ≤ s + 1; omega) _
end Go.Proofs.YtbgnkljeodandaaGreat.Mm
