/- What the document's own memory (corralref03) answers: those calls that ask it. -/
import Derived.Test.YtjcggpaiminecaaMemBack
namespace Go.Proofs.Ytjcggpaiminecaa.Mm
open Go.ChangeShapes Go.WideShapes Go.ChangeAt Go.RowKit
set_option linter.unusedVariables false

/-- a slice of bools that reads as a list -/
def BlAt (w : World) (A : Option Addr) (cap : Nat) (l : List Bool) : Prop :=
  l.length ≤ cap ∧ cap ≤ maxLen ∧ ∃ x, A = some x ∧ x.block < w.heap.size ∧ ∀ i, i < l.length → w.cell? (x.add i) = some (.bool (l.getD i false))
theorem BlAt.below {w w' : World} {A : Option Addr} {cap : Nat} {l : List Bool} (r : BlAt w A cap l) (b : Below w.heap.size w w') : BlAt w' A cap l := by
  obtain ⟨h1, h2, x, rfl, hx, hc⟩ := r
  exact ⟨h1, h2, x, rfl, Nat.lt_of_lt_of_le hx b.size, fun i hi => by rw [b.cell (by rw [block_add]; exact hx)]; exact hc i hi⟩

/-- are all of them there? -/
def allB (U : List Bool) (a n : Nat) : Bool := (List.range n).all fun i => U.getD (a + i) false
theorem allB_iff (U : List Bool) (a n : Nat) : allB U a n = true ↔ ∀ i, i < n → U.getD (a + i) false = true := by
  unfold allB
  rw [List.all_eq_true]
  exact ⟨fun h i hi => h i (List.mem_range.2 hi), fun h i hi => h i (List.mem_range.1 hi)⟩

theorem rBytes_any (v : Int) (v0 : 0 ≤ v) (v1 : v < 4294967296) (w : World) :
    Calls Try.prog 15 #[.int .u32 v] w fun e w' => e = .returned (.slice (some ⟨w.heap.size, 0, none⟩) 4 4) ∧ put4 w v = w' := by
  go_enter Try.func15, Try.ntmps15
  go_wp2
  go_ret
  exact ⟨rfl, rfl⟩

theorem rAll_any (x y : Addr) (N a n cB cU : Nat) (U : List Bool) (hU : U.length = N) (hN : N ≤ 65536) (ha : a ≤ 65536) (hn : n ≤ 65536) (w : World) (hb : BlAt w (some y) cU U) :
    Calls Try.prog 12 #[.agg #[.slice (some x) N cB, .slice (some y) N cU], .int .i64 a, .int .i64 n] w fun e w' => e = .returned (.bool (allB U a n)) ∧ Below w.heap.size w w' := by
  obtain ⟨_, _, y', hy, hyb, hc⟩ := hb
  injection hy with hy; subst hy
  have HC := Lib.hid hc; clear hc
  have HU := Lib.hid hU; clear hU
  have HA := Lib.hid (allB_iff U a n)
  go_enter Try.func12, Try.ntmps12
  go_wp2_with fail
  go_loop [7] (fun i => ∃ k : Nat, k ≤ n ∧ i = .int .i64 ((a + k : Nat) : Int) ∧ ∀ j, j < k → U.getD (a + j) false = true) (fun i => a + n - (intOf i).toNat)
  case atStart => exact ⟨0, Nat.zero_le _, by rw [Nat.add_zero], fun j h => by omega⟩
  case round =>
    obtain ⟨k, hk, rfl, hall⟩ := hrel
    have HL := Lib.hid hall; clear hall
    have e0 : ((a + k : Nat) : Int) = (a : Int) + (k : Int) := by omega
    rw [e0]
    clear e0
    by_cases hlt : k < n
    · by_cases hin : a + k < N
      · have c1 := HC.out (a + k) (by rw [HU.out]; exact hin)
        have c1 := Lib.cell?_alloc_some (.cells #[.slice (some x) N cB, .slice (some y) N cU] 33) c1
        obtain ⟨b, hb⟩ : ∃ b, U.getD (a + k) false = b := ⟨_, rfl⟩
        rw [hb] at c1
        have HB := Lib.hid hb; clear hb
        have d1 : ((a : Int) + (k : Int)).toNat = a + k := by omega
        cases b
        · go_wp2_with fail
          go_ret
          refine ⟨ret_bool ?_, bel_al (Below.refl _ _) _⟩
          have : ¬ allB U a n = true := fun ht => by
            have := HA.out.1 ht k hlt
            rw [HB.out] at this
            cases this
          simpa using this
        · go_wp2_with fail
          go_round
          case rel => exact ⟨k + 1, hlt, by go_num, fun j hj => by
            by_cases e : j = k
            · rw [e]; exact HB.out
            · exact HL.out j (by omega)⟩
          case measure => simp [intOf]; omega
      · go_wp2_with fail
        go_ret
        refine ⟨ret_bool ?_, bel_al (Below.refl _ _) _⟩
        have : ¬ allB U a n = true := fun ht => by
          have := HA.out.1 ht k hlt
          simp [List.getD, List.getElem?_eq_none (by have := HU.out; omega : U.length ≤ a + k)] at this
        simpa using this
    · have hkn : k = n := by omega
      subst hkn
      go_wp2
      go_ret
      exact ⟨ret_bool (HA.out.2 HL.out).symm, bel_al (Below.refl _ _) _⟩

theorem rNum_any (x y : Addr) (N a cB cU : Nat) (B : List Int) (hB : B.length = N) (hN : N ≤ 65536) (ha : a + 4 ≤ N) (w : World) (hb : RowAt w (some x) cB B) :
    Calls Try.prog 18 #[.agg #[.slice (some x) N cB, .slice (some y) N cU], .int .i64 a] w fun e w' => e = .returned (.int .u32 (v4 B a)) ∧ Below w.heap.size w w' := by
  have hcell : ∀ i, i < 4 → (w.alloc (.cells #[.slice (some x) N cB, .slice (some y) N cU] 33)).cell? (x.add (a + i)) = some (.int .u8 (B.getD (a + i) 0)) := fun i hi => by
    obtain ⟨x', hx, _, hc⟩ := hb.at_ (a + i) (by omega)
    injection hx with hx; subst hx
    exact Lib.cell?_alloc_some _ hc
  have c0 := hcell 0 (by decide)
  have ad : ∀ n, x.add (n + 1) = ⟨x.block, x.off + (n + 1), none⟩ := fun n => by unfold Addr.add; simp
  have c1 := hcell 1 (by decide)
  have c2 := hcell 2 (by decide)
  have c3 := hcell 3 (by decide)
  rw [ad a] at c1
  rw [ad (a + 1)] at c2
  rw [ad (a + 2)] at c3
  clear ad
  rw [Nat.add_zero] at c0
  have b0 := row_byte hb.2.2.1 a
  have b1 := row_byte hb.2.2.1 (a + 1)
  have b2 := row_byte hb.2.2.1 (a + 2)
  have b3 := row_byte hb.2.2.1 (a + 3)
  have V : Hid (v4 B a = B.getD a 0 + 256 * (B.getD (a + 1) 0 + 256 * (B.getD (a + 2) 0 + 256 * B.getD (a + 3) 0))) := rfl
  clear hcell hb
  generalize B.getD a 0 = y0 at *
  generalize B.getD (a + 1) 0 = y1 at *
  generalize B.getD (a + 2) 0 = y2 at *
  generalize B.getD (a + 3) 0 = y3 at *
  clear hB
  obtain ⟨p0, q0⟩ := b0
  obtain ⟨p1, q1⟩ := b1
  obtain ⟨p2, q2⟩ := b2
  obtain ⟨p3, q3⟩ := b3
  have e1 : IntKind.i64.wrap ((a : Int) + 1) = (a : Int) + 1 := IntWalk.i64_in _ (by omega)
  have e2 : IntKind.i64.wrap ((a : Int) + 2) = (a : Int) + 2 := IntWalk.i64_in _ (by omega)
  have e3 : IntKind.i64.wrap ((a : Int) + 3) = (a : Int) + 3 := IntWalk.i64_in _ (by omega)
  have f1 : ((a : Int) + 1).toNat = a + 1 := by omega
  have f2 : ((a : Int) + 2).toNat = a + 2 := by omega
  have f3 : ((a : Int) + 3).toNat = a + 3 := by omega
  have g0 : (a : Int) < (N : Int) := by omega
  have g0' : a < N := by omega
  have g1 : (a : Int) + 1 < (N : Int) := by omega
  have g2 : (a : Int) + 2 < (N : Int) := by omega
  have g3 : (a : Int) + 3 < (N : Int) := by omega
  have k1 : 0 ≤ (a : Int) + 1 := by omega
  have k2 : 0 ≤ (a : Int) + 2 := by omega
  have k3 : 0 ≤ (a : Int) + 3 := by omega
  go_enter Try.func18, Try.ntmps18
  go_wp2_with fail
  go_quiet (fail)
  go_wp2
  go_ret
  refine ⟨ret_int ?_, ?_⟩
  · exact V.out.symm
  · exact below_drewN (bel_al (Below.refl _ _) _) _

/-- a new one -/
def RMade (w : World) (n : Nat) (e : Ending) (w' : World) : Prop :=
  ∃ g h, e = .returned (.agg #[.slice (some ⟨g, 0, none⟩) n n, .slice (some ⟨h, 0, none⟩) n n]) ∧ HasB w' g 5 ((List.replicate n (0 : Int)).map (Value.int .u8)) ∧ HasB w' h 4 ((List.replicate n false).map Value.bool) ∧ w.heap.size ≤ g ∧ w.heap.size ≤ h ∧ Below w.heap.size w w'

theorem two_new (w : World) (o : Obj) (t t' : TypeId) (cs cs' : List Value) :
    HasB (((w.alloc o).alloc (.cells cs.toArray t)).alloc (.cells cs'.toArray t')).drew (w.heap.size + 1) t cs ∧ HasB (((w.alloc o).alloc (.cells cs.toArray t)).alloc (.cells cs'.toArray t')).drew (w.heap.size + 1 + 1) t' cs' ∧
    Below w.heap.size w (((w.alloc o).alloc (.cells cs.toArray t)).alloc (.cells cs'.toArray t')).drew := by
  refine ⟨drew_has ?_, drew_has ?_, (bel_al (bel_al (bel_al (Below.refl _ _) _) _) _).drew⟩
  · have := (HasB.new (w.alloc o) t cs).below (bel_al (Below.refl _ _) (.cells cs'.toArray t'))
    rwa [World.size_alloc] at this
  · have := HasB.new ((w.alloc o).alloc (.cells cs.toArray t)) t' cs'
    rwa [World.size_alloc, World.size_alloc] at this
theorem rmade_1 (w : World) (n : Nat) (o : Obj) : RMade w n (.returned (.agg #[.slice (some ⟨w.heap.size + 1, 0, none⟩) n n, .slice (some ⟨w.heap.size + 1 + 1, 0, none⟩) n n])) (((w.alloc o).alloc (.cells ((List.replicate n (0 : Int)).map (Value.int .u8)).toArray 5)).alloc (.cells ((List.replicate n false).map Value.bool).toArray 4)).drew := by
  obtain ⟨h1, h2, h3⟩ := two_new w o 5 4 ((List.replicate n (0 : Int)).map (Value.int .u8)) ((List.replicate n false).map Value.bool)
  exact ⟨_, _, rfl, h1, h2, by omega, by omega, h3⟩
theorem rmade_2 (w : World) (n : Nat) (o : Obj) : RMade w n (.returned (.agg #[.slice (some ⟨w.heap.size + 1 + 1, 0, none⟩) n n, .slice (some ⟨w.heap.size + 1, 0, none⟩) n n])) (((w.alloc o).alloc (.cells ((List.replicate n false).map Value.bool).toArray 4)).alloc (.cells ((List.replicate n (0 : Int)).map (Value.int .u8)).toArray 5)).drew := by
  obtain ⟨h1, h2, h3⟩ := two_new w o 4 5 ((List.replicate n false).map Value.bool) ((List.replicate n (0 : Int)).map (Value.int .u8))
  exact ⟨_, _, rfl, h2, h1, by omega, by omega, h3⟩

theorem rNew_any (n : Nat) (hn : n ≤ 65536) (w : World) : Calls Try.prog 9 #[.int .i64 n] w (RMade w n) := by
  have m1 := make_u8 n (by omega)
  have m2 := make_bool n (by omega)
  go_enter Try.func9, Try.ntmps9
  go_wp2_with fail
  go_region
  · go_wp2
    refine bodyPost_ret (v := .agg #[.slice (some ⟨w.heap.size + 1, 0, none⟩) n n, .slice (some ⟨w.heap.size + 1 + 1, 0, none⟩) n n]) (by simp [results, Try.results9, go_sem]) rfl ?_
    rw [rep_u8, rep_bool]
    exact rmade_1 _ _ _
  · go_wp2
    refine bodyPost_ret (v := .agg #[.slice (some ⟨w.heap.size + 1 + 1, 0, none⟩) n n, .slice (some ⟨w.heap.size + 1, 0, none⟩) n n]) (by simp [results, Try.results9, go_sem]) rfl ?_
    rw [rep_u8, rep_bool]
    exact rmade_2 _ _ _
end Go.Proofs.Ytjcggpaiminecaa.Mm
