/- Merged by wip/tools/regroup: IsaRef, IsaRefLay, IsaRefRead. -/
import Derived.Test.YteefmjhemhlapaaGreatZIsB
namespace Go.Proofs.YteefmjhemhlapaaGreat
open Go.ChangeShapes Go.WideShapes Go.ChangeAt Go.RowKit
set_option linter.unusedVariables false
set_option maxRecDepth 10000
end Go.Proofs.YteefmjhemhlapaaGreat
namespace Go.Proofs.YteefmjhemhlapaaGreat
open Go.ChangeShapes Go.WideShapes Go.ChangeAt Go.RowKit
set_option linter.unusedVariables false
set_option maxRecDepth 10000
end Go.Proofs.YteefmjhemhlapaaGreat
namespace Go.Proofs.YteefmjhemhlapaaGreat
open Go.ChangeShapes Go.WideShapes Go.ChangeAt Go.RowKit
set_option linter.unusedVariables false
set_option maxRecDepth 10000
theorem Two.ofD {w : World} {a b c d a' b' c' d' : Value} {T T' : TypeId} {m : Nat} {w1 : World} (hb : Below (((w.alloc (.cells #[a, b, c, d] T)).alloc (.cells #[a', b', c', d'] T')).drewN m).heap.size (((w.alloc (.cells #[a, b, c, d] T)).alloc (.cells #[a', b', c', d'] T')).drewN m) w1) :
    Two w w.heap.size (w.heap.size + 1) a b c d a' b' c' d' w1 :=
  Two.of ((below_drewN (Below.refl _ _) m).trans hb)
theorem kept2w {w : World} {a : Addr} {v : Value} (h : w.cell? a = some v) (hb : a.block < w.heap.size) (o1 o2 : Obj) : ((w.alloc o1).alloc o2).cell? a = some v := by
  rw [World.cell?_alloc_lt _ _ _ (by simp; omega), World.cell?_alloc_lt _ _ _ hb, h]
theorem v_num {k : IntKind} {a b : Int} (h : a = b) : Value.int k a = .int k b := by rw [h]
def RReadRel (w : World) (op a : Int) (t : List Int) (top : Nat) (i : Value) (w' : World) : Prop :=
  ∃ j m q : Nat, j ≤ 4 ∧ q + j = top ∧ i = .int .i64 q ∧ w' = ((w.alloc (.cells #[.int .i64 0, .int .i64 0, .int .i64 0, .int .u32 0] 134)).alloc (.cells #[.int .i64 op, .int .i64 a, .int .i64 0, .int .u32 (numV (t.drop (4 - j)))] 134)).drewN m
theorem numV_drop (t : List Int) (ht : t.length = 4) (j : Nat) (hj : j < 4) : numV (t.drop (4 - (j + 1))) = t.getD (3 - j) 0 + 256 * numV (t.drop (4 - j)) := by
  have h : 3 - j < t.length := by omega
  have e : t.getD (3 - j) 0 = t[3 - j] := by simp [List.getD, List.getElem?_eq_getElem h]
  rw [show 4 - (j + 1) = 3 - j by omega, List.drop_eq_getElem_cons h, show 3 - j + 1 = 4 - j by omega, e]
  rfl
theorem numV_small (t : List Int) (ht : t.length = 4) (hb : Bytes t) (j : Nat) (hj : j < 4) : 0 ≤ numV (t.drop (4 - j)) ∧ numV (t.drop (4 - j)) ≤ 16777215 := by
  have h := numV_bd (t.drop (4 - j)) (fun z hz => hb z (List.mem_of_mem_drop hz))
  rw [List.length_drop, ht, show 4 - (4 - j) = j by omega] at h
  obtain rfl | rfl | rfl | rfl : j = 0 ∨ j = 1 ∨ j = 2 ∨ j = 3 := by omega
  all_goals omega
theorem rreadRel_step {w : World} {op a : Int} {t : List Int} {top j m q g : Nat} {mk bk : Int} (hlt : j < 4) (ht : t.length = 4) (hq : q + j = top) (hq0 : 0 < q) (hg : g = w.heap.size + 1) (hmk : numV (t.drop (4 - j)) = mk) (hbk : t.getD (3 - j) 0 = bk) :
    RReadRel w op a t top (.int .i64 ((q : Int) - 1)) ((((w.alloc (.cells #[.int .i64 0, .int .i64 0, .int .i64 0, .int .u32 0] 134)).alloc (.cells #[.int .i64 op, .int .i64 a, .int .i64 0, .int .u32 mk] 134)).drewN m).setCell ⟨g, 3, none⟩ (.int .u32 (256 * mk + bk))) := by
  rw [set4 _ _ _ _ _ _ _ _ _ (by simp [hg])]
  refine ⟨j + 1, m, q - 1, hlt, by omega, by rw [show ((q - 1 : Nat) : Int) = (q : Int) - 1 by omega], ?_⟩
  rw [numV_drop t ht j hlt, hmk, hbk, Int.add_comm bk]
set_option maxHeartbeats 4000000 in
theorem rRead_6 (op c : Int) (t : List Int) (x : Addr) (len cap k : Nat) (ok : Bool) (h0 : 0 ≤ op) (h1 : op ≤ 255) (hl : len ≤ 20000) (hk : k + 6 ≤ len) (w : World) (hx : x.block < w.heap.size) (hc : w.cell? (x.add k) = some (.int .u8 op)) (hcc : w.cell? ⟨x.block, x.off + (k + 1), none⟩ = some (.int .u8 c)) (g0 : 0 ≤ c) (g1 : c ≤ 255) (ht4 : t.length = 4) (ht : Bytes t) (hct : ∀ i, i < 4 → w.cell? (x.add (k + 2 + i)) = some (.int .u8 (t.getD i 0)))
    (c2 : ∀ w, Calls Tryz.prog 82 #[.int .i64 op] w fun e w' => e = .returned (.int .i64 6) ∧ w = w')
    (c1 : ∀ w, Calls Tryz.prog 93 #[.agg #[.int .i64 op, .int .i64 (c), .int .i64 (0), .int .u32 (numV t)]] w fun e w' => e = .returned (.bool ok) ∧ Below w.heap.size w w') :
    Calls Tryz.prog 81 #[.slice (some x) len cap, .int .i64 k] w fun e w' => e = .returned (if ok then .tuple #[.agg #[.int .i64 op, .int .i64 (c), .int .i64 (0), .int .u32 (numV t)], .int .i64 6] else noIns) ∧ Below w.heap.size w w' := by
  have C1 := Lib.hid c1; clear c1
  have C2 := Lib.hid c2; clear c2
  have hkI : (k : Int) < (len : Int) := by omega
  have hck : (w.alloc (.cells #[.int .i64 0, .int .i64 0, .int .i64 0, .int .u32 0] 134)).cell? (x.add k) = some (.int .u8 op) := by
    rw [World.cell?_alloc_lt _ _ _ (by rw [block_add]; exact hx)]; exact hc
  clear hc
  have hc1 := fun o => kept2w hcc hx (.cells #[.int .i64 0, .int .i64 0, .int .i64 0, .int .u32 0] 134) o
  have e1 : (k : Int) + 1 < (len : Int) := by omega
  go_enter Tryz.func81, Tryz.ntmps81
  go_wp2_with fail
  refine (C2.out _).mono ?_; rintro e w' ⟨rfl, rfl⟩
  go_wp2_with fail
  go_loopw [9] (fun i w' => RReadRel w op (c) t (k + 5) i w') (fun i _ => (intOf i).toNat + 1)
  case atStart => exact ⟨0, 0, k + 5, by omega, by omega, v_num (by simp <;> omega), by rw [show t.drop (4 - 0) = [] from List.drop_eq_nil_of_le (by omega)]; rfl⟩
  case round =>
  obtain ⟨j, m, q, hj, hq, rfl, rfl⟩ := hrel
  by_cases hlt : j < 4
  · have hqk : q = k + 2 + (3 - j) := by omega
    have hbd := row_byte ht (3 - j) (by omega)
    have hck2 := fun o => kept2w (hct (3 - j) (by omega)) (by rw [block_add]; exact hx) (.cells #[.int .i64 0, .int .i64 0, .int .i64 0, .int .u32 0] 134) o
    rw [← hqk] at hck2
    have hsm := numV_small t ht4 ht j hlt
    obtain ⟨bk, hbk⟩ : ∃ v, t.getD (3 - j) 0 = v := ⟨_, rfl⟩
    rw [hbk] at hbd
    have hck3 := hck2
    simp only [hbk] at hck3
    clear hck2
    have HBK := Lib.hid hbk; clear hbk
    obtain ⟨b0, b1⟩ := hbd
    obtain ⟨mk, hmk⟩ : ∃ v, numV (t.drop (4 - j)) = v := ⟨_, rfl⟩
    rw [hmk] at hsm ⊢
    have HMK := Lib.hid hmk; clear hmk
    obtain ⟨m0, m1⟩ := hsm
    have hlo : (k : Int) + 2 ≤ (q : Int) := by omega
    have hhi : (q : Int) < (len : Int) := by omega
    have HQ := Lib.hid hq; clear hq hqk
    have HQ1 : 0 < q := by omega
    clear hck
    have u1 : IntKind.u32.wrap (256 * mk) = 256 * mk := IntWalk.u32_in _ (by omega)
    have u2 : IntKind.u32.wrap (256 * mk + bk) = 256 * mk + bk := IntWalk.u32_in _ (by omega)
    go_wp2_with fail
    go_region
    go_wp2
    exact ⟨rreadRel_step hlt ht4 HQ.out HQ1 rfl HMK.out HBK.out, by simp [intOf]; omega⟩
  · have hj4 : j = 4 := by omega
    have hlo : (q : Int) < (k : Int) + 2 := by omega
    have e4 : numV (t.drop (4 - j)) = numV t := by rw [hj4]; rfl
    rw [e4]
    clear hck hq hj4 e4
    go_wp2_with fail
    refine (C1.out _).mono ?_; rintro e w5 ⟨rfl, hb5⟩
    have K := Two.ofD hb5
    obtain ⟨⟨g0, ⟨r1, r2, r3, r4⟩, f1, f2, f3, f4⟩, ⟨y0, ⟨y1, y2, y3, y4⟩, _⟩, hbw⟩ := K
    have HB := Lib.hid hbw; clear hbw hb5
    cases ok
    · go_wp2_with fail
      exact bodyPost_ret (v := noIns) (by simp [results, Tryz.results81, go_sem, r1, r2, r3, r4]; rfl) rfl ⟨rfl, bel_set4 HB.out _ _ _ _⟩
    · go_wp2_with fail
      exact bodyPost_ret (v := .tuple #[.agg #[.int .i64 op, .int .i64 (c), .int .i64 (0), .int .u32 (numV t)], .int .i64 6]) (by simp [results, Tryz.results81, go_sem, r1, r2, r3, r4]) rfl ⟨rfl, bel_set4 HB.out _ _ _ _⟩
theorem six (op c : Int) (t : List Int) (x : Addr) (len cap k : Nat) (ok : Bool) (hl : len ≤ 20000) (w : World) (hx : x.block < w.heap.size) (hck : w.cell? (x.add k) = some (.int .u8 op)) (h4 : 4 ≤ t.length) (htl : t.length + 1 = len - (k + 1))
    (hbt : Bytes (c :: t)) (hcell : ∀ i, i < (c :: t).length → w.cell? (x.add (k + 1 + i)) = some (.int .u8 ((c :: t).getD i 0)))
    (hs2 : ∀ w, Calls Tryz.prog 82 #[.int .i64 op] w fun e w' => e = .returned (.int .i64 6) ∧ w = w') (o0 : 0 ≤ op) (o1 : op ≤ 255)
    (hR : ∀ w, Calls Tryz.prog 93 #[.agg #[.int .i64 op, .int .i64 (xA 1 (c :: t)), .int .i64 (xB 1 (c :: t)), .int .u32 (xI 1 4 (c :: t))]] w fun e w' => e = .returned (.bool ok) ∧ Below w.heap.size w w') :
    Calls Tryz.prog 81 #[.slice (some x) len cap, .int .i64 k] w
      fun e w' => e = .returned (if ok then .tuple #[.agg #[.int .i64 op, .int .i64 (xA 1 (c :: t)), .int .i64 (xB 1 (c :: t)), .int .u32 (xI 1 4 (c :: t))], .int .i64 6] else noIns) ∧ Below w.heap.size w w' := by
  have hc1 := hcell 0 (by simp)
  have hcb := hbt c (by simp)
  have ea : xA 1 (c :: t) = c := by show c / 1 = c; omega
  have eb : xB 1 (c :: t) = 0 := by show c % 1 = 0; omega
  have ei : xI 1 4 (c :: t) = numV (t.take 4) := rfl
  rw [ea, eb, ei] at hR ⊢
  have hl4 : (t.take 4).length = 4 := by rw [List.length_take]; omega
  exact rRead_6 op c (t.take 4) x len cap k ok o0 o1 hl (by omega) w hx hck hc1 hcb.1 hcb.2 hl4 (take_byte (fun z hz => hbt z (by simp [hz])) 4) (fun i hi => by
    have := hcell (i + 1) (by simp; omega)
    rw [show k + 1 + (i + 1) = k + 2 + i by omega] at this
    rw [this]
    simp [List.getD, hi]) hs2 hR
end Go.Proofs.YteefmjhemhlapaaGreat
