/- What a form's read of package isa answers: the registers and the number that bytes hold. -/
import Derived.Test.YtojpcijfipdiaaaIsaLay
import Derived.RegionTactic
import Derived.Laws.BitsAllLaws
import Derived.ChangeAlike
import Derived.BigRegion
import Derived.StillTailTactics
import Derived.Deep.QuietTactic
import Derived.BigQuiet
namespace Go.Proofs.Ytojpcijfipdiaaa
open Go.ChangeShapes Go.WideShapes Go.ChangeAt Go.RowKit
set_option linter.unusedVariables false

/-- a slice of bytes that reads as a list -/
def RowAt (w : World) (A : Option Addr) (cap : Nat) (l : List Int) : Prop :=
  l.length ≤ cap ∧ cap ≤ maxLen ∧ Bytes l ∧ (l ≠ [] → ∃ x, A = some x ∧ x.block < w.heap.size ∧ ∀ i, i < l.length → w.cell? (x.add i) = some (.int .u8 (l.getD i 0)))

theorem block_add (a : Addr) (n : Nat) : (a.add n).block = a.block := by unfold Addr.add; split <;> rfl
theorem kept3 {w : World} {a : Addr} {v : Value} (h : w.cell? a = some v) (hb : a.block < w.heap.size) (o1 o2 o3 : Obj) : (((w.alloc o1).alloc o2).alloc o3).cell? a = some v := by
  rw [World.cell?_alloc_lt _ _ _ (by simp; omega), World.cell?_alloc_lt _ _ _ (by simp; omega), World.cell?_alloc_lt _ _ _ hb, h]
theorem row_byte {l : List Int} (h : Bytes l) (k : Nat) (hk : k < l.length) : 0 ≤ l.getD k 0 ∧ l.getD k 0 ≤ 255 := by
  have e : l.getD k 0 = l[k] := by simp [List.getD, List.getElem?_eq_getElem hk]
  rw [e]; exact h _ (List.getElem_mem hk)

theorem numV_bd (l : List Int) (h : Bytes l) : 0 ≤ numV l ∧ numV l < 256 ^ l.length := by
  induction l with
  | nil => decide
  | cons x t ih =>
    have h1 := h x (by simp)
    have h2 := ih (fun y hy => h y (by simp [hy]))
    show 0 ≤ x + 256 * numV t ∧ x + 256 * numV t < 256 ^ (t.length + 1)
    rw [Int.pow_succ]
    omega
theorem numV_snoc (l : List Int) (x : Int) : numV (l ++ [x]) = numV l + 256 ^ l.length * x := by
  induction l with
  | nil => simp [numV]
  | cons y t ih =>
    show y + 256 * numV (t ++ [x]) = y + 256 * numV t + 256 ^ (t.length + 1) * x
    rw [ih, Int.pow_succ, Int.mul_add, ← Int.mul_assoc, Int.mul_comm 256 (256 ^ t.length), Int.add_assoc]
theorem numV_take (t : List Int) (k : Nat) (h : k < t.length) : numV (t.take (k + 1)) = numV (t.take k) + 256 ^ k * t.getD k 0 := by
  have e : t.getD k 0 = t[k] := by simp [List.getD, List.getElem?_eq_getElem h]
  rw [List.take_succ_eq_append_getElem h, numV_snoc, List.length_take, Nat.min_eq_left (by omega), e]
theorem take_byte {l : List Int} (h : Bytes l) (k : Nat) : Bytes (l.take k) := fun x hx => h x (List.mem_of_mem_take hx)

theorem or_join (mk bk : Int) (k : Nat) (hk : k < 4) (h0 : 0 ≤ mk) (h1 : mk < 256 ^ k) (h2 : 0 ≤ bk) (h3 : bk ≤ 255) : bits .or .u32 mk (bk * 2 ^ (8 * k) % 4294967296) = mk + 256 ^ k * bk := by
  rw [pow8]
  obtain ⟨x, rfl⟩ : ∃ n : Nat, mk = n := ⟨mk.toNat, by omega⟩
  obtain ⟨y, rfl⟩ : ∃ n : Nat, bk = n := ⟨bk.toNat, by omega⟩
  have hj : (x ||| y * 256 ^ k) = x + y * 256 ^ k := by
    rw [Nat.or_comm, Nat.add_comm]
    refine nat_join (8 * k) _ _ ?_ ?_
    · rw [Nat.pow_mul]; exact Nat.mul_mod_left _ _
    · rw [Nat.pow_mul]
      have h1' : (x : Int) < ((256 ^ k : Nat) : Int) := by rw [Int.natCast_pow]; exact h1
      exact Int.ofNat_lt.1 h1'
  have hy : y ≤ 255 := by omega
  have hm : (y : Int) * 256 ^ k % 4294967296 = ((y * 256 ^ k : Nat) : Int) ∧ y * 256 ^ k < 4294967296 ∧ x < 4294967296 := by
    obtain rfl | rfl | rfl | rfl : k = 0 ∨ k = 1 ∨ k = 2 ∨ k = 3 := by omega
    all_goals (refine ⟨?_, ?_, ?_⟩ <;> omega)
  rw [hm.1, u32_or_nat _ _ hm.2.2 hm.2.1, hj]
  rw [Int.natCast_add, Int.natCast_mul, Int.natCast_pow, Int.mul_comm (y : Int)]
  rfl

theorem set4 (W : World) (a b c d v : Value) (T : TypeId) (m g : Nat) (hg : g = W.heap.size) : ((W.alloc (.cells #[a, b, c, d] T)).drewN m).setCell ⟨g, 3, none⟩ v = (W.alloc (.cells #[a, b, c, v] T)).drewN m := by
  subst hg
  have e : (W.heap.push (.cells #[a, b, c, d] T)).modify W.heap.size (fun o => match o with
      | .cells c elem frozen => .cells (c.setIfInBounds 3 v) elem frozen
      | o => o) = W.heap.push (.cells #[a, b, c, v] T) := by
    apply Array.ext
    · simp
    · intro i h1 h2
      simp only [Array.getElem_modify, Array.getElem_push]
      by_cases hi : i < W.heap.size
      · rw [dif_pos hi, if_neg (by omega), dif_pos hi]
      · rw [dif_neg hi, if_pos (by simp at h2; omega), dif_neg hi]; rfl
  unfold World.setCell
  show ({ (W.alloc (.cells #[a, b, c, d] T)).drewN m with heap := (W.heap.push (.cells #[a, b, c, d] T)).modify W.heap.size (fun o => match o with
      | .cells c elem frozen => .cells (c.setIfInBounds 3 v) elem frozen
      | o => o) } : World) = _
  rw [e]; rfl

/-- the world, where k bytes of the number are read -/
def ReadRel (w : World) (fO : Obj) (op a b : Int) (n : Nat) (t : List Int) (i : Value) (w' : World) : Prop :=
  ∃ k m : Nat, k ≤ n ∧ i = .int .i64 k ∧ w' = (((w.alloc fO).alloc (.cells #[.int .i64 0, .int .i64 0, .int .i64 0, .int .u32 0] 36)).alloc (.cells #[.int .i64 op, .int .i64 a, .int .i64 b, .int .u32 (numV (t.take k))] 36)).drewN m

theorem below_drewN {B : Nat} {w w' : World} (h : Below B w w') (n : Nat) : Below B w (w'.drewN n) := ⟨h.os, h.tape, h.output, h.size, h.block⟩

theorem mk_bd {n k : Nat} {t : List Int} {mk : Int} (hlt : k < n) (hn : n ≤ 4) (hl : n ≤ t.length) (hby : Bytes t) (hmk : numV (t.take k) = mk) : 0 ≤ mk ∧ mk < 4294967296 := by
  have hv := numV_bd _ (take_byte hby k)
  rw [List.length_take, Nat.min_eq_left (by omega), hmk] at hv
  obtain rfl | rfl | rfl | rfl : k = 0 ∨ k = 1 ∨ k = 2 ∨ k = 3 := by omega
  all_goals (simp at hv; omega)

theorem readRel_step {w : World} {fO : Obj} {op a b : Int} {n k m g : Nat} {t : List Int} {mk bk : Int} (hlt : k < n) (hn : n ≤ 4) (hl : n ≤ t.length) (hby : Bytes t) (hg : g = w.heap.size + 2) (hmk : numV (t.take k) = mk) (hbk : t.getD k 0 = bk) :
    ReadRel w fO op a b n t (.int .i64 ((k : Int) + 1)) (((((w.alloc fO).alloc (.cells #[.int .i64 0, .int .i64 0, .int .i64 0, .int .u32 0] 36)).alloc (.cells #[.int .i64 op, .int .i64 a, .int .i64 b, .int .u32 mk] 36)).drewN m).setCell ⟨g, 3, none⟩
      (.int .u32 (bits .or .u32 mk (bk * 2 ^ (8 * k) % 4294967296)))) := by
  have hb := row_byte hby k (by omega)
  have hv := numV_bd _ (take_byte hby k)
  rw [List.length_take, Nat.min_eq_left (by omega), hmk] at hv
  rw [hbk] at hb
  rw [set4 _ _ _ _ _ _ _ _ _ (by simp [hg]), or_join mk bk k (by omega) hv.1 hv.2 hb.1 hb.2]
  exact ⟨k + 1, m, hlt, by simp, by rw [numV_take t k (by omega), hmk, hbk]⟩

theorem read_0 (fa fb fu op : Int) (n : Nat) (hu : ¬ 0 < fu) (hn : n ≤ 4) (t : List Int) (A : Option Addr) (cap : Nat) (w : World) (hr : RowAt w A cap t) (hl : n ≤ t.length) :
    Calls Try.prog 37 #[.agg #[.int .i64 fa, .int .i64 fb, .int .i64 fu, .int .i64 n], .int .i64 op, .slice A t.length cap] w
      fun e w' => e = .returned (.agg #[.int .i64 op, .int .i64 0, .int .i64 0, .int .u32 (numV (t.take n))]) ∧ Below w.heap.size w w' := by
  go_enter Try.func37, Try.ntmps37
  go_wp2_with fail
  go_loopw [34] (fun i w' => ReadRel w (.cells #[.int .i64 fa, .int .i64 fb, .int .i64 fu, .int .i64 n] 57) op 0 0 n t i w') (fun i _ => n - (intOf i).toNat)
  case atStart => exact ⟨0, 0, Nat.zero_le _, rfl, rfl⟩
  case round =>
    obtain ⟨k, m, hk, rfl, rfl⟩ := hrel
    by_cases hlt : k < n
    · obtain ⟨hl1, hl2, hby, hex⟩ := hr
      obtain ⟨x, rfl, hx, hc⟩ := hex (by intro h; subst h; simp at hl; omega)
      have hkl : k < t.length := by omega
      have hbd := row_byte hby k hkl
      have hck := kept3 (hc k hkl) (by rw [block_add]; exact hx) (.cells #[.int .i64 fa, .int .i64 fb, .int .i64 fu, .int .i64 n] 57) (.cells #[.int .i64 0, .int .i64 0, .int .i64 0, .int .u32 0] 36) (.cells #[.int .i64 op, .int .i64 0, .int .i64 0, .int .u32 (numV (t.take k))] 36)
      clear hc hex
      obtain ⟨bk, hbk⟩ : ∃ v, t.getD k 0 = v := ⟨_, rfl⟩
      rw [hbk] at hck hbd
      have HBK := Lib.hid hbk; clear hbk
      obtain ⟨hb0, hb1⟩ := hbd
      obtain ⟨mk, hmk⟩ : ∃ v, numV (t.take k) = v := ⟨_, rfl⟩
      rw [hmk] at hck ⊢
      have HMK := Lib.hid hmk; clear hmk
      obtain ⟨hm0, hm1⟩ := mk_bd hlt hn hl hby HMK.out
      have hkI : (k : Int) < (t.length : Int) := by omega
      go_wp2_with fail
      go_region
      go_wp2
      exact ⟨readRel_step hlt hn hl hby rfl HMK.out HBK.out, by simp [intOf]; omega⟩
    · have hkn : k = n := by omega
      have HK := Lib.hid hkn; clear hkn
      go_wp2
      rw [HK.out]
      refine bodyPost_ret (v := .agg #[.int .i64 op, .int .i64 0, .int .i64 0, .int .u32 (numV (t.take n))]) (by simp [results, Try.results37, go_sem]) rfl ⟨rfl, ?_⟩
      exact ((((below_drewN (bel_al (bel_al (bel_al (Below.refl _ _) _) _) _) m).setCell (by simp) _).setCell (by simp) _).setCell (by simp) _).setCell (by simp) _

theorem read_u (fa fb fu op : Int) (n : Nat) (hu : 0 < fu) (hu2 : fu ≤ 16) (hn : n ≤ 4) (h : Int) (t : List Int) (A : Option Addr) (cap : Nat) (w : World) (hr : RowAt w A cap (h :: t)) (hl : n ≤ t.length) :
    Calls Try.prog 37 #[.agg #[.int .i64 fa, .int .i64 fb, .int .i64 fu, .int .i64 n], .int .i64 op, .slice A (t.length + 1) cap] w
      fun e w' => e = .returned (.agg #[.int .i64 op, .int .i64 (h / fu), .int .i64 (h % fu), .int .u32 (numV (t.take n))]) ∧ Below w.heap.size w w' := by
  obtain ⟨hl1, hl2, hby, hex⟩ := hr
  obtain ⟨x, rfl, hx, hc⟩ := hex (by simp)
  have hh := hby h (by simp)
  obtain ⟨hh0, hh1⟩ := hh
  have hck := fun o => kept3 (hc 0 (by simp)) (by rw [block_add]; exact hx) (.cells #[.int .i64 fa, .int .i64 fb, .int .i64 fu, .int .i64 n] 57) (.cells #[.int .i64 0, .int .i64 0, .int .i64 0, .int .u32 0] 36) o
  simp only [List.getD_cons_zero, show x.add 0 = x by unfold Addr.add; simp] at hck
  have hsh : ∀ k, k < t.length → w.cell? ⟨x.block, x.off + 1 + k, none⟩ = some (.int .u8 (t.getD k 0)) := by
    intro k hk
    have := hc (k + 1) (by simp; omega)
    rw [show (⟨x.block, x.off + 1 + k, none⟩ : Addr) = x.add (k + 1) by unfold Addr.add; simp; omega, this]; simp
  have HC := Lib.hid hsh; clear hc hex hsh
  have hby' : Bytes t := fun y hy => hby y (by simp [hy])
  rw [List.length_cons] at hl1
  clear hby
  by_cases hcap : cap = 1
  · have hn0 : ¬ 0 < n := by omega
    obtain rfl : cap = 1 := hcap
    go_enter Try.func37, Try.ntmps37
    go_wp2_with fail
    go_region
    go_wp2_with fail
    go_loopw [34] (fun i w' => ReadRel w (.cells #[.int .i64 fa, .int .i64 fb, .int .i64 fu, .int .i64 n] 57) op (h / fu) (h % fu) n t i w') (fun i _ => n - (intOf i).toNat)
    case atStart => exact ⟨0, 1, Nat.zero_le _, rfl, rfl⟩
    case round =>
    obtain ⟨k, m, hk, rfl, rfl⟩ := hrel
    by_cases hlt : k < n
    · skip
      exfalso; omega
    · have hkn : k = n := by omega
      have HK := Lib.hid hkn; clear hkn
      clear hck
      go_wp2
      rw [HK.out]
      refine bodyPost_ret (v := .agg #[.int .i64 op, .int .i64 (h / fu), .int .i64 (h % fu), .int .u32 (numV (t.take n))]) (by simp [results, Try.results37, go_sem]) rfl ⟨rfl, ?_⟩
      exact ((((below_drewN (bel_al (bel_al (bel_al (Below.refl _ _) _) _) _) m).setCell (by simp) _).setCell (by simp) _).setCell (by simp) _).setCell (by simp) _
  · skip
    go_enter Try.func37, Try.ntmps37
    go_wp2_with fail
    go_region
    go_wp2_with fail
    go_loopw [34] (fun i w' => ReadRel w (.cells #[.int .i64 fa, .int .i64 fb, .int .i64 fu, .int .i64 n] 57) op (h / fu) (h % fu) n t i w') (fun i _ => n - (intOf i).toNat)
    case atStart => exact ⟨0, 1, Nat.zero_le _, rfl, rfl⟩
    case round =>
    obtain ⟨k, m, hk, rfl, rfl⟩ := hrel
    by_cases hlt : k < n
    · skip
      have hkl : k < t.length := by omega
      have hbd := row_byte hby' k hkl
      have hck2 := kept3 (HC.out k hkl) hx (.cells #[.int .i64 fa, .int .i64 fb, .int .i64 fu, .int .i64 n] 57) (.cells #[.int .i64 0, .int .i64 0, .int .i64 0, .int .u32 0] 36) (.cells #[.int .i64 op, .int .i64 (h / fu), .int .i64 (h % fu), .int .u32 (numV (t.take k))] 36)
      obtain ⟨bk, hbk⟩ : ∃ v, t.getD k 0 = v := ⟨_, rfl⟩
      rw [hbk] at hck2 hbd
      have HBK := Lib.hid hbk; clear hbk
      obtain ⟨hb0, hb1⟩ := hbd
      obtain ⟨mk, hmk⟩ : ∃ v, numV (t.take k) = v := ⟨_, rfl⟩
      rw [hmk] at hck2 ⊢
      have HMK := Lib.hid hmk; clear hmk
      obtain ⟨hm0, hm1⟩ := mk_bd hlt hn hl hby' HMK.out
      have hkI : (k : Int) < (t.length : Int) := by omega
      clear hck
      go_wp2_with fail
      go_region
      go_wp2
      exact ⟨readRel_step hlt hn hl hby' rfl HMK.out HBK.out, by simp [intOf]; omega⟩
    · have hkn : k = n := by omega
      have HK := Lib.hid hkn; clear hkn
      clear hck
      go_wp2
      rw [HK.out]
      refine bodyPost_ret (v := .agg #[.int .i64 op, .int .i64 (h / fu), .int .i64 (h % fu), .int .u32 (numV (t.take n))]) (by simp [results, Try.results37, go_sem]) rfl ⟨rfl, ?_⟩
      exact ((((below_drewN (bel_al (bel_al (bel_al (Below.refl _ _) _) _) _) m).setCell (by simp) _).setCell (by simp) _).setCell (by simp) _).setCell (by simp) _
end Go.Proofs.Ytojpcijfipdiaaa
