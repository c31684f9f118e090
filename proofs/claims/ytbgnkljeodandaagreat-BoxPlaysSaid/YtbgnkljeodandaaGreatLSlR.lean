/- Package slab as it landed: Right, of one region alone. -/
import Derived.Test.YtbgnkljeodandaaGreatLBaM
import Derived.Test.YtbgnkljeodandaaGreatLBxA
import Derived.Test.YtbgnkljeodandaaGreatLVeC
import Derived.Deep.Slices
import Derived.Deep.Fields
import Derived.ChangeSame
namespace Go.Proofs.YtbgnkljeodandaaGreat.Mm
open Go.ChangeShapes Go.WideShapes Go.ChangeAt Go.RowKit
set_option linter.unusedVariables false
set_option linter.unusedSimpArgs false

def rgWf (x : Rg) : Prop := (-9223372036854775808 ≤ x.1 ∧ x.1 ≤ 9223372036854775807) ∧ (-9223372036854775808 ≤ x.2 ∧ x.2 ≤ 9223372036854775807)
structure RgAt (w : World) (p : Addr) (x : Rg) : Prop where
 c0 : w.cell? p = some (.int .i64 x.1)
 c1 : w.cell? ⟨p.block, p.off + 1, none⟩ = some (.int .i64 x.2)
def RgRow (w : World) (A : Option Addr) (cap : Nat) (l : List Rg) : Prop :=
 l.length ≤ cap ∧ cap ≤ maxLen ∧ (∀ x ∈ l, rgWf x) ∧ (l ≠ [] → ∃ p, A = some p ∧ p.block < w.heap.size ∧ ∀ i, i < l.length → RgAt w (p.add (i * 2)) (l.getD i (0, 0)))
theorem RgAt.below {w w' : World} {p : Addr} {x : Rg} (h : RgAt w p x) (hp : p.block < w.heap.size) (b : Below w.heap.size w w') : RgAt w' p x :=
 ⟨by rw [b.cell hp]; exact h.c0, (b.cell (p := ⟨p.block, p.off + 1, none⟩) hp).trans h.c1⟩
theorem RgRow.below {w w' : World} {A : Option Addr} {cap : Nat} {l : List Rg} (h : RgRow w A cap l) (b : Below w.heap.size w w') : RgRow w' A cap l := by
 obtain ⟨h1, h2, h3, h4⟩ := h
 refine ⟨h1, h2, h3, fun hn => ?_⟩
 obtain ⟨p, hp, hb, hc⟩ := h4 hn
 exact ⟨p, hp, Nat.lt_of_lt_of_le hb b.size, fun i hi => (hc i hi).below (by rw [block_add]; exact hb) b⟩
theorem below_drewG {B : Nat} {w w' : World} (h : Below B w w') : Below B w w'.drew := ⟨h.os, h.tape, h.output, h.size, h.block⟩
theorem take_snocG (L : List Rg) (k : Nat) (h : k < L.length) : L.take (k + 1) = L.take k ++ [L.getD k (0, 0)] := by
 rw [List.take_add_one, List.getD_eq_getElem?_getD, List.getElem?_eq_getElem h]; rfl
theorem rg_getD {L : List Rg} (h : ∀ x ∈ L, rgWf x) (k : Nat) (hk : k < L.length) : rgWf (L.getD k (0, 0)) := by
 rw [List.getD_eq_getElem?_getD, List.getElem?_eq_getElem hk]; exact h _ (List.getElem_mem hk)
theorem sright_at {L : List Rg} {m : Int} {i : Nat} (h : RightP L m) (hi : i < L.length) : regB m (L.getD i (0, 0)) = true :=
 h.reg _ (by rw [List.getD_eq_getElem?_getD, List.getElem?_eq_getElem hi]; exact List.getElem_mem _)
theorem take_getDG (L : List Rg) {i k : Nat} (h : k < i) : (L.take i).getD k (0, 0) = L.getD k (0, 0) := by
 rw [List.getD_eq_getElem?_getD, List.getD_eq_getElem?_getD, List.getElem?_take_of_lt h]
theorem right_snoc {L : List Rg} {m : Int} {i : Nat} (h : RightP (L.take i) m) (hi : i < L.length) (hr : regB m (L.getD i (0, 0)) = true) (hb : ∀ q, q < i → Bel64 (L.getD q (0, 0)) (L.getD i (0, 0))) : RightP (L.take (i + 1)) m := by
  rw [take_snocG L i hi]
  refine ⟨h.lo, h.hi, fun r hm => ?_, List.pairwise_append.2 ⟨h.ris, by simp, fun a ha b hb' => ?_⟩⟩
  · rcases List.mem_append.1 hm with k | k
    · exact h.reg r k
    · rw [List.mem_singleton.1 k]; exact hr
  · rw [List.mem_singleton.1 hb']
    obtain ⟨q, hq, rfl⟩ := List.mem_iff_getElem.1 ha
    have hqi : q < i := by have := hq; rw [List.length_take] at this; omega
    have e : (L.take i)[q] = L.getD q (0, 0) := by
      rw [← take_getDG L hqi, List.getD_eq_getElem?_getD, List.getElem?_eq_getElem hq]; rfl
    rw [e]; exact hb q hqi
theorem pow_andS (s : Nat) (h1 : 128 ≤ s) (h2 : s ≤ 16384) : (((s &&& (s - 1) : Nat) : Int) == 0) = powS s := by
  have hc : s = 128 ∨ s = 256 ∨ s = 512 ∨ s = 1024 ∨ s = 2048 ∨ s = 4096 ∨ s = 8192 ∨ s = 16384 ∨ (powS s = false ∧ ∃ k, 2 ^ k < s ∧ s < 2 ^ (k + 1)) := by
    have : s = 128 ∨ s = 256 ∨ s = 512 ∨ s = 1024 ∨ s = 2048 ∨ s = 4096 ∨ s = 8192 ∨ s = 16384 ∨ (s ≠ 128 ∧ s ≠ 256 ∧ s ≠ 512 ∧ s ≠ 1024 ∧ s ≠ 2048 ∧ s ≠ 4096 ∧ s ≠ 8192 ∧ s ≠ 16384) := by omega
    rcases this with h | h | h | h | h | h | h | h | ⟨n1, n2, n3, n4, n5, n6, n7, n8⟩
    · exact .inl h
    · exact .inr (.inl h)
    · exact .inr (.inr (.inl h))
    · exact .inr (.inr (.inr (.inl h)))
    · exact .inr (.inr (.inr (.inr (.inl h))))
    · exact .inr (.inr (.inr (.inr (.inr (.inl h)))))
    · exact .inr (.inr (.inr (.inr (.inr (.inr (.inl h))))))
    · exact .inr (.inr (.inr (.inr (.inr (.inr (.inr (.inl h)))))))
    · refine .inr (.inr (.inr (.inr (.inr (.inr (.inr (.inr ⟨?_, ?_⟩)))))))
      · unfold powS; simp; omega
      · have : (128 < s ∧ s < 256) ∨ (256 < s ∧ s < 512) ∨ (512 < s ∧ s < 1024) ∨ (1024 < s ∧ s < 2048) ∨ (2048 < s ∧ s < 4096) ∨ (4096 < s ∧ s < 8192) ∨ (8192 < s ∧ s < 16384) := by omega
        rcases this with h | h | h | h | h | h | h
        · exact ⟨7, h⟩
        · exact ⟨8, h⟩
        · exact ⟨9, h⟩
        · exact ⟨10, h⟩
        · exact ⟨11, h⟩
        · exact ⟨12, h⟩
        · exact ⟨13, h⟩
  rcases hc with rfl | rfl | rfl | rfl | rfl | rfl | rfl | rfl | ⟨hp, k, h3, h4⟩
  · exact by rw [and_pow0 7]; rfl
  · exact by rw [and_pow0 8]; rfl
  · exact by rw [and_pow0 9]; rfl
  · exact by rw [and_pow0 10]; rfl
  · exact by rw [and_pow0 11]; rfl
  · exact by rw [and_pow0 12]; rfl
  · exact by rw [and_pow0 13]; rfl
  · exact by rw [and_pow0 14]; rfl
  · have := and_pow h3 h4
    rw [hp]
    generalize s &&& (s - 1) = z at *
    simp; omega
theorem mayBe_sS (s : Int) (w : World) : Calls Tryz.prog 56 #[.int .i64 s] w fun e w' => e = .returned (.bool (powS s)) ∧ w = w' := by
  by_cases h : 128 ≤ s ∧ s ≤ 16384
  · obtain ⟨n, rfl⟩ := Int.eq_ofNat_of_zero_le (show (0 : Int) ≤ s by omega)
    exact may_in n (by omega) (by omega) _ (pow_andS n (by omega) (by omega)) w
  · have : powS s = false := by unfold powS; simp; omega
    rw [this]
    exact may_not s h w
theorem fits_0 (s : Int) (w : World) : Calls Tryz.prog 36 #[.int .i64 0, .int .i64 s] w fun e w' => e = .returned (.bool (powS s)) ∧ w = w' := by
  have M := mayBe_sS s w
  rcases Bool.eq_false_or_eq_true (powS s) with h | h
  · obtain ⟨h1, h2⟩ := powS_pos h
    have hd : s.tdiv 2 = s / 2 := Int.tdiv_eq_ediv_of_nonneg (by omega)
    have hw1 : IntKind.i64.wrap (s / 2) = s / 2 := IntWalk.i64_in _ (by omega)
    have hw2 : IntKind.i64.wrap (s / 2 - 32) = s / 2 - 32 := IntWalk.i64_in _ (by omega)
    have hd2 : decide (32 ≤ s / 2) = true := by simp; omega
    rw [h] at M ⊢; clear h
    replace M := Lib.hid M
    generalize s / 2 = d at *
    go_enter Tryz.func36, Tryz.ntmps36
    go_wp2_with fail
    refine M.out.mono ?_; rintro e w2 ⟨rfl, rfl⟩
    go_wp2
    go_ret
    exact ⟨rfl, rfl⟩
  · rw [h] at M ⊢; clear h
    replace M := Lib.hid M
    go_enter Tryz.func36, Tryz.ntmps36
    go_wp2_with fail
    refine M.out.mono ?_; rintro e w2 ⟨rfl, rfl⟩
    go_wp2
    go_ret
    exact ⟨rfl, rfl⟩
theorem smay_any (s : Int) (w : World) : Calls Tryz.prog 71 #[.int .i64 s] w fun e w' => e = .returned (.bool (powS s)) ∧ w = w' := by
 have M := Lib.hid (fits_0 s)
 generalize powS s = q at *
 go_enter Tryz.func71, Tryz.ntmps71
 go_wp2_with fail
 refine (M.out _).mono ?_; rintro e w2 ⟨rfl, rfl⟩
 go_wp2
 go_ret
 exact ⟨rfl, rfl⟩
theorem w64 {x : Int} (h : -9223372036854775808 ≤ x ∧ x ≤ 9223372036854775807) : wrap64 x = x := by unfold wrap64; omega
theorem slies_any (x : Rg) (n : Int) (hx : rgWf x) (hn : 0 ≤ n ∧ n ≤ 65536) (w : World) :
    Calls Tryz.prog 57 #[.agg #[.int .i64 x.1, .int .i64 x.2], .int .i64 n] w fun e w' => e = .returned (.bool (regB n x)) ∧ Below w.heap.size w w' := by
  obtain ⟨b, s⟩ := x
  unfold regB rgWf at *
  simp only at hx ⊢
  have M := smay_any s
  have B0 := Lib.hid (bel_al (Below.refl _ w) (.cells #[.int .i64 b, .int .i64 s] 31))
  rcases Bool.eq_false_or_eq_true (powS s) with h | h
  · obtain ⟨h1, h2⟩ := powS_pos h
    rw [h] at M ⊢; clear h
    replace M := Lib.hid M
    by_cases k1 : 0 < b
    · have htm : b.tmod s = b % s := Int.tmod_eq_emod_of_nonneg (by omega)
      have hz : (s == 0) = false := by simp; omega
      have e0 := Int.emod_nonneg b (by omega : s ≠ 0)
      have e1 := Int.emod_lt_of_pos b (by omega : 0 < s)
      have hsb : b % s = 0 → s ≤ b := fun h => by
        refine Int.not_lt.1 fun q => ?_
        rw [Int.emod_eq_of_lt (by omega) q] at h; omega
      generalize hd : b % s = d at *
      have w1 : wrap64 (n - 64 - s) = n - 64 - s := w64 (by omega)
      by_cases k3 : d = 0
      · subst k3
        have hs2 := hsb rfl
        have e : (true && decide (s ≤ b) && decide (True) && decide (b + s + 64 ≤ n)) = decide (b ≤ n - 64 - s) := by
          rw [decide_eq_true hs2]; simp only [decide_true, Bool.true_and]; exact decide_eq_decide.2 (by omega)
        have E := Lib.hid e
        clear hsb e
        go_enter Tryz.func57, Tryz.ntmps57
        go_wp2_with fail
        refine (M.out _).mono ?_; rintro e w2 ⟨rfl, rfl⟩
        go_wp2
        go_ret
        exact ⟨ret_bool (by simpa using E.out.symm), B0.out⟩
      · have k3' : (d == 0) = false := by simpa using k3
        have e : (true && decide (s ≤ b) && decide (d = 0) && decide (b + s + 64 ≤ n)) = false := by simp [k3]
        rw [e]; clear e hsb
        go_enter Tryz.func57, Tryz.ntmps57
        go_wp2_with fail
        refine (M.out _).mono ?_; rintro e w2 ⟨rfl, rfl⟩
        go_wp2
        go_ret
        exact ⟨rfl, B0.out⟩
    · have e : (true && decide (s ≤ b) && decide (b % s = 0) && decide (b + s + 64 ≤ n)) = false := by rw [decide_eq_false (by omega : ¬ s ≤ b)]; simp
      rw [e]; clear e
      go_enter Tryz.func57, Tryz.ntmps57
      go_wp2_with fail
      refine (M.out _).mono ?_; rintro e w2 ⟨rfl, rfl⟩
      go_wp2
      go_ret
      exact ⟨rfl, B0.out⟩
  · rw [h] at M ⊢; clear h
    replace M := Lib.hid M
    go_enter Tryz.func57, Tryz.ntmps57
    go_wp2_with fail
    refine (M.out _).mono ?_; rintro e w2 ⟨rfl, rfl⟩
    go_wp2
    go_ret
    exact ⟨rfl, B0.out⟩
set_option maxRecDepth 10000 in
set_option maxHeartbeats 4000000 in
theorem right_in1 (A : Option Addr) (cap n : Nat) (L : List Rg) (m : Int) (hl : L.length = n) (hn : n = 1) (hm0 : 0 ≤ m) (hm1 : m ≤ 65536) (w : World) (R : RgRow w A cap L) :
    Calls Tryz.prog 37 #[.slice A n cap, .int .i64 m] w fun e w' => e = .returned (.bool (rgtB L m)) ∧ Below w.heap.size w w' := by
  have RR := Lib.hid R
  have HL := Lib.hid hl
  have HW := Lib.hid R.2.2.1
  have NO := Lib.hid (fun (h : ¬ RightP L m) => rgt_no.2 h)
  have YES := Lib.hid (fun (h : RightP L m) => rgt_iff.2 h)
  have B0 := Lib.hid (Below.refl w.heap.size w)
  clear R hl
  generalize rgtB L m = q at *
  go_enter Tryz.func37, Tryz.ntmps37
  go_wp2_with fail
  go_loopw [15] (fun v wr => ∃ (k : Nat), v = .int .i64 k ∧ k ≤ n ∧ Hid (RightP (L.take k) m) ∧ Hid (Below w.heap.size w wr)) (fun v _ => n - (intOf v).toNat)
  case atStart => exact ⟨0, rfl, by omega, Lib.hid (by simpa using right_nil hm0 hm1), B0⟩
  case round =>
    obtain ⟨k, rfl, hk, RP, HB⟩ := hrel
    by_cases hlt : k < n
    · obtain ⟨x, rfl, hxb, hc⟩ := (RR.out.below HB.out).2.2.2 (by intro e; have := HL.out; rw [e] at this; simp at this; omega)
      have c0 := (hc k (by rw [HL.out]; exact hlt)).c0
      have c1 := (hc k (by rw [HL.out]; exact hlt)).c1
      have YW := Lib.hid (rg_getD HW.out k (by rw [HL.out]; exact hlt))
      have NR := Lib.hid (fun (h : regB m (L.getD k (0, 0)) = false) => NO.out (fun hr => by have := sright_at hr (by rw [HL.out]; exact hlt); rw [h] at this; cases this))
      have SN := Lib.hid (fun h1 h2 => right_snoc RP.out (by rw [HL.out]; exact hlt) h1 h2)
      have LC := Lib.hid (fun w => slies_any (L.getD k (0, 0)) m YW.out ⟨hm0, hm1⟩ w)
      have RX := Lib.hid (fun j (hj : j < k) => (by rw [← take_getDG L hj]; exact sright_at RP.out (by rw [List.length_take, HL.out]; omega) : regB m (L.getD j (0, 0)) = true))
      have RB := Lib.hid (fun j q (h : q < j) (hj : j < k) => (by rw [← take_getDG L hj, ← take_getDG L (Nat.lt_trans h hj)]; exact ris_getD RP.out.ris h (by rw [List.length_take, HL.out]; omega) : Bel64 (L.getD q (0, 0)) (L.getD j (0, 0))))
      have HC2 := Lib.hid hc
      have NB := Lib.hid (fun j (hj : j < k) (h : ¬ Bel64 (L.getD j (0, 0)) (L.getD k (0, 0))) => NO.out (fun hr => h (ris_getD hr.ris hj (by rw [HL.out]; exact hlt))))
      clear hc RP YES NO
      generalize hy : L.getD k (0, 0) = y at *
      clear hy
      obtain ⟨ya, yb⟩ := y
      simp only at c0 c1 LC
      have HY := Lib.hid (HasB.new wr 31 [.int .i64 ya, .int .i64 yb])
      have hW2 : wr.alloc (.cells #[.int .i64 ya, .int .i64 yb] 31) = wr.alloc (.cells [.int .i64 ya, .int .i64 yb].toArray 31) := rfl
      rw [← hW2] at HY
      clear hW2
      have BA := Lib.hid (bel_al (Below.refl wr.heap.size wr) (.cells #[.int .i64 ya, .int .i64 yb] 31))
      have B2 := Lib.hid (bel_al HB.out (.cells #[.int .i64 ya, .int .i64 yb] 31))
      obtain rfl : k = 0 := by omega
      clear RX RB HC2 NB
      have e0 : x.add (0 * 2) = x := by simp [Addr.add]
      rw [e0] at c0 c1
      go_wp2_with fail
      clear c0 c1
      generalize wr.alloc (.cells #[.int .i64 ya, .int .i64 yb] 31) = ws at *
      generalize wr.heap.size = g at *
      have KS := Lib.hid (fun (w' : World) (b : Below ws.heap.size ws w') => (show (w'.cell? ⟨g, 0, none⟩ = some (.int .i64 ya) ∧ w'.cell? ⟨g, 1, none⟩ = some (.int .i64 yb)) ∧ Below ws.heap.size ws w' from ⟨⟨(HY.out.below b).cell 0, (HY.out.below b).cell 1⟩, b⟩))
      have BR := Lib.hid (Below.refl ws.heap.size ws)
      rcases Bool.eq_false_or_eq_true (regB m (ya, yb)) with hr | hr
      · have RN := Lib.hid (SN.out hr (fun q hq => by omega))
        rw [hr] at LC
        clear NR SN hr
        refine wp_region_noPanic ?_
        refine wp_region_held_drew (S := (fun w' => (w'.cell? ⟨g, 0, none⟩ = some (.int .i64 ya) ∧ w'.cell? ⟨g, 1, none⟩ = some (.int .i64 yb)) ∧ Below ws.heap.size ws w')) (by kernel_rfl) ?_ (fun hHeld => ?_)
        · (try dsimp only)
          first | exact KS.out _ BR.out | exact KS.out _ (below_drewG BR.out)
        refine wpAnyH_take (i := 0) (oi := { dst := some 20, op := Op.load 31 (Operand.tmp 6), type := 31, pos := "slab.go:28", after := #[], guard := none }) (v := ?_) rfl (by kernel_rfl) (by kernel_rfl) (by kernel_rfl) (fun _ _ _ h => h) (Or.inl ⟨by rfl, ?_⟩) (by assumption) ?_
        rotate_left
        · intro w hSw; (try dsimp only at hSw); go_simp <;> (with_reducible rfl)
        (try simp only [Act.put, lsA, lsZ, lsS])
        refine wpAnyH_take (i := 1) (oi := { dst := some 21, op := Op.move (Operand.tmp 1), type := 3, pos := "slab.go:28", after := #[], guard := none }) (v := ?_) rfl (by kernel_rfl) (by kernel_rfl) (by kernel_rfl) (fun _ _ _ h => h) (Or.inl ⟨by rfl, ?_⟩) (by assumption) ?_
        rotate_left
        · intro w hSw; (try dsimp only at hSw); go_simp <;> (with_reducible rfl)
        (try simp only [Act.put, lsA, lsZ, lsS])
        refine wpAnyH_ready (rs := [2]) (by kernel_rfl) (by simp) ?_
        refine AllReadyH.cons (o := { dst := some 22, op := Op.call { callee := Callee.value (Operand.func 57), args := #[Operand.tmp 20, Operand.tmp 21], argTypes := #[31, 3] }, type := 4, pos := "slab.go:28", after := #[{ on := 0, ground := Ground.data }, { on := 1, ground := Ground.data }], guard := none }) rfl (fun K hK => ?_) ?_
        · go_simp
          (with_reducible refine (LC.out _).mono ?_); rintro e w' ⟨rfl, hb⟩
          go_wp2_with fail
          refine hK.out _ _ ?_ (fun hHeld => ?_)
          · (try dsimp only)
            exact KS.out _ (bel_then hHeld.2 hb)
          clear hK K
          (try simp only [Act.put, lsA, lsZ, lsS])
          refine wpAnyH_take (i := 3) (oi := { dst := some 23, op := Op.unOp UnOp.not 4 (Operand.tmp 22), type := 4, pos := "slab.go:28", after := #[{ on := 2, ground := Ground.data }], guard := none }) (v := ?_) rfl (by kernel_rfl) (by kernel_rfl) (by kernel_rfl) (fun _ _ _ h => h) (Or.inl ⟨by rfl, ?_⟩) (by assumption) ?_
          rotate_left
          · intro w hSw; (try dsimp only at hSw); go_simp <;> (with_reducible rfl)
          (try simp only [Act.put, lsA, lsZ, lsS])
          refine wpAnyH_take (i := 4) (oi := { dst := some 24, op := Op.move (Operand.tmp 23), type := 4, pos := "slab.go:28", after := #[{ on := 3, ground := Ground.data }, { on := 2, ground := Ground.chain }], guard := none }) (v := ?_) rfl (by kernel_rfl) (by kernel_rfl) (by kernel_rfl) (fun _ _ _ h => h) (Or.inl ⟨by rfl, ?_⟩) (by assumption) ?_
          rotate_left
          · intro w hSw; (try dsimp only at hSw); go_simp <;> (with_reducible rfl)
          (try simp only [Act.put, lsA, lsZ, lsS])
          refine wpAnyH_take (i := 5) (oi := { dst := some 25, op := Op.move (Operand.tmp 5), type := 3, pos := "slab.go:28", after := #[{ on := 4, ground := Ground.guard }], guard := some (4, false) }) (v := ?_) rfl (by kernel_rfl) (by kernel_rfl) (by kernel_rfl) (fun _ _ _ h => h) (Or.inl ⟨by rfl, ?_⟩) (by assumption) ?_
          rotate_left
          · intro w hSw; (try dsimp only at hSw); go_simp <;> (with_reducible rfl)
          (try simp only [Act.put, lsA, lsZ, lsS])
          refine wpAnyH_take (i := 6) (oi := { dst := some 26, op := Op.binOp BinOp.gtr 3 (Operand.tmp 25) (Operand.const (Value.int IntKind.i64 0)) 3, type := 4, pos := "slab.go:28", after := #[{ on := 5, ground := Ground.data }, { on := 4, ground := Ground.guard }], guard := some (4, false) }) (v := ?_) rfl (by kernel_rfl) (by kernel_rfl) (by kernel_rfl) (fun _ _ _ h => h) (Or.inl ⟨by rfl, ?_⟩) (by assumption) ?_
          rotate_left
          · intro w hSw; (try dsimp only at hSw); go_simp <;> (with_reducible rfl)
          (try simp only [Act.put, lsA, lsZ, lsS])
          refine wpAnyH_take (i := 7) (oi := { dst := some 27, op := Op.move (Operand.tmp 26), type := 4, pos := "slab.go:28", after := #[{ on := 6, ground := Ground.data }, { on := 4, ground := Ground.chain }, { on := 4, ground := Ground.guard }], guard := some (4, false) }) (v := ?_) rfl (by kernel_rfl) (by kernel_rfl) (by kernel_rfl) (fun _ _ _ h => h) (Or.inl ⟨by rfl, ?_⟩) (by assumption) ?_
          rotate_left
          · intro w hSw; (try dsimp only at hSw); go_simp <;> (with_reducible rfl)
          (try simp only [Act.put, lsA, lsZ, lsS])
          refine wpAnyH_take (i := 8) (oi := { dst := some 28, op := Op.move (Operand.tmp 0), type := 91, pos := "slab.go:28", after := #[{ on := 7, ground := Ground.guard }], guard := some (7, true) }) (v := undef) rfl (by kernel_rfl) (by kernel_rfl) (by kernel_rfl) (fun _ _ _ h => h) (Or.inr ⟨by rfl, rfl⟩) (by assumption) ?_
          (try simp only [Act.put, lsA, lsZ, lsS])
          refine wpAnyH_take (i := 9) (oi := { dst := some 29, op := Op.move (Operand.tmp 5), type := 3, pos := "slab.go:28", after := #[{ on := 7, ground := Ground.guard }], guard := some (7, true) }) (v := undef) rfl (by kernel_rfl) (by kernel_rfl) (by kernel_rfl) (fun _ _ _ h => h) (Or.inr ⟨by rfl, rfl⟩) (by assumption) ?_
          (try simp only [Act.put, lsA, lsZ, lsS])
          refine wpAnyH_take (i := 10) (oi := { dst := some 30, op := Op.binOp BinOp.sub 3 (Operand.tmp 29) (Operand.const (Value.int IntKind.i64 1)) 3, type := 3, pos := "slab.go:28", after := #[{ on := 9, ground := Ground.data }, { on := 7, ground := Ground.guard }], guard := some (7, true) }) (v := undef) rfl (by kernel_rfl) (by kernel_rfl) (by kernel_rfl) (fun _ _ _ h => h) (Or.inr ⟨by rfl, rfl⟩) (by assumption) ?_
          (try simp only [Act.put, lsA, lsZ, lsS])
          refine wpAnyH_take (i := 11) (oi := { dst := some 31, op := Op.indexAddr 91 (Operand.tmp 28) (Operand.tmp 30), type := 0, pos := "slab.go:28", after := #[{ on := 8, ground := Ground.data }, { on := 10, ground := Ground.data }, { on := 7, ground := Ground.guard }], guard := some (7, true) }) (v := undef) rfl (by kernel_rfl) (by kernel_rfl) (by kernel_rfl) (fun _ _ _ h => h) (Or.inr ⟨by rfl, rfl⟩) (by assumption) ?_
          (try simp only [Act.put, lsA, lsZ, lsS])
          refine wpAnyH_take (i := 12) (oi := { dst := some 32, op := Op.load 31 (Operand.tmp 31), type := 31, pos := "slab.go:28", after := #[{ on := 11, ground := Ground.data }, { on := 7, ground := Ground.guard }], guard := some (7, true) }) (v := undef) rfl (by kernel_rfl) (by kernel_rfl) (by kernel_rfl) (fun _ _ _ h => h) (Or.inr ⟨by rfl, rfl⟩) (by assumption) ?_
          (try simp only [Act.put, lsA, lsZ, lsS])
          refine wpAnyH_take (i := 13) (oi := { dst := some 33, op := Op.load 31 (Operand.tmp 6), type := 31, pos := "slab.go:28", after := #[{ on := 7, ground := Ground.guard }], guard := some (7, true) }) (v := undef) rfl (by kernel_rfl) (by kernel_rfl) (by kernel_rfl) (fun _ _ _ h => h) (Or.inr ⟨by rfl, rfl⟩) (by assumption) ?_
          (try simp only [Act.put, lsA, lsZ, lsS])
          refine wpAnyH_take (i := 14) (oi := { dst := some 34, op := Op.call { callee := Callee.value (Operand.func 58), args := #[Operand.tmp 32, Operand.tmp 33], argTypes := #[31, 31] }, type := 4, pos := "slab.go:28", after := #[{ on := 12, ground := Ground.data }, { on := 13, ground := Ground.data }, { on := 7, ground := Ground.chain }, { on := 7, ground := Ground.guard }], guard := some (7, true) }) (v := undef) rfl (by kernel_rfl) (by kernel_rfl) (by kernel_rfl) (fun _ _ _ h => h) (Or.inr ⟨by rfl, rfl⟩) (by assumption) ?_
          (try simp only [Act.put, lsA, lsZ, lsS])
          refine wpAnyH_take (i := 15) (oi := { dst := some 35, op := Op.unOp UnOp.not 4 (Operand.tmp 34), type := 4, pos := "slab.go:28", after := #[{ on := 14, ground := Ground.data }, { on := 7, ground := Ground.guard }], guard := some (7, true) }) (v := undef) rfl (by kernel_rfl) (by kernel_rfl) (by kernel_rfl) (fun _ _ _ h => h) (Or.inr ⟨by rfl, rfl⟩) (by assumption) ?_
          (try simp only [Act.put, lsA, lsZ, lsS])
          refine wpAnyH_take (i := 16) (oi := { dst := some 36, op := Op.pick (Operand.tmp 27) (Operand.tmp 35) (Operand.const (Value.bool false)), type := 4, pos := "slab.go:28", after := #[{ on := 7, ground := Ground.data }, { on := 15, ground := Ground.data }, { on := 4, ground := Ground.guard }], guard := some (4, false) }) (v := ?_) rfl (by kernel_rfl) (by kernel_rfl) (by kernel_rfl) (fun _ _ _ h => h) (Or.inl ⟨by rfl, ?_⟩) (by assumption) ?_
          rotate_left
          · intro w hSw; (try dsimp only at hSw); go_simp <;> (with_reducible rfl)
          (try simp only [Act.put, lsA, lsZ, lsS])
          refine wpAnyH_take (i := 17) (oi := { dst := some 37, op := Op.pick (Operand.tmp 24) (Operand.const (Value.bool true)) (Operand.tmp 36), type := 4, pos := "slab.go:28", after := #[{ on := 4, ground := Ground.data }, { on := 16, ground := Ground.data }], guard := none }) (v := ?_) rfl (by kernel_rfl) (by kernel_rfl) (by kernel_rfl) (fun _ _ _ h => h) (Or.inl ⟨by rfl, ?_⟩) (by assumption) ?_
          rotate_left
          · intro w hSw; (try dsimp only at hSw); go_simp <;> (with_reducible rfl)
          (try simp only [Act.put, lsA, lsZ, lsS])
          refine wpAnyH_done (by kernel_rfl) ?_ _
          refine NoPanic.normal ?_
          have BN := Lib.hid (B2.out.trans (hHeld.2.mono B2.out.size))
          go_wp2_with fail
          go_roundw
          case rel => exact ⟨0 + 1, by go_num, by omega, RN, BN⟩
          case measure => simp [intOf]; omega
        exact AllReadyH.nil
      · have hq := NR.out hr
        rw [hr] at LC
        subst hq
        clear NR SN hr
        refine wp_region_noPanic ?_
        refine wp_region_held_drew (S := (fun w' => (w'.cell? ⟨g, 0, none⟩ = some (.int .i64 ya) ∧ w'.cell? ⟨g, 1, none⟩ = some (.int .i64 yb)) ∧ Below ws.heap.size ws w')) (by kernel_rfl) ?_ (fun hHeld => ?_)
        · (try dsimp only)
          first | exact KS.out _ BR.out | exact KS.out _ (below_drewG BR.out)
        refine wpAnyH_take (i := 0) (oi := { dst := some 20, op := Op.load 31 (Operand.tmp 6), type := 31, pos := "slab.go:28", after := #[], guard := none }) (v := ?_) rfl (by kernel_rfl) (by kernel_rfl) (by kernel_rfl) (fun _ _ _ h => h) (Or.inl ⟨by rfl, ?_⟩) (by assumption) ?_
        rotate_left
        · intro w hSw; (try dsimp only at hSw); go_simp <;> (with_reducible rfl)
        (try simp only [Act.put, lsA, lsZ, lsS])
        refine wpAnyH_take (i := 1) (oi := { dst := some 21, op := Op.move (Operand.tmp 1), type := 3, pos := "slab.go:28", after := #[], guard := none }) (v := ?_) rfl (by kernel_rfl) (by kernel_rfl) (by kernel_rfl) (fun _ _ _ h => h) (Or.inl ⟨by rfl, ?_⟩) (by assumption) ?_
        rotate_left
        · intro w hSw; (try dsimp only at hSw); go_simp <;> (with_reducible rfl)
        (try simp only [Act.put, lsA, lsZ, lsS])
        refine wpAnyH_ready (rs := [2]) (by kernel_rfl) (by simp) ?_
        refine AllReadyH.cons (o := { dst := some 22, op := Op.call { callee := Callee.value (Operand.func 57), args := #[Operand.tmp 20, Operand.tmp 21], argTypes := #[31, 3] }, type := 4, pos := "slab.go:28", after := #[{ on := 0, ground := Ground.data }, { on := 1, ground := Ground.data }], guard := none }) rfl (fun K hK => ?_) ?_
        · go_simp
          (with_reducible refine (LC.out _).mono ?_); rintro e w' ⟨rfl, hb⟩
          go_wp2_with fail
          refine hK.out _ _ ?_ (fun hHeld => ?_)
          · (try dsimp only)
            exact KS.out _ (bel_then hHeld.2 hb)
          clear hK K
          (try simp only [Act.put, lsA, lsZ, lsS])
          refine wpAnyH_take (i := 3) (oi := { dst := some 23, op := Op.unOp UnOp.not 4 (Operand.tmp 22), type := 4, pos := "slab.go:28", after := #[{ on := 2, ground := Ground.data }], guard := none }) (v := ?_) rfl (by kernel_rfl) (by kernel_rfl) (by kernel_rfl) (fun _ _ _ h => h) (Or.inl ⟨by rfl, ?_⟩) (by assumption) ?_
          rotate_left
          · intro w hSw; (try dsimp only at hSw); go_simp <;> (with_reducible rfl)
          (try simp only [Act.put, lsA, lsZ, lsS])
          refine wpAnyH_take (i := 4) (oi := { dst := some 24, op := Op.move (Operand.tmp 23), type := 4, pos := "slab.go:28", after := #[{ on := 3, ground := Ground.data }, { on := 2, ground := Ground.chain }], guard := none }) (v := ?_) rfl (by kernel_rfl) (by kernel_rfl) (by kernel_rfl) (fun _ _ _ h => h) (Or.inl ⟨by rfl, ?_⟩) (by assumption) ?_
          rotate_left
          · intro w hSw; (try dsimp only at hSw); go_simp <;> (with_reducible rfl)
          (try simp only [Act.put, lsA, lsZ, lsS])
          refine wpAnyH_take (i := 5) (oi := { dst := some 25, op := Op.move (Operand.tmp 5), type := 3, pos := "slab.go:28", after := #[{ on := 4, ground := Ground.guard }], guard := some (4, false) }) (v := undef) rfl (by kernel_rfl) (by kernel_rfl) (by kernel_rfl) (fun _ _ _ h => h) (Or.inr ⟨by rfl, rfl⟩) (by assumption) ?_
          (try simp only [Act.put, lsA, lsZ, lsS])
          refine wpAnyH_take (i := 6) (oi := { dst := some 26, op := Op.binOp BinOp.gtr 3 (Operand.tmp 25) (Operand.const (Value.int IntKind.i64 0)) 3, type := 4, pos := "slab.go:28", after := #[{ on := 5, ground := Ground.data }, { on := 4, ground := Ground.guard }], guard := some (4, false) }) (v := undef) rfl (by kernel_rfl) (by kernel_rfl) (by kernel_rfl) (fun _ _ _ h => h) (Or.inr ⟨by rfl, rfl⟩) (by assumption) ?_
          (try simp only [Act.put, lsA, lsZ, lsS])
          refine wpAnyH_take (i := 7) (oi := { dst := some 27, op := Op.move (Operand.tmp 26), type := 4, pos := "slab.go:28", after := #[{ on := 6, ground := Ground.data }, { on := 4, ground := Ground.chain }, { on := 4, ground := Ground.guard }], guard := some (4, false) }) (v := undef) rfl (by kernel_rfl) (by kernel_rfl) (by kernel_rfl) (fun _ _ _ h => h) (Or.inr ⟨by rfl, rfl⟩) (by assumption) ?_
          (try simp only [Act.put, lsA, lsZ, lsS])
          refine wpAnyH_take (i := 8) (oi := { dst := some 28, op := Op.move (Operand.tmp 0), type := 91, pos := "slab.go:28", after := #[{ on := 7, ground := Ground.guard }], guard := some (7, true) }) (v := undef) rfl (by kernel_rfl) (by kernel_rfl) (by kernel_rfl) (fun _ _ _ h => h) (Or.inr ⟨by rfl, rfl⟩) (by assumption) ?_
          (try simp only [Act.put, lsA, lsZ, lsS])
          refine wpAnyH_take (i := 9) (oi := { dst := some 29, op := Op.move (Operand.tmp 5), type := 3, pos := "slab.go:28", after := #[{ on := 7, ground := Ground.guard }], guard := some (7, true) }) (v := undef) rfl (by kernel_rfl) (by kernel_rfl) (by kernel_rfl) (fun _ _ _ h => h) (Or.inr ⟨by rfl, rfl⟩) (by assumption) ?_
          (try simp only [Act.put, lsA, lsZ, lsS])
          refine wpAnyH_take (i := 10) (oi := { dst := some 30, op := Op.binOp BinOp.sub 3 (Operand.tmp 29) (Operand.const (Value.int IntKind.i64 1)) 3, type := 3, pos := "slab.go:28", after := #[{ on := 9, ground := Ground.data }, { on := 7, ground := Ground.guard }], guard := some (7, true) }) (v := undef) rfl (by kernel_rfl) (by kernel_rfl) (by kernel_rfl) (fun _ _ _ h => h) (Or.inr ⟨by rfl, rfl⟩) (by assumption) ?_
          (try simp only [Act.put, lsA, lsZ, lsS])
          refine wpAnyH_take (i := 11) (oi := { dst := some 31, op := Op.indexAddr 91 (Operand.tmp 28) (Operand.tmp 30), type := 0, pos := "slab.go:28", after := #[{ on := 8, ground := Ground.data }, { on := 10, ground := Ground.data }, { on := 7, ground := Ground.guard }], guard := some (7, true) }) (v := undef) rfl (by kernel_rfl) (by kernel_rfl) (by kernel_rfl) (fun _ _ _ h => h) (Or.inr ⟨by rfl, rfl⟩) (by assumption) ?_
          (try simp only [Act.put, lsA, lsZ, lsS])
          refine wpAnyH_take (i := 12) (oi := { dst := some 32, op := Op.load 31 (Operand.tmp 31), type := 31, pos := "slab.go:28", after := #[{ on := 11, ground := Ground.data }, { on := 7, ground := Ground.guard }], guard := some (7, true) }) (v := undef) rfl (by kernel_rfl) (by kernel_rfl) (by kernel_rfl) (fun _ _ _ h => h) (Or.inr ⟨by rfl, rfl⟩) (by assumption) ?_
          (try simp only [Act.put, lsA, lsZ, lsS])
          refine wpAnyH_take (i := 13) (oi := { dst := some 33, op := Op.load 31 (Operand.tmp 6), type := 31, pos := "slab.go:28", after := #[{ on := 7, ground := Ground.guard }], guard := some (7, true) }) (v := undef) rfl (by kernel_rfl) (by kernel_rfl) (by kernel_rfl) (fun _ _ _ h => h) (Or.inr ⟨by rfl, rfl⟩) (by assumption) ?_
          (try simp only [Act.put, lsA, lsZ, lsS])
          refine wpAnyH_take (i := 14) (oi := { dst := some 34, op := Op.call { callee := Callee.value (Operand.func 58), args := #[Operand.tmp 32, Operand.tmp 33], argTypes := #[31, 31] }, type := 4, pos := "slab.go:28", after := #[{ on := 12, ground := Ground.data }, { on := 13, ground := Ground.data }, { on := 7, ground := Ground.chain }, { on := 7, ground := Ground.guard }], guard := some (7, true) }) (v := undef) rfl (by kernel_rfl) (by kernel_rfl) (by kernel_rfl) (fun _ _ _ h => h) (Or.inr ⟨by rfl, rfl⟩) (by assumption) ?_
          (try simp only [Act.put, lsA, lsZ, lsS])
          refine wpAnyH_take (i := 15) (oi := { dst := some 35, op := Op.unOp UnOp.not 4 (Operand.tmp 34), type := 4, pos := "slab.go:28", after := #[{ on := 14, ground := Ground.data }, { on := 7, ground := Ground.guard }], guard := some (7, true) }) (v := undef) rfl (by kernel_rfl) (by kernel_rfl) (by kernel_rfl) (fun _ _ _ h => h) (Or.inr ⟨by rfl, rfl⟩) (by assumption) ?_
          (try simp only [Act.put, lsA, lsZ, lsS])
          refine wpAnyH_take (i := 16) (oi := { dst := some 36, op := Op.pick (Operand.tmp 27) (Operand.tmp 35) (Operand.const (Value.bool false)), type := 4, pos := "slab.go:28", after := #[{ on := 7, ground := Ground.data }, { on := 15, ground := Ground.data }, { on := 4, ground := Ground.guard }], guard := some (4, false) }) (v := undef) rfl (by kernel_rfl) (by kernel_rfl) (by kernel_rfl) (fun _ _ _ h => h) (Or.inr ⟨by rfl, rfl⟩) (by assumption) ?_
          (try simp only [Act.put, lsA, lsZ, lsS])
          refine wpAnyH_take (i := 17) (oi := { dst := some 37, op := Op.pick (Operand.tmp 24) (Operand.const (Value.bool true)) (Operand.tmp 36), type := 4, pos := "slab.go:28", after := #[{ on := 4, ground := Ground.data }, { on := 16, ground := Ground.data }], guard := none }) (v := ?_) rfl (by kernel_rfl) (by kernel_rfl) (by kernel_rfl) (fun _ _ _ h => h) (Or.inl ⟨by rfl, ?_⟩) (by assumption) ?_
          rotate_left
          · intro w hSw; (try dsimp only at hSw); go_simp <;> (with_reducible rfl)
          (try simp only [Act.put, lsA, lsZ, lsS])
          refine wpAnyH_done (by kernel_rfl) ?_ _
          refine NoPanic.normal ?_
          have BN := Lib.hid (B2.out.trans (hHeld.2.mono B2.out.size))
          go_wp2_with fail
          go_ret
          exact ⟨rfl, BN.out⟩
        exact AllReadyH.nil
    · have hq := YES.out (by have := RP.out; rwa [List.take_of_length_le (by rw [HL.out]; omega)] at this)
      subst hq
      go_wp2_with fail
      go_ret
      exact ⟨rfl, HB.out⟩
theorem right_one (r : Rg) (m : Int) (hm : -9223372036854775808 ≤ m ∧ m ≤ 9223372036854775807) (A : Option Addr) (cap : Nat) (w : World) (R : RgRow w A cap [r]) :
    Calls Tryz.prog 37 #[.slice A 1 cap, .int .i64 m] w fun e w' => e = .returned (.bool (rgtB [r] m)) ∧ Below w.heap.size w w' := by
  have B0 := Lib.hid (Below.refl w.heap.size w)
  by_cases h0 : m < 0
  · rw [rgt_no.2 (fun h => by have := h.lo; omega)]
    clear R
    go_enter Tryz.func37, Tryz.ntmps37
    go_wp2_with fail
    go_ret
    exact ⟨rfl, B0.out⟩
  · by_cases h1 : 65536 < m
    · rw [rgt_no.2 (fun h => by have := h.hi; omega)]
      clear R
      go_enter Tryz.func37, Tryz.ntmps37
      go_wp2_with fail
      go_ret
      exact ⟨rfl, B0.out⟩
    · exact right_in1 A cap 1 [r] m rfl rfl (by omega) (by omega) w R
end Go.Proofs.YtbgnkljeodandaaGreat.Mm
