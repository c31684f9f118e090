/- The acts that MemPlays is given, as they lie in the world; whether they are few. -/
import Derived.Test.YtjcggpaiminecaaMemRefWrite
import Derived.Deep.Slices
import Derived.Deep.Fields
import Derived.ChangeSame
namespace Go.Proofs.Ytjcggpaiminecaa.Mm
open Go.ChangeShapes Go.WideShapes Go.ChangeAt Go.RowKit
set_option linter.unusedVariables false

/-- an act -/
structure ActV where
  d : Int
  a : Int
  n : Int
  is : Bool
  v : Int
  A : Option Addr
  cap : Nat
  b : List Int
/-- its six cells -/
structure ActAt (w : World) (x : Addr) (t : ActV) : Prop where
  c0 : w.cell? x = some (.int .u8 t.d)
  c1 : w.cell? ⟨x.block, x.off + 1, none⟩ = some (.int .i64 t.a)
  c2 : w.cell? ⟨x.block, x.off + 2, none⟩ = some (.int .i64 t.n)
  c3 : w.cell? ⟨x.block, x.off + 3, none⟩ = some (.bool t.is)
  c4 : w.cell? ⟨x.block, x.off + 4, none⟩ = some (.int .u32 t.v)
  c5 : w.cell? ⟨x.block, x.off + 5, none⟩ = some (.slice t.A t.b.length t.cap)
  d0 : 0 ≤ t.d ∧ t.d ≤ 255
  a0 : -9223372036854775808 ≤ t.a ∧ t.a ≤ 9223372036854775807
  n0 : -9223372036854775808 ≤ t.n ∧ t.n ≤ 9223372036854775807
  v0 : 0 ≤ t.v ∧ t.v < 4294967296
  row : RowAt w t.A t.cap t.b
def Acts (w : World) (A : Option Addr) (n cap : Nat) : Prop := n ≤ cap ∧ cap ≤ maxLen ∧ (0 < n → ∃ x, A = some x ∧ x.block < w.heap.size ∧ ∀ i, i < n → ∃ t, ActAt w (x.add (i * 6)) t)

theorem ActAt.below {w w' : World} {x : Addr} {t : ActV} (h : ActAt w x t) (b : Below w.heap.size w w') (hx : x.block < w.heap.size) : ActAt w' x t :=
  ⟨by rw [b.cell hx]; exact h.c0, (b.cell (p := ⟨x.block, x.off + 1, none⟩) hx).trans h.c1, (b.cell (p := ⟨x.block, x.off + 2, none⟩) hx).trans h.c2, (b.cell (p := ⟨x.block, x.off + 3, none⟩) hx).trans h.c3,
   (b.cell (p := ⟨x.block, x.off + 4, none⟩) hx).trans h.c4, (b.cell (p := ⟨x.block, x.off + 5, none⟩) hx).trans h.c5, h.d0, h.a0, h.n0, h.v0, h.row.below b⟩
theorem Acts.below {w w' : World} {A : Option Addr} {n cap : Nat} (h : Acts w A n cap) (b : Below w.heap.size w w') : Acts w' A n cap := by
  obtain ⟨h1, h2, h3⟩ := h
  refine ⟨h1, h2, fun hn => ?_⟩
  obtain ⟨x, hx, hb, hc⟩ := h3 hn
  refine ⟨x, hx, Nat.lt_of_lt_of_le hb b.size, fun i hi => ?_⟩
  obtain ⟨t, ht⟩ := hc i hi
  exact ⟨t, ht.below b (by rw [block_add]; exact hb)⟩

theorem bounds_i64' {n : Int} (h : (Lit.int .i64 n).wf = true) : -9223372036854775808 ≤ n ∧ n ≤ 9223372036854775807 := bounds_i64 h

set_option maxRecDepth 100000 in
theorem acts_of {H : Type} {enc : TypeId × Value → H} {w : World} {base : Nat} {spare : Nat → Bool} {held : Bool} {a : Option Addr} {len cap : Nat} {d : DataW H} {ps : List MemPlace}
    (h : DataW.Trod enc Try.prog w base spare held 22 (.slice a len cap) d ps) : Acts w a len cap := by
  obtain ⟨fuel, hf⟩ := h
  have hC : Try.prog.cellsOf 37 = 6 := by kernel_rfl
  have k5 : Try.prog.cellsOf 5 = 1 := by kernel_rfl
  have k3 : Try.prog.cellsOf 3 = 1 := by kernel_rfl
  have k4 : Try.prog.cellsOf 4 = 1 := by kernel_rfl
  have k35 : Try.prog.cellsOf 35 = 1 := by kernel_rfl
  have k30 : Try.prog.cellsOf 30 = 1 := by kernel_rfl
  rcases Go.Deep.open_slice Try.underlying22 hf with ⟨hcs, _⟩ | ⟨x, len', cap', m, n, D, Pl, hcs, hb, hl, hm, hmm, _, hi⟩
  · simp [Value.cells] at hcs
    obtain ⟨rfl, rfl, rfl⟩ := hcs
    exact ⟨Nat.le_refl _, Nat.zero_le _, fun h => by omega⟩
  · simp [Value.cells] at hcs
    obtain ⟨rfl, rfl, rfl⟩ := hcs
    have hlm : len ≤ m := by rw [hmm]; split <;> omega
    rw [hC] at hi
    have key : ∀ i, i < len → ∃ t, ActAt w (x.add (i * 6)) t := by
      intro i hil
      obtain ⟨cs', hc, ht⟩ := hi i (by omega)
      obtain ⟨_, hcl, hat⟩ := World.cells?_some hc
      obtain ⟨xs, n', _, _, _, _, hfs⟩ := DataW.trod_struct Try.underlying37 ht
      match cs', hcl with
      | [y0, y1, y2, y3, y4, y5], _ =>
        have f0 : DataW.trod enc Try.prog w base spare held n' 5 (([y0, y1, y2, y3, y4, y5].drop 0).take (Try.prog.cellsOf 5)) = xs[0]? := hfs 0 _ rfl
        have f1 : DataW.trod enc Try.prog w base spare held n' 3 (([y0, y1, y2, y3, y4, y5].drop 1).take (Try.prog.cellsOf 3)) = xs[1]? := hfs 1 _ rfl
        have f2 : DataW.trod enc Try.prog w base spare held n' 3 (([y0, y1, y2, y3, y4, y5].drop 2).take (Try.prog.cellsOf 3)) = xs[2]? := hfs 2 _ rfl
        have f3 : DataW.trod enc Try.prog w base spare held n' 4 (([y0, y1, y2, y3, y4, y5].drop 3).take (Try.prog.cellsOf 4)) = xs[3]? := hfs 3 _ rfl
        have f4 : DataW.trod enc Try.prog w base spare held n' 35 (([y0, y1, y2, y3, y4, y5].drop 4).take (Try.prog.cellsOf 35)) = xs[4]? := hfs 4 _ rfl
        have f5 : DataW.trod enc Try.prog w base spare held n' 30 (([y0, y1, y2, y3, y4, y5].drop 5).take (Try.prog.cellsOf 30)) = xs[5]? := hfs 5 _ rfl
        simp only [k5, k3, k4, k35, k30, List.drop_zero, List.drop_succ_cons, List.take_succ_cons, List.take_zero] at f0 f1 f2 f3 f4 f5
        have some_of : ∀ j, j < 6 → ∃ y, xs[j]? = some y := fun j hj => ⟨xs[j]'(by simp_all), List.getElem?_eq_getElem _⟩
        obtain ⟨r0, q0⟩ := some_of 0 (by decide)
        obtain ⟨r1, q1⟩ := some_of 1 (by decide)
        obtain ⟨r2, q2⟩ := some_of 2 (by decide)
        obtain ⟨r3, q3⟩ := some_of 3 (by decide)
        obtain ⟨r4, q4⟩ := some_of 4 (by decide)
        obtain ⟨r5, q5⟩ := some_of 5 (by decide)
        obtain ⟨v0, e0, _, g0⟩ := DataW.trod_int Try.underlying5 (f0.trans q0)
        obtain ⟨v1, e1, _, g1⟩ := DataW.trod_int Try.underlying3 (f1.trans q1)
        obtain ⟨v2, e2, _, g2⟩ := DataW.trod_int Try.underlying3 (f2.trans q2)
        obtain ⟨v3, e3, _⟩ := DataW.trod_bool Try.underlying4 (f3.trans q3)
        obtain ⟨v4, e4, _, g4⟩ := DataW.trod_int Try.underlying35 (f4.trans q4)
        simp only [List.cons.injEq, and_true] at e0 e1 e2 e3 e4
        subst e0 e1 e2 e3 e4
        obtain ⟨A5, l5, c5, e5⟩ : ∃ A l c, y5 = .slice A l c := by
          rcases Go.Deep.open_slice Try.underlying30 (f5.trans q5) with ⟨hq, _⟩ | ⟨x5, l5, c5, _, _, _, _, hq, _⟩
          · simp only [List.cons.injEq, and_true] at hq; exact ⟨_, _, _, hq⟩
          · simp only [List.cons.injEq, and_true] at hq; exact ⟨_, _, _, hq⟩
        subst e5
        have tr : DataW.Trod enc Try.prog w base spare held 30 (.slice A5 l5 c5) r5.1 r5.2 := ⟨n', by simpa [Value.cells] using f5.trans q5⟩
        obtain ⟨bl, hbl, hrow⟩ := row_of Try.underlying30 Try.underlying5 k5 tr
        subst hbl
        have h0 := hat 0 (by decide)
        have h1 := hat 1 (by decide)
        have h2 := hat 2 (by decide)
        have h3 := hat 3 (by decide)
        have h4 := hat 4 (by decide)
        have h5 := hat 5 (by decide)
        simp only [List.getElem?_cons_succ, List.getElem?_cons_zero] at h0 h1 h2 h3 h4 h5
        have ad : ∀ n, (x.add (i * 6)).add (n + 1) = ⟨(x.add (i * 6)).block, (x.add (i * 6)).off + (n + 1), none⟩ := fun n => by generalize x.add (i * 6) = y; unfold Addr.add; simp
        rw [ad 0] at h1
        rw [ad 1] at h2
        rw [ad 2] at h3
        rw [ad 3] at h4
        rw [ad 4] at h5
        have e00 : (x.add (i * 6)).add 0 = x.add (i * 6) := by simp [Addr.add]
        rw [e00] at h0
        exact ⟨⟨v0, v1, v2, v3, v4, A5, c5, bl⟩, ⟨h0, h1, h2, h3, h4, h5, bounds_u8 g0, bounds_i64' g1, bounds_i64' g2, u32_bd g4, hrow⟩⟩
    refine ⟨hl, hm, fun hn => ⟨x, rfl, ?_, key⟩⟩
    obtain ⟨t, ht⟩ := key 0 hn
    have := block_of_cell ht.c0
    rwa [block_add] at this

/-- few: at most forty, each with at most 500 bytes -/
def FewP (w : World) (A : Option Addr) (n : Nat) (b : Bool) : Prop := b = true → n ≤ 40 ∧ ∀ x, A = some x → ∀ i, i < n → ∀ t, ActAt w (x.add (i * 6)) t → t.b.length ≤ 500

def FewE (w : World) (A : Option Addr) (n : Nat) (e : Ending) (w' : World) : Prop := ∃ b, e = .returned (.bool b) ∧ FewP w A n b ∧ w = w'

theorem act_len {w : World} {x : Addr} {t t' : ActV} (h : ActAt w x t) (h' : ActAt w x t') : t'.b.length = t.b.length := by
  have h1 := h.c5
  rw [h'.c5] at h1
  injection h1 with h1
  injection h1

theorem few_any (A : Option Addr) (n cap : Nat) (w : World) (ha : Acts w A n cap) : Calls Try.prog 6 #[.slice A n cap] w (FewE w A n) := by
  obtain ⟨h1, h2, h3⟩ := ha
  unfold maxLen at h2
  have H3 := Lib.hid h3
  clear h3
  go_enter Try.func6, Try.ntmps6
  go_wp2_with fail
  go_loop [3] (fun i => ∃ k : Nat, k ≤ n ∧ k ≤ 41 ∧ i = .int .i64 k ∧ ∀ x, A = some x → ∀ j, j < k → ∀ t, ActAt w (x.add (j * 6)) t → t.b.length ≤ 500) (fun i => 41 - (intOf i).toNat)
  case atStart => exact ⟨0, Nat.zero_le _, by decide, rfl, fun x _ j hj => by omega⟩
  case round =>
    obtain ⟨k, hk, hk41, rfl, hall⟩ := hrel
    have HA := Lib.hid hall; clear hall
    by_cases hlt : k < n ∧ k ≤ 40
    · obtain ⟨hlt, h40⟩ := hlt
      obtain ⟨x, rfl, hxb, hx⟩ := H3.out (by omega)
      obtain ⟨t, ht⟩ := hx k hlt
      have c5 := ht.c5
      have hb := ht.row.1
      have hb2 := ht.row.2.1
      have HT := Lib.hid ht
      clear ht hx
      have kI : (k : Int) < (n : Int) := by omega
      by_cases hq : 500 < t.b.length
      · go_wp2_with fail
        go_ret
        exact ⟨false, rfl, (fun h => by cases h), rfl⟩
      · go_wp2_with fail
        go_round
        case rel => exact ⟨k + 1, hlt, by omega, by go_num, fun y hy j hj s hs => by
          injection hy with hy; subst hy
          by_cases e : j = k
          · subst e
            have := act_len HT.out hs
            omega
          · exact HA.out _ rfl j (by omega) s hs⟩
        case measure => simp [intOf]; omega
    · by_cases hkn : k < n
      · have h41 : k = 41 := by omega
        subst h41
        have dn : decide ((n : Int) ≤ 40) = false := by rw [decide_eq_false_iff_not]; omega
        go_wp2_with fail
        go_ret
        exact ⟨false, rfl, (fun h => by cases h), rfl⟩
      · have hk' : k = n := by omega
        subst hk'
        by_cases h40 : k ≤ 40
        · have dn : decide ((k : Int) ≤ 40) = true := by rw [decide_eq_true_iff]; omega
          go_wp2_with fail
          go_ret
          exact ⟨true, rfl, fun _ => ⟨h40, fun x hx i hi t ht => HA.out x hx i hi t ht⟩, rfl⟩
        · have dn : decide ((k : Int) ≤ 40) = false := by rw [decide_eq_false_iff_not]; omega
          go_wp2_with fail
          go_ret
          exact ⟨false, rfl, (fun h => by cases h), rfl⟩
end Go.Proofs.Ytjcggpaiminecaa.Mm
