/- A host that is filled: which number, which place the next one has. -/
import Derived.Test.YtjmbaiijmhkdpaaGreatQHostW0
namespace Go.Proofs.YtjmbaiijmhkdpaaGreat.Mm
open Go.ChangeShapes Go.WideShapes Go.ChangeAt Go.RowKit
set_option linter.unusedVariables false
set_option linter.unusedSimpArgs false
set_option maxRecDepth 10000
set_option maxHeartbeats 4000000
theorem full_at {z hf k : Nat} {h : Ho} (F : FullH z hf k h) {k' b hf' : Nat} (hk16 : k < 16) (hp : powS ((2 * hf : Nat) : Int) = true) (hn : (2 * k + 1) * (2 * hf) + 2 * hf + 64 ≤ 64 * z) (hk : freeO h = some k') (hs : ((2 * hf : Nat) : Int) = ((2 * hf' : Nat) : Int)) (hb : takeV (regsU h) ((64 * z : Nat) : Int) ((2 * hf : Nat) : Int) = (b : Int)) :
    k' = k ∧ b = (2 * k + 1) * (2 * hf) ∧ hf' = hf := by
  refine ⟨?_, ?_, by omega⟩
  · rw [F.free hk16] at hk
    injection hk with hk; exact hk.symm
  · rw [F.take hp hn] at hb
    exact (Int.ofNat.inj hb).symm
theorem full_e {z hf k : Nat} {h : Ho} (F : FullH z hf k h) (hk16 : k < 16) (hp : powS ((2 * hf : Nat) : Int) = true) (hn : (2 * k + 1) * (2 * hf) + 2 * hf + 64 ≤ 64 * z) {l : List Int} (hE : imgE l = 0) (hc : (codeI l).length + 32 ≤ hf) (hd : (dataL l).length ≤ hf) :
    loadE z h (imgE l) (codeI l) (dataL l) ((2 * hf : Nat) : Int) = 0 := by
  rw [F.loadE hk16 hp hn _ _ _ hd, hE]
  simp [hc]
theorem kill_no {h : Ho} {k : Nat} {s : Sb} : ∀ t, ¬ (killO h k s).has k t := fun t ht => by
  rcases has_cases ht with ⟨_, e⟩ | ⟨hn, _⟩
  · cases e
  · exact hn rfl
theorem has_16 {z : Nat} {h : Ho} (H : HoZ z h) {k : Nat} (hk : 16 ≤ k) : ∀ s, ¬ h.has k s := fun s hs => by
  have := Ho.has_lt hs
  have := H.ml
  omega
theorem row_lt' {w : World} {A : Option Addr} {cap : Nat} {l : List Int} (r : RowAt w A cap l) (h : 0 < l.length) {a : Addr} (ha : A = some a) : a.block < w.heap.size := by
  obtain ⟨p, hp, hb, _⟩ := r.2.2.2 (by intro e; rw [e] at h; simp at h)
  rw [ha] at hp
  cases hp
  exact hb
theorem row_lt {w : World} {A : Option Addr} {cap : Nat} {l : List Int} (r : RowAt w A cap l) (h : 0 < l.length) {a : Addr} (ha : A = some a) (h2 : w.heap.size ≤ a.block) : False := by
  have := row_lt' r h ha
  omega
structure QAt (q : Addr) (ra rb : Int) (w : World) : Prop where
  c0 : w.cell? q = some (.int .i64 ra)
  c1 : w.cell? ⟨q.block, q.off + 1, none⟩ = some (.int .i64 rb)
  lt : q.block < w.heap.size
theorem QAt.below {q : Addr} {ra rb : Int} {w w' : World} (h : QAt q ra rb w) (b : Below w.heap.size w w') : QAt q ra rb w' :=
  ⟨(b.cell h.lt).trans h.c0, (b.cell (p := ⟨q.block, q.off + 1, none⟩) h.lt).trans h.c1, Nat.lt_of_lt_of_le h.lt b.size⟩
theorem rg_lt {w : World} {q : Addr} {cap : Nat} {x : Rg} {L : List Rg} (r : RgRow w (some q) cap (x :: L)) : q.block < w.heap.size := by
  obtain ⟨p, hp, hb, _⟩ := r.2.2.2 (by simp)
  cases hp
  exact hb
theorem rg_first {w : World} {A : Option Addr} {cap : Nat} {x : Rg} {L : List Rg} (r : RgRow w A cap (x :: L)) : ∃ q, A = some q ∧ w.cell? q = some (.int .i64 x.1) ∧ w.cell? ⟨q.block, q.off + 1, none⟩ = some (.int .i64 x.2) := by
  obtain ⟨q, hq, _, hc⟩ := r.2.2.2 (by simp)
  have h0 := hc 0 (by simp)
  have e0 : q.add (0 * 2) = q := by unfold Addr.add; simp
  rw [e0] at h0
  exact ⟨q, hq, h0.c0, h0.c1⟩
theorem RgRow.chF {F : Nat → Prop} {w w' : World} {A : Option Addr} {cap : Nat} {l : List Rg} (r : RgRow w A cap l) (c : ChF F w w') (h : l = [] ∨ ∀ a, A = some a → ¬ F a.block) : RgRow w' A cap l := by
  obtain ⟨r1, r2, r3, r4⟩ := r
  refine ⟨r1, r2, r3, fun hn => ?_⟩
  obtain ⟨p, hp, hb, hc⟩ := r4 hn
  have hk := c.block p.block hb ((h.resolve_left hn) p hp)
  exact ⟨p, hp, Nat.lt_of_lt_of_le hb c.size, fun i hi => ⟨(cell_same (by rw [block_add]; exact hk)).trans (hc i hi).c0, (cell_same (p := ⟨(p.add (i * 2)).block, (p.add (i * 2)).off + 1, none⟩) (by show w'.heap[(p.add (i * 2)).block]? = _; rw [block_add]; exact hk)).trans (hc i hi).c1⟩⟩
end Go.Proofs.YtjmbaiijmhkdpaaGreat.Mm
