/- Laying an image. -/
import Derived.Test.YtokibkemolmgcaaImgRead5
namespace Go.Proofs.Ytokibkemolmgcaa.Mm
open Go.ChangeShapes Go.WideShapes Go.ChangeAt Go.RowKit
set_option linter.unusedVariables false

theorem heap_freeze (w : World) (a : Addr) (n k : Nat) (hk : k ≠ a.block) : (w.freeze a n).heap[k]? = w.heap[k]? := by
  unfold World.freeze
  split
  · rfl
  · show (w.heap.modify a.block _)[k]? = _
    rw [Array.getElem?_modify, if_neg (fun h => hk h.symm)]
theorem size_freeze (w : World) (a : Addr) (n : Nat) : (w.freeze a n).heap.size = w.heap.size := by
  unfold World.freeze
  split
  · rfl
  · show (w.heap.modify a.block _).size = _
    simp
theorem bel_freeze {B : Nat} {a w : World} (h : Below B a w) (p : Addr) (hp : B ≤ p.block) (n : Nat) : Below B a (w.freeze p n) := by
  refine ⟨?_, ?_, ?_, by rw [size_freeze]; exact h.size, fun k hk => by rw [heap_freeze _ _ _ _ (by omega)]; exact h.block k hk⟩
  · have := h.os; unfold World.freeze; split <;> exact this
  · have := h.tape; unfold World.freeze; split <;> exact this
  · have := h.output; unfold World.freeze; split <;> exact this
theorem cell_freeze {w : World} {g m : Nat} {t : TypeId} {cs : List Value} (h : HasB w g t cs) (a : Addr) : (w.freeze ⟨g, m, none⟩ 1).cell? a = w.cell? a := by
  by_cases hk : a.block = g
  · have e : (w.freeze ⟨g, m, none⟩ 1).heap[a.block]? = some (.cells cs.toArray t (m, m + 1)) := by
      unfold World.freeze
      rw [if_neg (by decide)]
      show (w.heap.modify g _)[a.block]? = _
      rw [Array.getElem?_modify, if_pos hk.symm, hk, h]
      rfl
    have e0 : w.heap[a.block]? = some (.cells cs.toArray t (0, 0)) := by rw [hk]; exact h
    unfold World.cell?
    rw [e, e0]
  · unfold World.cell?
    rw [heap_freeze _ _ _ _ (by exact hk)]
/-- '[]byte("V321")': the bytes' block gets its mark -/
theorem mark_run {W0 w : World} {g : Nat} (h : HasB w g 5 [.int .u8 86, .int .u8 51, .int .u8 50, .int .u8 49]) (hb : Below W0.heap.size W0 w) (hg : W0.heap.size ≤ g) :
    ∃ W, (convert 22 22 (.slice (some ⟨g, 0, none⟩) 4 4)).run Try.prog w = .ok (.slice (some ⟨g, 0, none⟩) 4 4) W ∧ (∀ A c l, RowAt w A c l → RowAt W A c l) ∧ Below W0.heap.size W0 W := by
  refine ⟨w.freeze ⟨g, 4, none⟩ 1, ?_, fun A c l r => ?_, bel_freeze hb ⟨g, 4, none⟩ hg 1⟩
  · have hsh : w.shape? g = some (5, 4) := by
      unfold World.shape?
      rw [show w.heap[g]? = _ from h]
      rfl
    simp [convert, run_underlying Try.underlying22, run_underlying Try.underlying5, markStringish, hsh]
  · obtain ⟨h1, h2, h3, h4⟩ := r
    refine ⟨h1, h2, h3, fun hne => ?_⟩
    obtain ⟨x, hx, hlt, hc⟩ := h4 hne
    exact ⟨x, hx, by rw [size_freeze]; exact hlt, fun i hi => by rw [cell_freeze h]; exact hc i hi⟩
theorem row_newF (w : World) (g : Nat) (L : List Int) (t : TypeId) (fz : Nat × Nat) (cs : List Value) (cap : Nat) (hg : g = w.heap.size) (hcs : cs = L.map (Value.int .u8)) (hc : L.length ≤ cap) (hm : cap ≤ 65536) (hb : Bytes L) : RowAt (w.alloc (.cells cs.toArray t fz)) (some ⟨g, 0, none⟩) cap L := by
  subst hg hcs
  refine ⟨hc, by unfold maxLen; omega, hb, fun _ => ⟨_, rfl, by simp, fun i hi => ?_⟩⟩
  have e : (⟨w.heap.size, 0, none⟩ : Addr).add i = ⟨w.heap.size, i, none⟩ := by unfold Addr.add; by_cases h : i = 0 <;> simp [h]
  rw [e]
  have hh : (w.alloc (.cells (L.map (Value.int .u8)).toArray t fz)).heap[w.heap.size]? = some (.cells (L.map (Value.int .u8)).toArray t fz) := by
    show (w.heap.push _)[w.heap.size]? = _
    rw [Array.getElem?_push, if_pos rfl]
  unfold World.cell?
  rw [hh]
  simp [hi]
theorem RowAt.al {w : World} {A : Option Addr} {cap : Nat} {l : List Int} (r : RowAt w A cap l) (o : Obj) : RowAt (w.alloc o) A cap l := r.below (bel_al (Below.refl _ _) _)
theorem RowAt.dr {w : World} {A : Option Addr} {cap : Nat} {l : List Int} (r : RowAt w A cap l) : RowAt w.drew A cap l := r
theorem bel_dr {w a : World} (h : Below w.heap.size w a) : Below w.heap.size w a.drew := h.drew

/-- the five parts, joined -/
theorem joined_five (A B : Option Addr) (c d ca cb : Nat) (C D : List Int) (hc : C.length = c) (hd : D.length = d) (h1 : c ≤ 9000) (h2 : d ≤ 9000) (w : World) (g g8 g1 g2 : Nat)
    (h : HasB w g 22 [.slice (some ⟨g8, 0, none⟩) 4 4, .slice (some ⟨g1, 0, none⟩) 2 2, .slice (some ⟨g2, 0, none⟩) 2 2, .slice A c ca, .slice B d cb])
    (r8 : RowAt w (some ⟨g8, 0, none⟩) 4 headL) (r1 : RowAt w (some ⟨g1, 0, none⟩) 2 (lenL c)) (r2 : RowAt w (some ⟨g2, 0, none⟩) 2 (lenL d)) (rA : RowAt w A ca C) (rB : RowAt w B cb D) :
    Calls Try.prog 15 #[.slice (some ⟨g, 0, none⟩) 5 5] w (JoinN w (8 + c + d) (bodyL C D)) := by
  have e : flat [⟨some ⟨g8, 0, none⟩, 4, headL⟩, ⟨some ⟨g1, 0, none⟩, 2, lenL c⟩, ⟨some ⟨g2, 0, none⟩, 2, lenL d⟩, ⟨A, ca, C⟩, ⟨B, cb, D⟩] = bodyL C D := by simp [flat, bodyL, hc, hd]
  have hl : (bodyL C D).length = 8 + c + d := by rw [bodyL_len, hc, hd]
  have := joined_any [⟨some ⟨g8, 0, none⟩, 4, headL⟩, ⟨some ⟨g1, 0, none⟩, 2, lenL c⟩, ⟨some ⟨g2, 0, none⟩, 2, lenL d⟩, ⟨A, ca, C⟩, ⟨B, cb, D⟩] g 5 w rfl
    ⟨by subst hc hd; exact h, fun p hp => by
      simp at hp
      rcases hp with rfl | rfl | rfl | rfl | rfl
      · exact r8
      · exact r1
      · exact r2
      · exact rA
      · exact rB⟩ (by rw [e, hl]; omega) (by simp)
  rw [e] at this
  refine this.mono ?_
  rintro e' w' ⟨A', c', rfl, o, b⟩
  exact ⟨A', c', by rw [hl], o, b⟩
/-- two parts, joined -/
theorem joined_two (A B : Option Addr) (c d ca cb : Nat) (C D : List Int) (hc : C.length = c) (hd : D.length = d) (h1 : c ≤ 90000) (h2 : d ≤ 9000) (w : World) (g : Nat)
    (h : HasB w g 22 [.slice A c ca, .slice B d cb]) (rA : RowAt w A ca C) (rB : RowAt w B cb D) :
    Calls Try.prog 15 #[.slice (some ⟨g, 0, none⟩) 2 2] w (JoinN w (c + d) (C ++ D)) := by
  have e : flat [⟨A, ca, C⟩, ⟨B, cb, D⟩] = C ++ D := by simp [flat]
  have hl : (C ++ D).length = c + d := by rw [List.length_append, hc, hd]
  have := joined_any [⟨A, ca, C⟩, ⟨B, cb, D⟩] g 2 w rfl
    ⟨by subst hc hd; exact h, fun p hp => by
      simp at hp
      rcases hp with rfl | rfl
      · exact rA
      · exact rB⟩ (by rw [e, hl]; omega) (by simp)
  rw [e] at this
  refine this.mono ?_
  rintro e' w' ⟨A', c', rfl, o, b⟩
  exact ⟨A', c', by rw [hl], o, b⟩
end Go.Proofs.Ytokibkemolmgcaa.Mm
