/- What the statements of layer 4 have in common: the document's example, the processor handed over; the statement StepMasks. -/
import Derived.Test.YtjcggpaiminecaaStepMade
import Derived.Test.YtjcggpaiminecaaMemPlaysA
namespace Go.Proofs.Ytjcggpaiminecaa.Mm
open Go.ChangeShapes Go.WideShapes Go.ChangeAt Go.RowKit
set_option linter.unusedVariables false

theorem val_lit (pc r0 r1 r2 r3 r4 r5 r6 r7 b s : Int) : Cp.val ⟨pc, [r0, r1, r2, r3, r4, r5, r6, r7], b, s⟩ = .agg #[.int .u32 pc, .int .u32 r0, .int .u32 r1, .int .u32 r2, .int .u32 r3, .int .u32 r4, .int .u32 r5, .int .u32 r6, .int .u32 r7, .int .u32 b, .int .u32 s] := rfl
set_option maxRecDepth 100000 in
set_option maxHeartbeats 4000000 in
theorem of_try (pc r0 r1 r2 r3 r4 r5 r6 r7 b s : Int) (w : World) :
    Calls Try.prog 23 #[.agg #[.int .u32 pc, .int .u32 r0, .int .u32 r1, .int .u32 r2, .int .u32 r3, .int .u32 r4, .int .u32 r5, .int .u32 r6, .int .u32 r7, .int .u32 b, .int .u32 s]] w fun e w' =>
      e = .returned (.agg #[.int .u32 pc, .int .u32 r0, .int .u32 r1, .int .u32 r2, .int .u32 r3, .int .u32 r4, .int .u32 r5, .int .u32 r6, .int .u32 r7, .int .u32 b, .int .u32 s]) ∧ Below w.heap.size w w' := by
  go_enter Try.func23, Try.ntmps23
  go_wp2_with fail
  refine bodyPost_ret (v := .agg #[.int .u32 pc, .int .u32 r0, .int .u32 r1, .int .u32 r2, .int .u32 r3, .int .u32 r4, .int .u32 r5, .int .u32 r6, .int .u32 r7, .int .u32 b, .int .u32 s]) (by simp [results, Try.results23, go_sem]) rfl ⟨rfl, ?_⟩
  exact bel_al (bel_al (Below.refl _ _) _) _
theorem of_cp {c : Cp} (o : c.Ok) (w : World) : Calls Try.prog 23 #[c.val] w fun e w' => e = .returned c.val ∧ Below w.heap.size w w' := by
  obtain ⟨r0, r1, r2, r3, r4, r5, r6, r7, hr⟩ := o.eight
  obtain ⟨pc, r, b, s⟩ := c
  simp only at hr
  subst hr
  exact of_try pc r0 r1 r2 r3 r4 r5 r6 r7 b s w
theorem zero_ok : (⟨0, [0, 0, 0, 0, 0, 0, 0, 0], 0, 0⟩ : Cp).Ok :=
  ⟨⟨by decide, by decide⟩, rfl, fun x hx => by simp at hx; subst hx; exact ⟨by decide, by decide⟩, ⟨by decide, by decide⟩, ⟨by decide, by decide⟩⟩
theorem first_step : StepIs ⟨0, [0, 0, 0, 0, 0, 0, 0, 0], 0, 0⟩ (splice (List.replicate 64 0) 0 [1, 1, 5, 0, 0, 0]) [true] ⟨⟨6, [0, 5, 0, 0, 0, 0, 0, 0], 0, 0⟩, splice (List.replicate 64 0) 0 [1, 1, 5, 0, 0, 0], 0, 0⟩ := by
  refine .inr (.inr ⟨1, 1, 0, 5, 6, ⟨by decide, [1, 5, 0, 0, 0], by decide, by decide, by decide, by decide, by decide⟩, ?_⟩)
  rw [exec_1]
  rfl
set_option maxRecDepth 100000 in
set_option maxHeartbeats 4000000 in
theorem awake4 (w : World) : Calls Try.prog 21 #[] w fun e w' => e = .returned (.bool true) ∧ Below w.heap.size w w' := by
  go_enter Try.func21, Try.ntmps21
  go_wp2_with fail
  refine (new_m w 64 1 (by decide) (by decide) (by decide) (Below.refl _ _)).mono ?_; rintro e w1 ⟨p, g, h, rfl, s, _⟩
  have S := Lib.hid s; clear s
  go_wp2_with fail
  refine (set_m S.out 64 (by decide)).mono ?_; rintro e w2 ⟨rfl, s, _⟩
  have S := Lib.hid s; clear s
  go_wp2_with fail
  have hr : RowAt (w2.alloc (.cells #[.int .u8 1, .int .u8 1, .int .u8 5, .int .u8 0, .int .u8 0, .int .u8 0] 5)) (some ⟨w2.heap.size, 0, none⟩) 6 [1, 1, 5, 0, 0, 0] := row_blk (l := [1, 1, 5, 0, 0, 0]) (fun x hx => by simp at hx; omega) (by decide) (HasB.newAt _ _ _ _ rfl)
  have S := Lib.hid (S.out.below (bel_al (Below.refl _ _) (.cells #[.int .u8 1, .int .u8 1, .int .u8 5, .int .u8 0, .int .u8 0, .int .u8 0] 5)))
  refine (write_m S.out 0 _ 6 [1, 1, 5, 0, 0, 0] hr (whole_full 1 0 6 (by decide) (by decide) (by decide))).mono ?_; rintro e w3 ⟨rfl, s, _⟩
  have S := Lib.hid s; clear s hr
  go_wp2_with fail
  have hd := step_any S.out.at_ (c := ⟨0, [0, 0, 0, 0, 0, 0, 0, 0], 0, 0⟩) zero_ok first_step
  rw [val_lit] at hd
  refine hd.mono ?_; rintro e w4 ⟨rfl, m, c⟩
  dsimp only
  rw [val_lit]
  have S := S.out.chg m c.wide
  have S := Lib.hid S
  clear hd m c
  go_wp2_with fail
  go_ret
  exact ⟨rfl, bel_al (bel_al S.out.bel _) _⟩
theorem made_any (A : Option Addr) (cap : Nat) (l : List Int) (hn : l.length ≤ 1000) (w : World) (hr : RowAt w A cap l) : Calls Try.prog 22 #[.slice A l.length cap] w (MadeP w l) := by
  by_cases h : l.length ≤ 192
  · exact made_some A _ cap l rfl h w hr
  · exact made_more A _ cap l rfl (by omega) hn w hr
end Go.Proofs.Ytjcggpaiminecaa.Mm
