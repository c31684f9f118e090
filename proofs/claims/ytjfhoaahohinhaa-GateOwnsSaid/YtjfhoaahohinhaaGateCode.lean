/- Package gate as it landed: Do does what a gate asks for. -/
import Derived.Test.YtjfhoaahohinhaaGateDoO
import Derived.Test.YtjfhoaahohinhaaGateDoN
import Derived.Test.YtjfhoaahohinhaaGateDo0
import Derived.Test.YtjfhoaahohinhaaGateDo1
import Derived.Test.YtjfhoaahohinhaaGateDo2
import Derived.Test.YtjfhoaahohinhaaGateDo3
namespace Go.Proofs.Ytjfhoaahohinhaa.Mm
open Go.ChangeShapes Go.WideShapes Go.ChangeAt Go.RowKit
set_option linter.unusedVariables false

theorem offR_new {w : World} {RA TA A : Option Addr} (h : ∀ x, A = some x → w.heap.size ≤ x.block) : OffR w RA TA RA A :=
  ⟨fun _ _ h => h, fun g hg _ x hx => by have := h x hx; omega⟩
theorem offR_same {w : World} {RA TA : Option Addr} : OffR w RA TA RA TA := ⟨fun _ _ h => h, fun _ _ h => h⟩
set_option maxHeartbeats 4000000 in
theorem do_code : DoGC := by
  intro c pv W n sum o oW hn w RA rc TA tc RK RT HS
  have u0 := o.reg 0 (by omega) (by omega)
  have SUM := Lib.hid (fun (h3 : n = 3) (hov : W.ov = false) => HS h3 hov)
  have WITH := Lib.hid (fun (y : Ev) (hy : evWf y) w' (b : Below w.heap.size w w') => with_code TA tc W.tr.length W.tr rfl oW.tr y.1 y.2 hy w' (RT.below b))
  have TAKE := Lib.hid (fun w' (b : Below w.heap.size w w') (H : HasB w' (w.heap.size + 1) 40 [.slice RA W.rep.length rc, .int .i64 W.tk, .slice TA W.tr.length tc, .bool W.ov, .int .u32 W.cd]) =>
    take_code w' (w.heap.size + 1) W oW RA rc TA tc H (RK.below b) (fun hne x hx => by
      obtain ⟨p, hp, hlt, _⟩ := RK.2.2.2 hne
      rw [hp] at hx
      cases hx
      omega))
  have SC := Lib.hid (fun p g h B T (m : MemAt w p g h B T) w' (b : Below w.heap.size w w') => sum_code c o w' p g h B T (m.below b))
  clear HS
  obtain ⟨r0, r1, r2, r3, r4, r5, r6, r7, hr⟩ := o.eight
  obtain ⟨pc, r, b, s⟩ := c
  simp only at hr
  subst hr
  obtain ⟨rep, tk, tr, ov, cd⟩ := W
  have hlen : ∀ x : Ev, (tr ++ [x]).length = tr.length + 1 := fun x => by simp
  have VAL : (⟨pc, [r0, r1, r2, r3, r4, r5, r6, r7], b, s⟩ : Cp).val = .agg #[.int .u32 pc, .int .u32 r0, .int .u32 r1, .int .u32 r2, .int .u32 r3, .int .u32 r4, .int .u32 r5, .int .u32 r6, .int .u32 r7, .int .u32 b, .int .u32 s] := rfl
  have SETV : ∀ v, ((⟨pc, [r0, r1, r2, r3, r4, r5, r6, r7], b, s⟩ : Cp).setR 0 v).val = .agg #[.int .u32 pc, .int .u32 v, .int .u32 r1, .int .u32 r2, .int .u32 r3, .int .u32 r4, .int .u32 r5, .int .u32 r6, .int .u32 r7, .int .u32 b, .int .u32 s] := fun v => rfl
  have REG : (⟨pc, [r0, r1, r2, r3, r4, r5, r6, r7], b, s⟩ : Cp).reg 0 = r0 := rfl
  rw [REG] at u0
  unfold U32 at u0
  obtain ⟨hn0, hn1⟩ := hn
  cases ov
  · by_cases h0 : n = 0
    · subst h0
      refine (do_0 pc r0 r1 r2 r3 r4 r5 r6 r7 b s pv RA rc rep.length tk cd TA tc tr.length tr w (Lib.hid (WITH.out (0, r0) ⟨by simp, by simp only; omega⟩))).mono ?_
      rintro e w' ⟨A9, c9, rfl, row, bel, off⟩
      exact ⟨RA, rc, A9, c9, by show _ = Ending.returned (.tuple #[_, .agg #[_, _, .slice A9 (tr ++ [((0 : Int), r0)]).length c9, _, _]]); rw [hlen]; rfl, RK.below bel, row, bel, offR_new off⟩
    · by_cases h1 : n = 1
      · subst h1
        refine (do_1 pc r0 r1 r2 r3 r4 r5 r6 r7 b s pv RA rc rep.length tk cd TA tc tr.length tr w (Lib.hid (WITH.out (1, r0) ⟨by simp, by simp only; omega⟩))).mono ?_
        rintro e w' ⟨A9, c9, rfl, row, bel, off⟩
        exact ⟨RA, rc, A9, c9, by show _ = Ending.returned (.tuple #[_, .agg #[_, _, .slice A9 (tr ++ [((1 : Int), r0)]).length c9, _, _]]); rw [hlen]; rfl, RK.below bel, row, bel, offR_new off⟩
      · by_cases h2 : n = 2
        · subst h2
          have hv : U32 (repV ⟨rep, tk, tr, false, cd⟩) := by
            unfold repV
            split
            · rename_i hlt
              have hm : (max tk 0).toNat < rep.length := by simp only at hlt; omega
              obtain ⟨_, _, _, hwf⟩ := RK.at hm
              have := bounds_u32 hwf
              unfold U32
              simp only at this ⊢
              omega
            · unfold U32; omega
          generalize hrv : repV ⟨rep, tk, tr, false, cd⟩ = rv at *
          generalize htv : repT ⟨rep, tk, tr, false, cd⟩ = tv at *
          unfold U32 at hv
          refine (do_2 pc r0 r1 r2 r3 r4 r5 r6 r7 b s pv RA rc rep.length tk cd TA tc tr.length tr rv tv w (Lib.hid (WITH.out (2, rv) ⟨by simp, by simp only; omega⟩)) TAKE).mono ?_
          rintro e w' ⟨A9, c9, rfl, row, bel, off⟩
          have eg : gateS ⟨pc, [r0, r1, r2, r3, r4, r5, r6, r7], b, s⟩ sum ⟨rep, tk, tr, false, cd⟩ 2 = ((⟨pc, [r0, r1, r2, r3, r4, r5, r6, r7], b, s⟩ : Cp).setR 0 rv, ⟨rep, tv, tr ++ [(2, rv)], false, cd⟩) := by
            rw [← hrv, ← htv]; rfl
          rw [eg]
          exact ⟨RA, rc, A9, c9, by show _ = Ending.returned (.tuple #[_, .agg #[_, _, .slice A9 (tr ++ [((2 : Int), rv)]).length c9, _, _]]); rw [hlen]; rfl, RK.below bel, row, bel, offR_new off⟩
        · by_cases h3 : n = 3
          · subst h3
            obtain ⟨p, g, h, B, T, rfl, m, rfl⟩ := SUM.out rfl rfl
            have hv : U32 (sumV ⟨pc, [r0, r1, r2, r3, r4, r5, r6, r7], b, s⟩ B T) := by
              unfold sumV
              split
              · have := fnvL_bd 2166136261 ((B.drop ((⟨pc, [r0, r1, r2, r3, r4, r5, r6, r7], b, s⟩ : Cp).reg 0).toNat).take ((⟨pc, [r0, r1, r2, r3, r4, r5, r6, r7], b, s⟩ : Cp).reg 1).toNat) (by omega) (by omega)
                unfold U32; omega
              · unfold U32; omega
            have S1 := SC.out p g h B T m
            generalize sumV ⟨pc, [r0, r1, r2, r3, r4, r5, r6, r7], b, s⟩ B T = sv at *
            unfold U32 at hv
            refine (do_3 pc r0 r1 r2 r3 r4 r5 r6 r7 b s (some ⟨p, 0, none⟩) RA rc rep.length tk cd TA tc tr.length tr sv w (Lib.hid (WITH.out (3, sv) ⟨by simp, by simp only; omega⟩)) (Lib.hid S1)).mono ?_
            rintro e w' ⟨A9, c9, rfl, row, bel, off⟩
            exact ⟨RA, rc, A9, c9, by show _ = Ending.returned (.tuple #[_, .agg #[_, _, .slice A9 (tr ++ [((3 : Int), sv)]).length c9, _, _]]); rw [hlen]; rfl, RK.below bel, row, bel, offR_new off⟩
          · have eg : gateS ⟨pc, [r0, r1, r2, r3, r4, r5, r6, r7], b, s⟩ sum ⟨rep, tk, tr, false, cd⟩ n = (⟨pc, [r0, r1, r2, r3, r4, r5, r6, r7], b, s⟩, ⟨rep, tk, tr, false, cd⟩) := by
              unfold gateS
              rw [if_neg (by simp), if_neg h0, if_neg h1, if_neg h2, if_neg h3]
            rw [eg]
            refine (do_none pc r0 r1 r2 r3 r4 r5 r6 r7 b s pv RA rc rep.length tk cd TA tc tr.length w n ⟨h0, h1, h2, h3⟩).mono ?_
            rintro e w' ⟨rfl, bel⟩
            exact ⟨RA, rc, TA, tc, rfl, RK.below bel, RT.below bel, bel, offR_same⟩
  · have eg := gateS_over ⟨pc, [r0, r1, r2, r3, r4, r5, r6, r7], b, s⟩ sum ⟨rep, tk, tr, true, cd⟩ n rfl
    rw [eg]
    refine (do_over pc r0 r1 r2 r3 r4 r5 r6 r7 b s pv RA rc rep.length tk cd TA tc tr.length w n).mono ?_
    rintro e w' ⟨rfl, bel⟩
    exact ⟨RA, rc, TA, tc, rfl, RK.below bel, RT.below bel, bel, offR_same⟩
end Go.Proofs.Ytjfhoaahohinhaa.Mm
