/- What may stand where: the document's example. -/
import Derived.Test.YtojpcijfipdiaaaRuleSeconds
import Derived.Test.YtojpcijfipdiaaaRuleMath2
import Derived.Test.YtojpcijfipdiaaaScanTwice
namespace Go.Proofs.Ytojpcijfipdiaaa.Mm
open Go.ChangeShapes Go.WideShapes Go.ChangeAt Go.RowKit
set_option linter.unusedVariables false

/-- one that must be a second one, alone -/
theorem pad_one {x : InsV} (hx : x.Ok) (hu : useB x = true) : ruleE (padL [x]) = 5 := by
  have hok : ∀ y ∈ [x], y.Ok := fun y hy => by
    obtain rfl : y = x := by simpa using hy
    exact hx
  have hl := lay_len hx
  have hb := pad_bd [x] 0 hok
  have hf := flat_bd [x] hok
  simp only [List.length_cons, List.length_nil] at hb hf
  have h32 := pad_len32 [x] hok
  have ep : padI 0 [x] = x :: padI (0 + 0 + x.lay.length) [] := by
    show List.replicate (gapN 0 x.lay.length) nopI ++ x :: padI (0 + gapN 0 x.lay.length + x.lay.length) [] = _
    rw [show gapN 0 x.lay.length = 0 by unfold gapN; rw [if_pos (by omega)]]
    rfl
  have hlen : 0 < (padL [x]).length ∧ (padL [x]).length ≤ 4096 := by
    refine ⟨?_, by unfold padL at *; omega⟩
    unfold padL
    rw [ep, flatI_cons, List.length_append]
    omega
  have hs : sizeB (padL [x]).length = true := (sizeB_iff _).2 ⟨by omega, hlen.2, h32⟩
  obtain ⟨e1, e2⟩ := scanE_0 hs (pad_scan _ hok)
  refine (ruleE_5 e1 ?_).1
  rw [e2, ep]
  refine ruleB_no (i := 0) (by rw [withPos_len]; simp) ?_
  unfold standsB
  show (!gateB x && (!useB x || (decide (0 % 32 ≠ 0) && _))) = false
  rw [hu]
  simp
theorem insrow_one {W : World} {g : Nat} {y : InsV} (h : Ins4 W g y) (hy : y.Wf) : InsRow W (some ⟨g, 0, none⟩) 1 [y] := by
  exact ⟨Nat.le_refl _, by unfold maxLen; omega, fun z hz => (by rw [show z = y by simpa using hz]; exact hy), fun _ => ⟨_, rfl, h.hasB.lt, fun i hi => (by
    obtain rfl : i = 0 := (by simpa using hi)
    exact h.at)⟩⟩

def ldI : InsV := ⟨15, 0, 0, 0⟩
theorem ld_ok : ldI.Ok := ⟨by decide, by decide, by decide⟩
theorem ld_wf : ldI.Wf := ⟨by decide, by decide, by decide, by decide, by decide⟩
theorem ld_pad : padR [ldI] = padL [ldI] := by unfold padR; rw [if_pos (ok_all fun y hy => (by rw [show y = ldI by simpa using hy]; exact ld_ok))]
theorem ld_rule : ruleE (padR [ldI]) = 5 := by rw [ld_pad]; exact pad_one ld_ok (by decide)
def mkI : InsV := ⟨17, 2, 0, 0⟩
def l2I : InsV := ⟨15, 0, 2, 0⟩
theorem awake_any (w : World) : Calls Try.prog 7 #[] w fun e w' => e = .returned (.bool true) ∧ Below w.heap.size w w' := by
  have X := insrow_one (Ins4.new w ldI) ld_wf
  have B0 := Lib.hid (bel_al (Below.refl w.heap.size w) (.cells #[.int .i64 15, .int .i64 0, .int .i64 0, .int .u32 0] 36))
  have P := Lib.hid (Pad_any (some ⟨w.heap.size, 0, none⟩) 1 1 [ldI] rfl (by omega) _ X)
  have S := Lib.hid (fun w' => Second_any mkI l2I ⟨by decide, by decide, by decide⟩ ⟨by decide, by decide, by decide⟩ w')
  rw [show pairB mkI l2I = true by decide] at S
  have HR := Lib.hid ld_rule
  unfold PadP ldI at P
  unfold InsV.agg mkI l2I at S
  dsimp only at P S
  clear X
  go_enter Try.func7, Try.ntmps7
  go_wp2_with fail
  refine P.out.mono ?_; rintro e w2 ⟨A, c, rfl, r, hb2⟩
  have B2 := Lib.hid (bel_then B0.out hb2)
  have K := Lib.hid (Keeps_any A c _ _ rfl w2 r)
  rw [show ({ op := 15, a := 0, b := 0, imm := 0 } : InsV) = ldI from rfl, HR.out] at K
  clear r hb2 P
  rw [show ({ op := 15, a := 0, b := 0, imm := 0 } : InsV) = ldI from rfl]
  generalize (padR [ldI]).length = n at *
  go_wp2_with fail
  refine K.out.mono ?_; rintro e w3 ⟨rfl, hb3⟩
  have B3 := Lib.hid (bel_then B2.out hb3); clear hb3
  go_wp2_with fail
  refine (S.out _).mono ?_; rintro e w4 ⟨rfl, hb4⟩
  have B4 := Lib.hid (bel_then B3.out hb4); clear hb4
  go_wp2
  go_ret
  exact ⟨rfl, B4.out⟩
end Go.Proofs.Ytojpcijfipdiaaa.Mm
