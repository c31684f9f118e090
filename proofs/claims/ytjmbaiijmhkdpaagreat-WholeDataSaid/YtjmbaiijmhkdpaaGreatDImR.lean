/- Merged by wip/tools/regroup: ImgRef, ImgRef2. -/
import Derived.Test.YtjmbaiijmhkdpaaGreatDImC
namespace Go.Proofs.YtjmbaiijmhkdpaaGreat.Mm
open Go.ChangeShapes Go.WideShapes Go.ChangeAt Go.RowKit
set_option linter.unusedVariables false
set_option maxRecDepth 10000
theorem own_eight (w : World) (x y u v : Int) : (w.alloc (.cells #[.int .u8 86, .int .u8 51, .int .u8 50, .int .u8 49, .int .u8 x, .int .u8 y, .int .u8 u, .int .u8 v] 5)).ownsRow w.heap.size 5 1 (.slice (some ⟨w.heap.size, 0, none⟩) 8 8) 8 ([86, 51, 50, 49, x, y, u, v].map (Value.int .u8)) :=
  World.ownsRow_lit (size := 1) (base := w.heap.size) (e := 5) w #[.int .u8 86, .int .u8 51, .int .u8 50, .int .u8 49, .int .u8 x, .int .u8 y, .int .u8 u, .int .u8 v] 8 (by simp) (by unfold maxLen; omega) rfl
theorem rbody (C D : List Int) : ([86, 51, 50, 49, (C.length : Int) % 256, (C.length : Int) / 256, (D.length : Int) % 256, (D.length : Int) / 256] ++ C) ++ D = bodyL C D := by simp [bodyL, headL, lenL]
theorem rLay_any (A B : Option Addr) (ca cb : Nat) (C D : List Int) (c d : Nat) (hc : C.length = c) (hd : D.length = d) (h1 : c ≤ 9000) (h2 : d ≤ 9000) (w : World) (rA : RowAt w A ca C) (rB : RowAt w B cb D) :
    Calls Tryz.prog 27 #[.slice A c ca, .slice B d cb] w fun e w' => e = .returned (.string (strOfNums (layL C D))) ∧ Below w.heap.size w w' := by
  have RA := Lib.hid rA
  have RB := Lib.hid rB
  have hb8 : Bytes [86, 51, 50, 49, (c : Int) % 256, (c : Int) / 256, (d : Int) % 256, (d : Int) / 256] := by intro z hz; simp at hz; omega
  have HB8 := Lib.hid hb8
  have OW := Lib.hid (own_eight w ((c : Int) % 256) ((c : Int) / 256) ((d : Int) % 256) ((d : Int) / 256))
  have HBD := Lib.hid (rbody C D)
  rw [hc, hd] at HBD
  have hbb : Bytes (bodyL C D) := bodyL_byte rA.2.2.1 rB.2.2.1 (by omega) (by omega)
  have hbl : (bodyL C D).length = 8 + c + d := by rw [bodyL_len, hc, hd]
  have fb := fnvL_bd 2166136261 (bodyL C D) (by decide) (by decide)
  have FO := Lib.hid (rfour_any (fnvL 2166136261 (bodyL C D)) fb.1 fb.2)
  have e1 : (c : Int) / 256 % 256 = (c : Int) / 256 := by omega
  have e2 : (d : Int) / 256 % 256 = (d : Int) / 256 := by omega
  have t1 : (c : Int).tmod 256 = (c : Int) % 256 := by rw [Int.tmod_eq_emod_of_nonneg (by omega)]
  have t2 : (d : Int).tmod 256 = (d : Int) % 256 := by rw [Int.tmod_eq_emod_of_nonneg (by omega)]
  have HC := Lib.hid hc
  have HD := Lib.hid hd
  have H1 := Lib.hid h1
  have H2 := Lib.hid h2
  have HBB := Lib.hid hbb
  have HBL := Lib.hid hbl
  have hc0 : (c : Int) ≤ 9000 := by omega
  have hd0 : (d : Int) ≤ 9000 := by omega
  clear rA rB hb8 hbb hbl fb hc hd h1 h2
  go_enter Tryz.func27, Tryz.ntmps27
  go_wp2_with (first
    | (at_builtin
       refine append_row rfl (.tmp 23) (.tmp 24) rfl w.heap.size (.slice (some ⟨w.heap.size, 0, none⟩) 8 8) 8 [86, 51, 50, 49, (c : Int) % 256, (c : Int) / 256, (d : Int) % 256, (d : Int) / 256] rfl OW.out HB8.out A c ca C rfl HC.out.symm ca (RA.out.below (bel_al (Below.refl _ _) _)) (8 + c) rfl (by have := H1.out; omega) (by simp) ?_
       intro A2 c2 w2 own2 row2 bel2
       have HB2 := Lib.hid ((bel_al (Below.refl w.heap.size w) (.cells #[.int .u8 86, .int .u8 51, .int .u8 50, .int .u8 49, .int .u8 ((c : Int) % 256), .int .u8 ((c : Int) / 256), .int .u8 ((d : Int) % 256), .int .u8 ((d : Int) / 256)] 5)).trans bel2)
       have OWN2 := Lib.hid own2
       have ROW2 := Lib.hid row2
       clear own2 row2 bel2)
    | (at_builtin
       refine append_row rfl (.tmp 26) (.tmp 27) rfl w.heap.size (.slice A2 (8 + c) c2) (8 + c) ([86, 51, 50, 49, (c : Int) % 256, (c : Int) / 256, (d : Int) % 256, (d : Int) / 256] ++ C) rfl OWN2.out ROW2.out.2.2.1 B d cb D rfl HD.out.symm cb (RB.out.below HB2.out) (8 + c + d) rfl (by have := H1.out; have := H2.out; omega) HB2.out.size ?_
       intro A3 c3 w3 own3 row3 bel3
       have HB3 := Lib.hid (HB2.out.trans bel3)
       have ROW3 := Lib.hid row3
       clear own3 row3 bel3))
  rw [HBD.out] at ROW3
  have MO : Hid (∀ w' : World, RS w3 w' → Calls Tryz.prog 54 #[.int .u32 2166136261, .slice A3 (8 + c + d) c3] w' fun e w'' => e = .returned (.int .u32 (fnvL 2166136261 (bodyL C D))) ∧ w' = w'') := Lib.hid (fun w' b => by
    have := rmore_any 2166136261 (by decide) (by decide) A3 c3 (bodyL C D) w' (ROW3.out.below b)
    rw [HBL.out] at this
    exact this)
  have CV : Hid (∀ w' : World, Below w3.heap.size w3 w' → (convert 39 9 (.slice A3 (8 + c + d) c3)).run Tryz.prog w' = .ok (.string (strOfNums (bodyL C D))) w') := Lib.hid (fun w' b => conv_row (ROW3.out.below b) _ HBL.out)
  have SZ : ¬ 9223372036854775807 < (strOfNums (bodyL C D)).size + (strOfNums (sumL (bodyL C D))).size := by rw [strOfNums_size, strOfNums_size, HBL.out, sumL_len]; have := H1.out; have := H2.out; omega
  have SA := Lib.hid (str_app (bodyL C D) (sumL (bodyL C D)))
  clear e1 e2 t1 t2
  rw [show b4 (fnvL 2166136261 (bodyL C D)) = sumL (bodyL C D) from rfl] at FO
  go_region_held3 (fun w' => ((convert 39 9 (.slice A3 (8 + c + d) c3)).run Tryz.prog w' = .ok (.string (strOfNums (bodyL C D))) w') ∧ RS w3 w')
    (first | exact RS.s CV.out (Below.refl _ _).drew | exact RS.s CV.out (bel_then (Below.refl _ _).drew hb4))
    (first
      | (go_at_call 54; (with_reducible refine (MO.out _ (by first | exact (Below.refl _ _).drew | exact (‹_ ∧ RS _ _›).2)).mono ?_); rintro e w' ⟨rfl, rfl⟩)
      | (go_at_call 53; (with_reducible refine (FO.out _).mono ?_); rintro e w' ⟨rfl, hb4⟩))
  have HBF := Lib.hid (bel_then (HB3.out.drew) hb4)
  clear hb4
  go_wp2_with fail
  go_ret
  exact ⟨by rw [SA.out]; rfl, HBF.out⟩
end Go.Proofs.YtjmbaiijmhkdpaaGreat.Mm
namespace Go.Proofs.YtjmbaiijmhkdpaaGreat.Mm
open Go.ChangeShapes Go.WideShapes Go.ChangeAt Go.RowKit
set_option linter.unusedVariables false
set_option maxRecDepth 10000
end Go.Proofs.YtjmbaiijmhkdpaaGreat.Mm
