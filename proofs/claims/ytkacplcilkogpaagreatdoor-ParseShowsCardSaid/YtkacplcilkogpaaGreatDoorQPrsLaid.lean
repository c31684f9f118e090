/- What the row's listed variables give the walks. -/
import Derived.Test.YtkacplcilkogpaaGreatDoorQShC
import Derived.Test.YtkacplcilkogpaaGreatDoorRows
import Derived.Stop.LaidErr
import Derived.LaidHandle
import Derived.MakeChecks
import Derived.OpenShut
import Derived.Lib.LaidTab
namespace Go.Proofs.YtkacplcilkogpaaGreatDoor.Mm
open Go.ChangeShapes Go.WideShapes Go.ChangeAt Go.RowKit
set_option linter.unusedVariables false
set_option linter.unusedSimpArgs false
set_option maxRecDepth 10000

theorem gSyn : Tryz.prog.globalNamed "strconv.ErrSyntax" = some 5 := by kernel_rfl
theorem gSynT : (Tryz.prog.globals[5]?).map (·.type) = some 83 := by kernel_rfl
theorem gRng : Tryz.prog.globalNamed "strconv.ErrRange" = some 6 := by kernel_rfl
theorem gRngT : (Tryz.prog.globals[6]?).map (·.type) = some 83 := by kernel_rfl
theorem cES : Tryz.prog.cellsOf 152 = 1 := by kernel_rfl
theorem cST : Tryz.prog.cellsOf 9 = 1 := by kernel_rfl
theorem cU32 : Tryz.prog.cellsOf 32 = 1 := by kernel_rfl
theorem cINT : Tryz.prog.cellsOf 3 = 1 := by kernel_rfl
theorem cSG : Tryz.prog.cellsOf 91 = 3 := by kernel_rfl
theorem cSGS : Tryz.prog.cellsOf 92 = 21 := by kernel_rfl
theorem gSgn : Tryz.prog.globalNamed "corral/parse.signs" = some 1 := by kernel_rfl
theorem gSgnT : (Tryz.prog.globals[1]?).map (·.type) = some 92 := by kernel_rfl
theorem gSp : Tryz.prog.globalNamed "strings.asciiSpace" = some 0 := by kernel_rfl
theorem gSpT : (Tryz.prog.globals[0]?).map (·.type) = some 87 := by kernel_rfl
theorem cSp : Tryz.prog.cellsOf 87 = 256 := by kernel_rfl
theorem gPw : Tryz.prog.globalNamed "internal/strconv.uint64pow10" = some 3 := by kernel_rfl
theorem gPwT : (Tryz.prog.globals[3]?).map (·.type) = some 129 := by kernel_rfl
theorem cPw : Tryz.prog.cellsOf 129 = 20 := by kernel_rfl
theorem cU64 : Tryz.prog.cellsOf 72 = 1 := by kernel_rfl
theorem cU8 : Tryz.prog.cellsOf 5 = 1 := by kernel_rfl
theorem spE : (Rows.laid_strings_asciiSpace : DataW Unit) = Lib.tabData .u8 Lib.asciiSpaceTab := by kernel_rfl
theorem pwE : (Rows.laid_internal_strconv_uint64pow10 : DataW Unit) = Lib.tabData .u64 Lib.pow10Tab := by kernel_rfl
theorem starE : "*" ++ "errors.errorString" = "*errors.errorString" := by decide
theorem rowE (u : TypeId) (h : Tryz.prog.typeName? 3 u = some "*errors.errorString") : u = 150 :=
  typeName_ptr_named (nm := "errors.errorString") (by rw [starE]; kernel_rfl) (by kernel_rfl) (by decide) u (by rw [starE]; exact h)
theorem sgn_row {fuel : Nat} {cs : List Value} {w : World} {x : DataW Unit × List MemPlace} (h : DataW.trod (fun _ => ()) Tryz.prog w 0 (fun _ => true) false fuel 91 cs = some x) (l : Bs) (a b : Int) (hx : x.1 = .agg [.lit (.string l), .lit (.int .u32 a), .lit (.int .i64 b)]) : cs = [.string (strB l), .int .u32 a, .int .i64 b] := by
  obtain ⟨xs, n, _, rfl, hl, hxl, hall⟩ := DataW.trod_struct Tryz.underlying91 h
  have f0 := hall 0 _ rfl
  have f1 := hall 1 _ rfl
  have f2 := hall 2 _ rfl
  match xs, hxl with
  | [y0, y1, y2], _ =>
    rw [cSG] at hl
    match cs, hl with
    | [c0, c1, c2], _ =>
      simp only [cST, cU32, cINT, List.drop_zero, List.drop_succ_cons, List.take_succ_cons, List.take_zero, List.getElem?_cons_zero, List.getElem?_cons_succ] at f0 f1 f2
      obtain ⟨s, e0, r0, _⟩ := DataW.trod_string Tryz.underlying9 f0
      obtain ⟨m, e1, r1, _⟩ := DataW.trod_int Tryz.underlying32 f1
      obtain ⟨k, e2, r2, _⟩ := DataW.trod_int Tryz.underlying3 f2
      subst r0 r1 r2
      simp only [List.map_cons, List.map_nil, DataW.agg.injEq, List.cons.injEq, DataW.lit.injEq, Lit.string.injEq, Lit.int.injEq, true_and, and_true] at hx
      obtain ⟨h0, h1, h2⟩ := hx
      subst h1 h2
      injection e0 with e0 _
      injection e1 with e1 _
      injection e2 with e2 _
      rw [e0, e1, e2, ← h0]
      rfl
theorem cut3 {α : Type} (L : List α) (k : Nat) : L.drop k = (L.drop k).take 3 ++ L.drop (k + 3) := by
  have := List.take_append_drop 3 (L.drop k)
  rw [List.drop_drop] at this
  exact this.symm
theorem sgV_of {W : World} {r : List (String × DataW Unit)} (hL : laidMet Tryz.prog (("corral/parse.signs", Rows.laid_corral_parse_signs) :: r) W) : SgV W := by
  obtain ⟨ps, ⟨g', t', cs, fuel, p, q, hg', ht', hvar, hd, _, _⟩, _⟩ := hL
  obtain rfl := Option.some.inj (gSgn.symm.trans hg')
  obtain rfl := Option.some.inj (gSgnT.symm.trans ht')
  obtain ⟨xs, m, _, hx, hl, hxl, hall⟩ := DataW.trod_array Tryz.underlying92 hd
  have hx1 := congrArg Prod.fst hx
  simp only [Rows.laid_corral_parse_signs, DataW.agg.injEq] at hx1
  rw [cSGS] at hl
  simp only [cSG] at hall
  match xs, hxl with
  | [x0, x1, x2, x3, x4, x5, x6], _ =>
    simp only [List.map_cons, List.map_nil, List.cons.injEq, and_true] at hx1
    obtain ⟨e0, e1, e2, e3, e4, e5, e6⟩ := hx1
    have r0 := sgn_row (hall 0 (by omega)) _ _ _ e0.symm
    have r1 := sgn_row (hall 1 (by omega)) _ _ _ e1.symm
    have r2 := sgn_row (hall 2 (by omega)) _ _ _ e2.symm
    have r3 := sgn_row (hall 3 (by omega)) _ _ _ e3.symm
    have r4 := sgn_row (hall 4 (by omega)) _ _ _ e4.symm
    have r5 := sgn_row (hall 5 (by omega)) _ _ _ e5.symm
    have r6 := sgn_row (hall 6 (by omega)) _ _ _ e6.symm
    have key : cs.toList = sgC := by
      have z : cs.toList = cs.toList.drop (0 * 3) := by simp
      have d : cs.toList.drop (18 + 3) = [] := List.drop_eq_nil_of_le (by omega)
      rw [z, cut3 cs.toList (0 * 3), r0, show 0 * 3 + 3 = 1 * 3 from rfl, cut3 cs.toList (1 * 3), r1, show 1 * 3 + 3 = 2 * 3 from rfl, cut3 cs.toList (2 * 3), r2, show 2 * 3 + 3 = 3 * 3 from rfl, cut3 cs.toList (3 * 3), r3,
        show 3 * 3 + 3 = 4 * 3 from rfl, cut3 cs.toList (4 * 3), r4, show 4 * 3 + 3 = 5 * 3 from rfl, cut3 cs.toList (5 * 3), r5, show 5 * 3 + 3 = 6 * 3 from rfl, cut3 cs.toList (6 * 3), r6, show 6 * 3 + 3 = 18 + 3 from rfl, d]
      rfl
    intro i v hi
    rw [World.var?_cell gSgn hvar i, ← Array.getElem?_toList, key]
    exact hi
theorem envP_of {W : World} (hL : laidMet Tryz.prog [("math/bits.deBruijn32tab", Rows.laid_math_bits_deBruijn32tab), ("math/bits.deBruijn64tab", Rows.laid_math_bits_deBruijn64tab), ("internal/strconv.uint64pow10", Rows.laid_internal_strconv_uint64pow10), ("strconv.ErrRange", Rows.laid_strconv_ErrRange), ("strconv.ErrSyntax", Rows.laid_strconv_ErrSyntax), ("unicode.White_Space", Rows.laid_unicode_White_Space), ("strings.asciiSpace", Rows.laid_strings_asciiSpace), ("corral/parse.signs", Rows.laid_corral_parse_signs)] W) : EnvP W := by
  obtain ⟨a0, s0, hv0, -, -, -⟩ := laid_sentinel hL.tail.tail.tail gRng gRngT Tryz.underlying83 rowE Tryz.underlying150 Tryz.underlying152 rfl rfl Tryz.underlying9 cES cST
  obtain ⟨a1, s1, hv1, -, -, -⟩ := laid_sentinel hL.tail.tail.tail.tail gSyn gSynT Tryz.underlying83 rowE Tryz.underlying150 Tryz.underlying152 rfl rfl Tryz.underlying9 cES cST
  have h2 := hL.tail.tail
  rw [pwE] at h2
  have h6 := hL.tail.tail.tail.tail.tail.tail
  rw [spE] at h6
  exact ⟨⟨_, _, _, _, hv1, hv0⟩, sgV_of hL.tail.tail.tail.tail.tail.tail.tail, Lib.tabIs_of_head gSp gSpT Tryz.underlying87 Tryz.underlying5 cU8 cSp h6, Lib.tabIs_of_head gPw gPwT Tryz.underlying129 Tryz.underlying72 cU64 cPw h2⟩
end Go.Proofs.YtkacplcilkogpaaGreatDoor.Mm
