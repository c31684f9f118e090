/- The library's and the program's small functions of texts. -/
import Derived.Test.YtnlanaompaaijaaDoorLexRow
import Derived.Test.YtnlanaompaaijaaDoorLexLay
import Derived.Lib.Walk
namespace Go.Proofs.YtnlanaompaaijaaDoor.Mm
open Go.ChangeShapes Go.WideShapes Go.ChangeAt Go.RowKit
set_option linter.unusedVariables false

set_option maxHeartbeats 1000000 in
set_option maxRecDepth 100000 in
theorem lindex_any (s : ByteArray) (c : Int) (w : World) : Calls Tryd.prog 18 #[.string s, .int .u8 c] w fun e w' => e = .returned (.int .i64 (Lib.indexByte s.data.toList c.toNat.toUInt8)) ∧ w = w' := by
  go_enter Tryd.func18, Tryd.ntmps18
  go_wp2
  rw [run_callFunc_extern Tryd.func22 (by kernel_rfl) (by kernel_rfl) (by kernel_rfl) (e := Extern.BytealgIndexByte.indexByte) (by kernel_rfl), Lib.run_indexByteString]
  simp only [Result.andThen]
  rw [Oper.upon_value]
  go_wp2
  go_ret
  exact ⟨rfl, rfl⟩
theorem sindex_any (s : ByteArray) (c : Int) (w : World) : Calls Tryd.prog 13 #[.string s, .int .u8 c] w fun e w' => e = .returned (.int .i64 (Lib.indexByte s.data.toList c.toNat.toUInt8)) ∧ w = w' := by
  go_enter Tryd.func13, Tryd.ntmps13
  go_wp2_with fail
  refine (lindex_any _ _ _).mono ?_; rintro e w1 ⟨rfl, rfl⟩
  go_wp2
  go_ret
  exact ⟨rfl, rfl⟩
theorem sclone_any (s : ByteArray) (w : World) (hlim : s.size ≤ 281474976710656) : Calls Tryd.prog 23 #[.string s] w fun e w' => e = .returned (.string s) ∧ Below w.heap.size w w' := by
  have C := Lib.hid (AnyPu.stringslite_Clone cloneL s w hlim)
  go_enter Tryd.func23, Tryd.ntmps23
  go_wp2_with fail
  refine C.out.mono ?_; rintro e w1 ⟨rfl, hb⟩
  have B := Lib.hid hb
  clear hb
  go_wp2
  go_ret
  exact ⟨rfl, B.out⟩
theorem toList_of (s : ByteArray) : s.toList = s.data.toList := Lib.toList_data s
theorem sprefix_any (s : ByteArray) (w : World) : Calls Tryd.prog 26 #[.string s, .string ⟨#[61, 61]⟩] w fun e w' => e = .returned (.bool (Lib.hasPrefix s.data.toList [61, 61])) ∧ w = w' := by
  have HR := Lib.hid (Lib.hasPrefix_raw s ⟨#[61, 61]⟩)
  have e2 : (⟨#[61, 61]⟩ : ByteArray).size = 2 := rfl
  have e3 : (⟨#[61, 61]⟩ : ByteArray).toList = [61, 61] := by rw [toList_of]
  have HS := Lib.hid e2
  have HT := Lib.hid e3
  clear e2 e3
  go_enter Tryd.func26, Tryd.ntmps26
  go_wp2
  · have h2 : 2 ≤ (s.size : Int) := by assumption
    go_ret
    refine ⟨ret_bool ?_, rfl⟩
    have hr := HR.out
    rw [HS.out, HT.out] at hr
    rw [← hr, decide_eq_true (by omega), Bool.true_and]
  · have h2 : (s.size : Int) < 2 := by assumption
    go_ret
    refine ⟨ret_bool ?_, rfl⟩
    have hr := HR.out
    rw [HS.out] at hr
    rw [← hr, decide_eq_false (by omega), Bool.false_and]
theorem hprefix_any (s : ByteArray) (w : World) : Calls Tryd.prog 21 #[.string s, .string ⟨#[61, 61]⟩] w fun e w' => e = .returned (.bool (Lib.hasPrefix s.data.toList [61, 61])) ∧ w = w' := by
  go_enter Tryd.func21, Tryd.ntmps21
  go_wp2_with fail
  refine (sprefix_any _ _).mono ?_; rintro e w1 ⟨rfl, rfl⟩
  go_wp2
  go_ret
  exact ⟨rfl, rfl⟩
set_option maxHeartbeats 1000000 in
theorem key_any (s : ByteArray) (w : World) : Calls Tryd.prog 9 #[.string s] w fun e w' => e = .returned (.bool (isK s.data.toList)) ∧ w = w' := by
  go_enter Tryd.func9, Tryd.ntmps9
  go_wp2
  all_goals
    rw [← toList_of]
    go_ret
    refine ⟨ret_bool ?_, rfl⟩
    unfold isK lkeys
    simp_all
def aggP (x : Pc) : Value := .agg #[.int .u8 x.1, .string (strB x.2.1), .int .u32 x.2.2]
def optP (o : Option Pc) : Value := .tuple #[aggP (o.getD pc0), .bool o.isSome]
theorem nw_cells (w : World) : HasB (w.alloc (.cells #[.int .u8 0, .string ⟨#[]⟩, .int .u32 0] 29)) w.heap.size 29 [.int .u8 0, .string ⟨#[]⟩, .int .u32 0] := HasB.new w _ _
theorem set3_bel {w w' : World} {g : Nat} (hg : w.heap.size ≤ g) (b : Below w.heap.size w w') (u0 u1 u2 : Value) : Below w.heap.size w (((w'.setCell ⟨g, 0, none⟩ u0).setCell ⟨g, 1, none⟩ u1).setCell ⟨g, 2, none⟩ u2) :=
  ((b.setCell hg u0).setCell hg u1).setCell hg u2
theorem piece_any (k v : Int) (t : ByteArray) (ht : t.size ≤ 281474976710656) (w : World) :
    Calls Tryd.prog 19 #[.int .u8 k, .string t, .int .u32 v] w fun e w' => e = .returned (.agg #[.int .u8 k, .string t, .int .u32 v]) ∧ Below w.heap.size w w' := by
  have C := Lib.hid (fun W => sclone_any t W ht)
  have N0 := Lib.hid (nw_cells w)
  have B0 := Lib.hid (bel_al (Below.refl _ w) (.cells #[.int .u8 0, .string ⟨#[]⟩, .int .u32 0] 29))
  go_enter Tryd.func19, Tryd.ntmps19
  go_wp2_with fail
  refine (C.out _).mono ?_; rintro e w1 ⟨rfl, hb⟩
  have B1 := Lib.hid (bel_then B0.out hb)
  have N1 := N0.out.below hb
  clear hb
  have c0 := N1.cell 0
  have c1 := N1.cell 1
  have c2 := N1.cell 2
  have f0 := N1.frozen 0
  have f1 := N1.frozen 1
  have f2 := N1.frozen 2
  simp only [List.getElem?_cons_zero, List.getElem?_cons_succ] at c0 c1 c2
  clear N1
  go_wp2
  exact bodyPost_ret (v := .agg #[.int .u8 k, .string t, .int .u32 v]) (by simp [results, Tryd.results19, go_sem, c0, c1, c2]) rfl ⟨rfl, set3_bel (Nat.le_refl _) B1.out _ _ _⟩
theorem name_any (t : ByteArray) (ht : t.size ≤ 100000) (w : World) :
    Calls Tryd.prog 14 #[.string t] w fun e w' => e = .returned (optP (nameL t.data.toList)) ∧ Below w.heap.size w w' := by
  have hsz : t.size = t.data.toList.length := by show t.data.size = _; simp
  have N0 := Lib.hid (nw_cells w)
  have B0 := Lib.hid (bel_al (Below.refl _ w) (.cells #[.int .u8 0, .string ⟨#[]⟩, .int .u32 0] 29))
  by_cases h8 : 8 < t.size
  · have hv : Hid (optP (nameL t.data.toList) = .tuple #[.agg #[.int .u8 0, .string ⟨#[]⟩, .int .u32 0], .bool false]) := Lib.hid (by unfold nameL; rw [if_pos (by omega)]; rfl)
    have c0 := N0.out.cell 0
    have c1 := N0.out.cell 1
    have c2 := N0.out.cell 2
    have f0 := N0.out.frozen 0
    have f1 := N0.out.frozen 1
    have f2 := N0.out.frozen 2
    simp only [List.getElem?_cons_zero, List.getElem?_cons_succ] at c0 c1 c2
    clear hsz
    go_enter Tryd.func14, Tryd.ntmps14
    go_wp2_with fail
    refine bodyPost_ret (v := .tuple #[.agg #[.int .u8 0, .string ⟨#[]⟩, .int .u32 0], .bool false]) (by simp [results, Tryd.results14, go_sem, c0, c1, c2]) rfl ⟨by rw [hv.out], B0.out⟩
  · have CK := Lib.hid (fun W => key_any t W)
    have h8' : (t.size : Int) ≤ 8 := by omega
    have CP := Lib.hid (fun k W => piece_any k 0 t (by omega) W)
    cases hq : isK t.data.toList
    · have hv : Hid (nameL t.data.toList = _) := Lib.hid (by unfold nameL; rw [if_neg (by omega), hq])
      rw [hq] at CK
      clear hsz h8 hq
      go_enter Tryd.func14, Tryd.ntmps14
      go_wp2_with fail
      refine (CK.out _).mono ?_; rintro e w1 ⟨rfl, rfl⟩
      go_wp2_with fail
      refine (CP.out _ _).mono ?_; rintro e w1 ⟨rfl, hb⟩
      have B1 := Lib.hid (bel_then B0.out hb)
      have N1 := N0.out.below hb
      clear hb CK CP
      have c0 := N1.cell 0
      have c1 := N1.cell 1
      have c2 := N1.cell 2
      have f0 := N1.frozen 0
      have f1 := N1.frozen 1
      have f2 := N1.frozen 2
      simp only [List.getElem?_cons_zero, List.getElem?_cons_succ] at c0 c1 c2
      clear N1
      go_wp2
      exact bodyPost_ret (v := .tuple #[.agg #[.int .u8 110, .string t, .int .u32 0], .bool true]) (by simp [results, Tryd.results14, go_sem, c0, c1, c2]) rfl ⟨by rw [hv.out]; simp [optP, aggP, strB_of], set3_bel (Nat.le_refl _) B1.out _ _ _⟩
    · have hv : Hid (nameL t.data.toList = _) := Lib.hid (by unfold nameL; rw [if_neg (by omega), hq])
      rw [hq] at CK
      clear hsz h8 hq
      go_enter Tryd.func14, Tryd.ntmps14
      go_wp2_with fail
      refine (CK.out _).mono ?_; rintro e w1 ⟨rfl, rfl⟩
      go_wp2_with fail
      refine (CP.out _ _).mono ?_; rintro e w1 ⟨rfl, hb⟩
      have B1 := Lib.hid (bel_then B0.out hb)
      have N1 := N0.out.below hb
      clear hb CK CP
      have c0 := N1.cell 0
      have c1 := N1.cell 1
      have c2 := N1.cell 2
      have f0 := N1.frozen 0
      have f1 := N1.frozen 1
      have f2 := N1.frozen 2
      simp only [List.getElem?_cons_zero, List.getElem?_cons_succ] at c0 c1 c2
      clear N1
      go_wp2
      exact bodyPost_ret (v := .tuple #[.agg #[.int .u8 107, .string t, .int .u32 0], .bool true]) (by simp [results, Tryd.results14, go_sem, c0, c1, c2]) rfl ⟨by rw [hv.out]; simp [optP, aggP, strB_of], set3_bel (Nat.le_refl _) B1.out _ _ _⟩
end Go.Proofs.YtnlanaompaaijaaDoor.Mm
