/- Numbers and signs of a text. -/
import Derived.Test.YtnlanaompaaijaaDoorLexKey
namespace Go.Proofs.YtnlanaompaaijaaDoor.Mm
open Go.ChangeShapes Go.WideShapes Go.ChangeAt Go.RowKit
set_option linter.unusedVariables false

theorem bel_bytes {w w' : World} {t : TypeId} {s : ByteArray} (h : w' = w ∨ w' = Lib.bytesWorld w t s) : Below w.heap.size w w' := by
  rcases h with rfl | rfl
  · exact Below.refl _ _
  · exact Lib.bytesWorld_below _ _ _
theorem parse_ok (s : ByteArray) (hm : s.size ≤ 100000) (u : Nat) (h : Lib.parseUintB 32 s.data.toList = .ok u) (w : World) :
    Calls Tryd.prog 20 #[.string s, .int .i64 10, .int .i64 32] w fun e w' => e = .returned (.tuple #[.int .u64 u, .nilIface]) ∧ Below w.heap.size w w' :=
  (Any.strconv_ParseUint_10_at32_ok parseL s (by omega) u h w).mono fun _ _ h => ⟨h.1, bel_bytes h.2⟩
theorem parse_no (s : ByteArray) (hm : s.size ≤ 100000) (h : ∀ u, Lib.parseUintB 32 s.data.toList ≠ .ok u) (w : World) (hE : ErrV w) :
    Calls Tryd.prog 20 #[.string s, .int .i64 10, .int .i64 32] w fun e w' => ∃ x N, e = .returned (.tuple #[.int .u64 x, .iface 53 (.pointer (some ⟨N, 0, none⟩))]) ∧ Below w.heap.size w w' := by
  obtain ⟨t0, p0, t1, p1, h0, h1⟩ := hE
  rcases hq : Lib.parseUintB 32 s.data.toList with u | _ | _
  · exact absurd hq (h u)
  · exact (Any.strconv_ParseUint_10_at32_syntax_var parseL s (by omega) hq t0 p0 w h0).mono fun _ _ ⟨N, h1, _, _, h4⟩ => ⟨_, N, h1, h4⟩
  · exact (Any.strconv_ParseUint_10_at32_range_var parseL s (by omega) hq t1 p1 w h1).mono fun _ _ ⟨N, h1, _, _, h4⟩ => ⟨_, N, h1, h4⟩
theorem head_byte (t : ByteArray) (h : 0 < t.size) : t.data.toList.headD 0 = t[0] := by
  obtain ⟨⟨l⟩⟩ := t
  match l, h with
  | c :: l, _ => rfl
set_option maxHeartbeats 1000000 in
theorem num_any (t : ByteArray) (ht : t.size ≤ 100000) (h0 : 0 < t.size) (w : World) (hE : ErrV w) :
    Calls Tryd.prog 16 #[.string t] w fun e w' => e = .returned (optP (numL t.data.toList)) ∧ Below w.heap.size w w' := by
  have hsz : t.size = t.data.toList.length := by show t.data.size = _; simp
  have hh := head_byte t h0
  have N0 := Lib.hid (nw_cells w)
  have B0 := Lib.hid (bel_al (Below.refl _ w) (.cells #[.int .u8 0, .string ⟨#[]⟩, .int .u32 0] 29))
  have E0 := Lib.hid (hE.below B0.out)
  by_cases hp : ∃ u, Lib.parseUintB 32 t.data.toList = .ok u
  · obtain ⟨u, hu⟩ := hp
    have C := Lib.hid (fun W => parse_ok t ht u hu W)
    by_cases hz : t[0] = 48 ∧ 1 < t.size
    · have hv : Hid (numL t.data.toList = none) := Lib.hid (by unfold numL; rw [hu]; simp only; rw [if_pos (by rw [hh]; exact ⟨hz.1, by omega⟩)])
      obtain ⟨z0, z1⟩ := hz
      have z2 : ((t[0].toNat : Int) == 48) = true := by rw [z0]; rfl
      have z3 : decide (1 < t.size) = true := decide_eq_true z1
      have z4 : decide (1 < (t.size : Int)) = true := decide_eq_true (by omega)
      clear hsz hh hE hu z0
      go_enter Tryd.func16, Tryd.ntmps16
      go_wp2_with fail
      refine (C.out _).mono ?_; rintro e w1 ⟨rfl, hb⟩
      have B1 := Lib.hid (bel_then B0.out hb)
      have N1 := N0.out.below hb
      clear hb C
      have c0 := N1.cell 0
      have c1 := N1.cell 1
      have c2 := N1.cell 2
      have f0 := N1.frozen 0
      have f1 := N1.frozen 1
      have f2 := N1.frozen 2
      simp only [List.getElem?_cons_zero, List.getElem?_cons_succ] at c0 c1 c2
      clear N1
      go_wp2
      exact bodyPost_ret (v := .tuple #[.agg #[.int .u8 0, .string ⟨#[]⟩, .int .u32 0], .bool false]) (by simp [results, Tryd.results16, go_sem, c0, c1, c2]) rfl ⟨by rw [hv.out]; rfl, set3_bel (Nat.le_refl _) B1.out _ _ _⟩
    · have hle : u ≤ 4294967295 := (num_len hu (by rw [hh, ← hsz]; exact hz)).2
      have hv : Hid (numL t.data.toList = some (48, t.data.toList, (u : Int))) := Lib.hid (by unfold numL; rw [hu]; simp only; rw [if_neg (by rw [hh, ← hsz]; exact hz)])
      have CP := Lib.hid (fun W => piece_any 48 u t (by omega) W)
      have hz2 : ((t[0].toNat : Int) == 48) = false ∨ (((t[0].toNat : Int) == 48) = true ∧ decide (1 < t.size) = false ∧ decide (1 < (t.size : Int)) = false) := by
        cases hq : ((t[0].toNat : Int) == 48)
        · exact .inl rfl
        · right
          have e : t[0] = 48 := by
            have : (t[0].toNat : Int) = 48 := by simpa using hq
            exact UInt8.toNat_inj.1 (by show t[0].toNat = 48; omega)
          exact ⟨rfl, decide_eq_false (fun h => hz ⟨e, h⟩), decide_eq_false (fun h => hz ⟨e, by omega⟩)⟩
      have hv0 : (0 : Int) ≤ u := by omega
      have hv1 : (u : Int) ≤ 4294967295 := by omega
      clear hsz hh hE hu hz hle
      rcases hz2 with z2 | ⟨z2, z3, z4⟩
      all_goals
        go_enter Tryd.func16, Tryd.ntmps16
        go_wp2_with fail
        refine (C.out _).mono ?_; rintro e w1 ⟨rfl, hb⟩
        have B1 := Lib.hid (bel_then B0.out hb)
        have N1 := Lib.hid (N0.out.below hb)
        clear hb C
        go_wp2_with fail
        refine (CP.out _).mono ?_; rintro e w2 ⟨rfl, hb⟩
        have B2 := Lib.hid (bel_then B1.out hb)
        have N1 := N1.out.below hb
        clear hb CP
        have c0 := N1.cell 0
        have c1 := N1.cell 1
        have c2 := N1.cell 2
        have f0 := N1.frozen 0
        have f1 := N1.frozen 1
        have f2 := N1.frozen 2
        simp only [List.getElem?_cons_zero, List.getElem?_cons_succ] at c0 c1 c2
        clear N1
        go_wp2
        exact bodyPost_ret (v := .tuple #[.agg #[.int .u8 48, .string t, .int .u32 u], .bool true]) (by simp [results, Tryd.results16, go_sem, c0, c1, c2]) rfl ⟨by rw [hv.out]; simp [optP, aggP, strB_of], set3_bel (Nat.le_refl _) B2.out _ _ _⟩
  · have hp' : ∀ u, Lib.parseUintB 32 t.data.toList ≠ .ok u := fun u h => hp ⟨u, h⟩
    have hv : Hid (numL t.data.toList = none) := Lib.hid (by
      unfold numL
      split
      · rename_i u hu; exact absurd hu (hp' u)
      · rfl)
    have C := Lib.hid (parse_no t ht hp' _ E0.out)
    clear hsz hh hE hp hp'
    go_enter Tryd.func16, Tryd.ntmps16
    go_wp2_with fail
    refine C.out.mono ?_; rintro e w1 ⟨x, N, rfl, hb⟩
    have B1 := Lib.hid (bel_then B0.out hb)
    have N1 := N0.out.below hb
    clear hb C
    have c0 := N1.cell 0
    have c1 := N1.cell 1
    have c2 := N1.cell 2
    have f0 := N1.frozen 0
    have f1 := N1.frozen 1
    have f2 := N1.frozen 2
    simp only [List.getElem?_cons_zero, List.getElem?_cons_succ] at c0 c1 c2
    clear N1
    go_wp2
    exact bodyPost_ret (v := .tuple #[.agg #[.int .u8 0, .string ⟨#[]⟩, .int .u32 0], .bool false]) (by simp [results, Tryd.results16, go_sem, c0, c1, c2]) rfl ⟨by rw [hv.out]; rfl, set3_bel (Nat.le_refl _) B1.out _ _ _⟩
theorem sign_any (t : ByteArray) (ht : t.size ≤ 100000) (h0 : 0 < t.size) (w : World) :
    Calls Tryd.prog 17 #[.string t] w fun e w' => e = .returned (aggP (signL t.data.toList)) ∧ Below w.heap.size w w' := by
  have N0 := Lib.hid (nw_cells w)
  have B0 := Lib.hid (bel_al (Below.refl _ w) (.cells #[.int .u8 0, .string ⟨#[]⟩, .int .u32 0] 29))
  have CH := Lib.hid (fun W => hprefix_any t W)
  have h1 : 1 ≤ t.size := h0
  have h1i : (1 : Int) ≤ t.size := by omega
  cases hq : Lib.hasPrefix t.data.toList [61, 61]
  · have hv : Hid (signL t.data.toList = (115, (t.extract 0 1).data.toList, 0)) := Lib.hid (by unfold signL; rw [hq, if_neg (by decide)]; simp)
    have hs1 : (t.extract 0 1).size ≤ 100000 := by simp; omega
    have CP := Lib.hid (fun W => piece_any 115 0 (t.extract 0 1) (by omega) W)
    rw [hq] at CH
    clear hq hs1
    go_enter Tryd.func17, Tryd.ntmps17
    go_wp2_with fail
    refine (CH.out _).mono ?_; rintro e w1 ⟨rfl, rfl⟩
    go_wp2_with fail
    refine (CP.out _).mono ?_; rintro e w2 ⟨rfl, hb⟩
    have B1 := Lib.hid (bel_then B0.out hb)
    have N1 := N0.out.below hb
    clear hb CP CH
    have c0 := N1.cell 0
    have c1 := N1.cell 1
    have c2 := N1.cell 2
    have f0 := N1.frozen 0
    have f1 := N1.frozen 1
    have f2 := N1.frozen 2
    simp only [List.getElem?_cons_zero, List.getElem?_cons_succ] at c0 c1 c2
    clear N1
    go_wp2
    exact bodyPost_ret (v := .agg #[.int .u8 115, .string (t.extract 0 1), .int .u32 0]) (by simp [results, Tryd.results17, go_sem, c0, c1, c2]) rfl ⟨by rw [hv.out]; simp only [aggP, strB_of], set3_bel (Nat.le_refl _) B1.out _ _ _⟩
  · have hv : Hid (signL t.data.toList = (115, [61, 61], 0)) := Lib.hid (by unfold signL; rw [hq, if_pos rfl])
    have CP := Lib.hid (fun W => piece_any 115 0 ⟨#[61, 61]⟩ (by decide) W)
    rw [hq] at CH
    clear hq
    go_enter Tryd.func17, Tryd.ntmps17
    go_wp2_with fail
    refine (CH.out _).mono ?_; rintro e w1 ⟨rfl, rfl⟩
    go_wp2_with fail
    refine (CP.out _).mono ?_; rintro e w2 ⟨rfl, hb⟩
    have B1 := Lib.hid (bel_then B0.out hb)
    have N1 := N0.out.below hb
    clear hb CP CH
    have c0 := N1.cell 0
    have c1 := N1.cell 1
    have c2 := N1.cell 2
    have f0 := N1.frozen 0
    have f1 := N1.frozen 1
    have f2 := N1.frozen 2
    simp only [List.getElem?_cons_zero, List.getElem?_cons_succ] at c0 c1 c2
    clear N1
    go_wp2
    exact bodyPost_ret (v := .agg #[.int .u8 115, .string ⟨#[61, 61]⟩, .int .u32 0]) (by simp [results, Tryd.results17, go_sem, c0, c1, c2]) rfl ⟨by rw [hv.out]; rfl, set3_bel (Nat.le_refl _) B1.out _ _ _⟩
end Go.Proofs.YtnlanaompaaijaaDoor.Mm
