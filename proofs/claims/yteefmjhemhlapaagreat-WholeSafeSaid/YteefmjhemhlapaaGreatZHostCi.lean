/- The program's own host: Box, Bytes. -/
import Derived.Test.YteefmjhemhlapaaGreatZHostCg
namespace Go.Proofs.YteefmjhemhlapaaGreat.Mm
open Go.ChangeShapes Go.WideShapes Go.ChangeAt Go.RowKit
set_option linter.unusedVariables false
set_option linter.unusedSimpArgs false
set_option maxRecDepth 10000
set_option maxHeartbeats 4000000
set_option maxHeartbeats 8000000 in
theorem hBytes : HBytesC := by
  intro w hb z h F id ⟨p, g, y, mb, RA, TA, rc, tc, I⟩ H hid
  have IH0 := Lib.hid I
  have HZ := Lib.hid H
  have FC := Lib.hid (find_h I id)
  have LT := Lib.hid I.lt
  clear I H hid
  go_enter Tryz.func19, Tryz.ntmps19
  go_wp2_with fail
  refine FC.out.mono ?_; rintro e w1 ⟨b1, hq⟩
  have I1 := Lib.hid (IH0.out.below b1)
  have B1 := Lib.hid b1
  clear FC b1
  obtain ⟨jb, hjb⟩ : ∃ jb, w1.heap.size = jb := ⟨_, rfl⟩
  obtain ⟨W2, e2, X2, I2, B2, S2⟩ : ∃ W2, w1.alloc (.cells ([.int .u32 0, .int .u32 0, .int .u32 0, .int .u32 0, .int .u32 0, .int .u32 0, .int .u32 0, .int .u32 0, .int .u32 0, .int .u32 0, .int .u32 0, .slice none 0 0, .int .i64 0, .slice none 0 0, .bool false, .int .u32 0, .int .i64 0, .int .i64 0] : List Value).toArray 82) = W2 ∧ Hid (HasB W2 jb 82 [.int .u32 0, .int .u32 0, .int .u32 0, .int .u32 0, .int .u32 0, .int .u32 0, .int .u32 0, .int .u32 0, .int .u32 0, .int .u32 0, .int .u32 0, .slice none 0 0, .int .i64 0, .slice none 0 0, .bool false, .int .u32 0, .int .i64 0, .int .i64 0]) ∧ Hid (HIn W2 hb p g y mb RA TA rc tc h F) ∧ Hid (Below w.heap.size w W2) ∧ Hid (w.heap.size ≤ jb) := by
    have b := bel_al (Below.refl w1.heap.size w1) (.cells ([.int .u32 0, .int .u32 0, .int .u32 0, .int .u32 0, .int .u32 0, .int .u32 0, .int .u32 0, .int .u32 0, .int .u32 0, .int .u32 0, .int .u32 0, .slice none 0 0, .int .i64 0, .slice none 0 0, .bool false, .int .u32 0, .int .i64 0, .int .i64 0] : List Value).toArray 82)
    exact ⟨_, rfl, Lib.hid (by rw [← hjb]; exact HasB.new w1 82 [.int .u32 0, .int .u32 0, .int .u32 0, .int .u32 0, .int .u32 0, .int .u32 0, .int .u32 0, .int .u32 0, .int .u32 0, .int .u32 0, .int .u32 0, .slice none 0 0, .int .i64 0, .slice none 0 0, .bool false, .int .u32 0, .int .i64 0, .int .i64 0]), Lib.hid (I1.out.below b), Lib.hid (bel_then B1.out b), Lib.hid (by rw [← hjb]; exact B1.out.size)⟩
  have ZL := Lib.hid z_len
  rcases hq with ⟨k, s, rfl, hs, rfl⟩ | ⟨hno, rfl⟩
  · have LL := Lib.hid (bx_len (IH0.out.sx k s hs).1.c (RA k) (rc k) (TA k) (tc k))
    have RGC := Lib.hid (fun w' => sb_region IH0.out hs w')
    have HHAS := Lib.hid hs
    obtain ⟨cs0, hcs0⟩ : ∃ cs0, s.x.cs (RA k) (rc k) (TA k) (tc k) = cs0 := ⟨_, rfl⟩
    rw [hcs0] at LL RGC
    rw [hcs0]
    clear hcs0 hs I1 B1
    dsimp only
    go_wp2_with (first
      | (refine st_any rfl 82 (.tmp 6) (.tmp 15) rfl rfl jb [.int .u32 0, .int .u32 0, .int .u32 0, .int .u32 0, .int .u32 0, .int .u32 0, .int .u32 0, .int .u32 0, .int .u32 0, .int .u32 0, .int .u32 0, .slice none 0 0, .int .i64 0, .slice none 0 0, .bool false, .int .u32 0, .int .i64 0, .int .i64 0] cs0 (by rfl) (by rfl) X2.out (by rw [LL.out.1]; rfl) (by rw [LL.out.1]; kernel_rfl) LL.out.2 ?_; intro W3 r3 c3
         have I3 := Lib.hid (I2.out.same c3.size (fun i hi => c3.block i (I2.out.lim i hi) (by have := IH0.out.lim i hi; have := S2.out; omega) (by have := IH0.out.lim i hi; have := S2.out; omega)))
         have B3 := Lib.hid (Below.trans B2.out (Below.ofNew c3 B2.out.size S2.out))
         have X3 := Lib.hid r3
         clear r3 c3)
      | (refine ld_any rfl 82 (.tmp 6) rfl jb (by rfl) cs0 X3.out rfl Tryz.underlying82 (by rw [LL.out.1]; kernel_rfl) ?_))
    refine (RGC.out _).mono ?_; rintro e w4 ⟨rfl, b4⟩
    have I4 := Lib.hid (I3.out.below b4)
    have B4 := Lib.hid (bel_then B3.out b4)
    clear b4 I3 B3 X3 I2 B2 X2 RGC
    obtain ⟨bi, hbi⟩ : ∃ bi, s.r.1 = bi := ⟨_, rfl⟩
    obtain ⟨si, hsi⟩ : ∃ si, s.r.2 = si := ⟨_, rfl⟩
    rw [hbi, hsi]
    have HBI := Lib.hid hbi
    have HSI := Lib.hid hsi
    clear hbi hsi
    obtain ⟨jr, hjr⟩ : ∃ jr, w4.heap.size = jr := ⟨_, rfl⟩
    obtain ⟨W5, e5, X5, I5, B5, S5⟩ : ∃ W5, w4.alloc (.cells #[.int .i64 0, .int .i64 0] 52) = W5 ∧ Hid (HasB W5 jr 52 [.int .i64 0, .int .i64 0]) ∧ Hid (HIn W5 hb p g y mb RA TA rc tc h F) ∧ Hid (Below w.heap.size w W5) ∧ Hid (w.heap.size ≤ jr) := by
      have b := bel_al (Below.refl w4.heap.size w4) (.cells #[.int .i64 0, .int .i64 0] 52)
      exact ⟨_, rfl, Lib.hid (by rw [← hjr]; exact HasB.new w4 52 _), Lib.hid (I4.out.below b), Lib.hid (bel_then B4.out b), Lib.hid (by rw [← hjr]; exact B4.out.size)⟩
    clear I4 B4
    dsimp only
    go_wp2_with (first
      | (refine st_any rfl 52 (.tmp 8) (.tmp 21) rfl rfl jr [.int .i64 0, .int .i64 0] [.int .i64 bi, .int .i64 si] (by rfl) (by rfl) X5.out rfl (by kernel_rfl) (by simp [Value.oneCell']) ?_; intro W6 r6 c6
         have I6 := Lib.hid (I5.out.same c6.size (fun i hi => c6.block i (I5.out.lim i hi) (by have := IH0.out.lim i hi; have := S5.out; omega) (by have := IH0.out.lim i hi; have := S5.out; omega)))
         have B6 := Lib.hid (Below.trans B5.out (Below.ofNew c6 B5.out.size S5.out))
         have X6 := Lib.hid r6
         clear r6 c6))
    have WH : Hid (wholeB h.T bi si = true ∧ 0 ≤ si ∧ si.toNat = 2 * s.hf ∧ bi.toNat = s.b ∧ 2 * s.hf ≤ maxLen) := Lib.hid (by
      have q := rg_nat (HZ.out.rg k s HHAS.out)
      have e1 : bi = (s.b : Int) := HBI.out.symm
      have e2 : si = ((2 * s.hf : Nat) : Int) := HSI.out.symm
      have := (HZ.out.w HHAS.out).wh (s.b : Int) (2 * s.hf) (by omega) (by omega) (by push_cast; omega)
      rw [e1, e2]
      refine ⟨?_, by omega, by omega, by omega, by unfold maxLen; omega⟩
      rw [this]
      exact decide_eq_true (by push_cast; omega))
    have RD0 := read_i (I6.out.mem.below (Below.refl _ _).drew) bi si WH.out.1
    have HBO : Hid (HasB W6.drew hb 69 [.pointer (some ⟨p, 0, none⟩), .map (some mb)]) := Lib.hid (I6.out.own.below (Below.refl _ _).drew)
    have HBR : Hid (HasB W6.drew jr 52 [.int .i64 bi, .int .i64 si]) := Lib.hid (X6.out.below (Below.refl _ _).drew)
    have BD : Hid (Below w.heap.size w W6.drew) := Lib.hid (bel_then B6.out (Below.refl _ _).drew)
    have RD := Lib.hid RD0
    have D5 : Hid (W6.drew.cell? ⟨hb, 0, none⟩ = some (.pointer (some ⟨p, 0, none⟩)) ∧ W6.drew.cell? ⟨jr, 0, none⟩ = some (.int .i64 bi) ∧ W6.drew.cell? ⟨jr, 1, none⟩ = some (.int .i64 si)) := Lib.hid ⟨HBO.out.cell 0, HBR.out.cell 0, HBR.out.cell 1⟩
    have BFIN : Hid (∀ w9, HasB w9 W6.drew.heap.size 5 (((h.B.drop bi.toNat).take si.toNat).map (Value.int .u8)) → Below w.heap.size w w9 → HBytesP w h (k : Int) (.returned (.tuple #[.slice (some ⟨W6.drew.heap.size, 0, none⟩) si.toNat si.toNat, .int .i64 0])) w9) := Lib.hid (fun w9 h9 b9 => by
      have wh := WH.out
      rw [wh.2.2.1, wh.2.2.2.1] at h9
      refine ⟨b9, .inl ⟨k, s, rfl, HHAS.out, some ⟨W6.drew.heap.size, 0, none⟩, 2 * s.hf, by rw [wh.2.2.1], ?_, fun a ha => by cases ha; exact BD.out.size⟩⟩
      have hl := bytesO_len HZ.out HHAS.out
      have hb9 : Bytes (bytesO h s) := fun v hv => HZ.out.by_ v (List.mem_of_mem_drop (List.mem_of_mem_take hv))
      have := row_blk (l := bytesO h s) hb9 (by rw [hl]; exact wh.2.2.2.2) h9
      rw [hl] at this
      exact this)
    clear RD0 I6 B6 X6 I5 B5 X5
    go_wp2_with fail
    refine wp_region_noPanic ?_
    refine wp_region_held_drew (S := (fun w' => w'.cell? ⟨hb, 0, none⟩ = some (.pointer (some ⟨p, 0, none⟩)) ∧ w'.cell? ⟨jr, 0, none⟩ = some (.int .i64 bi) ∧ w'.cell? ⟨jr, 1, none⟩ = some (.int .i64 si))) (by kernel_rfl) ?_ (fun hHeld => ?_)
    · (try dsimp only)
      exact D5.out
    refine wT 0 ?_
    refine wT 1 ?_
    refine wT 2 ?_
    refine wT 3 ?_
    refine wT 4 ?_
    refine wT 5 ?_
    refine wT 6 ?_
    refine wT 7 ?_
    refine wpAnyH_ready (rs := [8]) (by kernel_rfl) (by simp) ?_
    refine rC (fun K hK => ?_) ?_
    · go_simp
      (with_reducible refine RD.out.mono ?_)
      rintro e w9 ⟨rfl, h9, b9⟩
      have E5 : Hid (w9.cell? ⟨hb, 0, none⟩ = some (.pointer (some ⟨p, 0, none⟩)) ∧ w9.cell? ⟨jr, 0, none⟩ = some (.int .i64 bi) ∧ w9.cell? ⟨jr, 1, none⟩ = some (.int .i64 si)) := Lib.hid ⟨(HBO.out.below b9).cell 0, (HBR.out.below b9).cell 0, (HBR.out.below b9).cell 1⟩
      have H9 := Lib.hid h9
      have B9 := Lib.hid (bel_then BD.out b9)
      have S9 := Lib.hid (BD.out.size)
      clear h9 b9
      refine hK.out _ _ ?_ (fun hHeld => ?_)
      · (try dsimp only)
        exact E5.out
      clear hK K
      (try simp only [Act.put, lsA, lsZ, lsS])
      refine wT 9 ?_
      refine wT 10 ?_
      refine wT 11 ?_
      refine wT 12 ?_
      refine wT 13 ?_
      refine wpAnyH_done (by kernel_rfl) ?_ _
      refine NoPanic.normal ?_
      clear hHeld
      go_wp2_with fail
      (try simp only [Act.put, lsA, lsZ, lsS])
      refine bodyPost_ret (v := .tuple #[.slice (some ⟨W6.drew.heap.size, 0, none⟩) si.toNat si.toNat, .int .i64 0]) (by simp [results, Tryz.results19]) rfl ?_
      exact BFIN.out w9 H9.out B9.out
    exact AllReadyH.nil
  · dsimp only
    go_wp2_with (first
      | (refine st_any rfl 82 (.tmp 6) (.tmp 15) rfl rfl jb [.int .u32 0, .int .u32 0, .int .u32 0, .int .u32 0, .int .u32 0, .int .u32 0, .int .u32 0, .int .u32 0, .int .u32 0, .int .u32 0, .int .u32 0, .slice none 0 0, .int .i64 0, .slice none 0 0, .bool false, .int .u32 0, .int .i64 0, .int .i64 0] [.int .u32 0, .int .u32 0, .int .u32 0, .int .u32 0, .int .u32 0, .int .u32 0, .int .u32 0, .int .u32 0, .int .u32 0, .int .u32 0, .int .u32 0, .slice none 0 0, .int .i64 0, .slice none 0 0, .bool false, .int .u32 0, .int .i64 0, .int .i64 0] (by rfl) (by rfl) X2.out rfl (by kernel_rfl) ZL.out.2 ?_; intro W3 r3 c3; have B3 := Lib.hid (Below.trans B2.out (Below.ofNew c3 B2.out.size S2.out))))
    (try simp only [Act.put, lsA, lsZ, lsS])
    refine bodyPost_ret (v := .tuple #[.slice none 0 0, .int .i64 8]) (by simp [results, Tryz.results19]) rfl ?_
    exact ⟨B3.out, .inr ⟨hno, rfl⟩⟩
end Go.Proofs.YteefmjhemhlapaaGreat.Mm
