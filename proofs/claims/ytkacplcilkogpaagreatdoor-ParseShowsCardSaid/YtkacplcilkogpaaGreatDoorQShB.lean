/- The text of a builder within the shower. -/
import Derived.Test.YtkacplcilkogpaaGreatDoorQPrG
import Derived.Test.YtkacplcilkogpaaGreatDoorQShwLay
import Derived.Test.YtkacplcilkogpaaGreatDoorQShA
import Derived.Lib.Builder
import Derived.Shelf.Strings.Builder1
import Derived.Lib.UnsafeStr
namespace Go.Proofs.YtkacplcilkogpaaGreatDoor.Mm
open Go.ChangeShapes Go.WideShapes Go.ChangeAt Go.RowKit
set_option linter.unusedVariables false
set_option linter.unusedSimpArgs false
set_option maxRecDepth 10000
open Go.ChangeShapes Go.WideShapes Go.ChangeAt Go.RowKit Go.Sort

/-- the shower: its nodes' slice, how many may still be shown, its text -/
structure ShC (B g : Nat) (w : World) (nv : Value) (left : Nat) (l : Bs) (p bv : Value) : Prop where
  hg : g < B
  hB : B ≤ w.heap.size
  cells : HasB w g 52 [nv, .int .i64 left, p, bv]
  ptr : p = .pointer none ∨ p = .pointer (some ⟨g, 2, none⟩)
  own : w.ownsRow B 5 1 bv l.length (Lib.byteCells l)
/-- from one state of it to another: nothing below it, and no block of another kind, is changed -/
structure ShF (g : Nat) (w w' : World) : Prop where
  below : Below g w w'
  has : ∀ k t cs, t ≠ 5 → k ≠ g → HasB w k t cs → HasB w' k t cs
theorem ShF.trans {g : Nat} {w w' w'' : World} (x : ShF g w w') (y : ShF g w' w'') : ShF g w w'' := ⟨x.below.trans y.below, fun k t cs h1 h2 h => y.has k t cs h1 h2 (x.has k t cs h1 h2 h)⟩
theorem ShF.refl (g : Nat) (w : World) : ShF g w w := ⟨.refl _ _, fun _ _ _ _ _ h => h⟩
theorem ShF.of {g : Nat} {w w' : World} (b : Below w.heap.size w w') (hg : g ≤ w.heap.size) : ShF g w w' := ⟨b.mono hg, fun k t cs _ _ h => h.below b⟩
theorem ShF.set {g : Nat} {w w' : World} (x : ShF g w w') (i : Nat) (v : Value) : ShF g w (w'.setCell ⟨g, i, none⟩ v) :=
  ⟨x.below.setCell (p := ⟨g, i, none⟩) (Nat.le_refl _) v, fun k t cs h1 h2 h => (x.has k t cs h1 h2 h).ofr ((Ofr.refl g none w').set i v) h2 (by simp)⟩
theorem ShC.ofr {B g : Nat} {w w' : World} {nv p bv : Value} {left : Nat} {l : Bs} (h : ShC B g w nv left l p bv) (b : Below w.heap.size w w') : ShC B g w' nv left l p bv :=
  ⟨h.hg, Nat.le_trans h.hB b.size, h.cells.below b, h.ptr, own_belowP h.own b⟩
theorem bld_size : (Tryz.prog.info? 50).map (·.size) = some 2 := by kernel_rfl
theorem bld_lies : liesAt Tryz.prog Tryz.prog.depth 52 (4 / Tryz.prog.cellsOf 52) 2 50 1 = true := by kernel_rfl
theorem HasB.shape {w : World} {g : Nat} {t : TypeId} {cs : List Value} (h : HasB w g t cs) : w.shape? g = some (t, cs.length) := by
  unfold HasB at h
  simp [World.shape?, h]
set_option maxHeartbeats 4000000 in
theorem cc_any {B g : Nat} {w : World} {nv p bv : Value} {left : Nat} {l : Bs} (h : ShC B g w nv left l p bv) : Calls Tryz.prog 60 #[.pointer (some ⟨g, 2, none⟩)] w fun e w' => e = .returned (.tuple #[]) ∧ ShC B g w' nv left l (.pointer (some ⟨g, 2, none⟩)) bv ∧ ShF g w w' := by
  obtain ⟨j, hj, hjs⟩ := Option.map_eq_some_iff.1 bld_size
  have c2 := h.cells.cell 2
  have f2 := h.cells.frozen 2
  have hsh := h.cells.shape
  simp only [List.getElem?_cons_zero, List.getElem?_cons_succ, List.length_cons, List.length_nil] at c2 hsh
  have HH := Lib.hid h
  rcases h.ptr with hp | hp
  · have FIN : Hid (ShC B g (w.setCell ⟨g, 2, none⟩ (.pointer (some ⟨g, 2, none⟩))) nv left l (.pointer (some ⟨g, 2, none⟩)) bv ∧ ShF g w (w.setCell ⟨g, 2, none⟩ (.pointer (some ⟨g, 2, none⟩)))) := by
      have o := (Ofr.refl g none w).set 2 (.pointer (some ⟨g, 2, none⟩))
      exact Lib.hid ⟨⟨h.hg, Nat.le_trans h.hB o.size, has_set h.cells 2 _, .inr rfl, own_ofr h.own o h.hg (Classical.em _)⟩, (ShF.refl g w).set 2 _⟩
    subst hp
    clear h
    go_enter Tryz.func60, Tryz.ntmps60
    go_wp2
    rw [Lib.run_to_unsafe (w := w) ⟨g, 2, none⟩ Tryz.underlying47 Tryz.underlying115 hj (by rw [hjs]; decide) hsh (by show 2 < 4; decide)]
    simp only [Result.andThen]
    rw [Oper.upon_value]
    go_wp2
    rw [run_callFunc_extern Tryz.func75 (by kernel_rfl) (by kernel_rfl) (by kernel_rfl) (e := Extern.AbiNoEscape.same) (by kernel_rfl)]
    rw [Lib.run_noEscape]
    simp only [Result.andThen]
    rw [Oper.upon_value]
    go_wp2
    rw [Lib.run_from_unsafe (w := w) ⟨g, 2, none⟩ Tryz.underlying115 Tryz.underlying47 hj hsh bld_lies]
    simp only [Result.andThen]
    rw [Oper.upon_value]
    go_wp2
    go_end0
    exact ⟨rfl, FIN.out⟩
  · subst hp
    clear h
    go_enter Tryz.func60, Tryz.ntmps60
    go_wp2
    rw [Lib.run_neq_ptr_same (w := w) _ Tryz.underlying47 hj]
    go_wp2
    go_end0
    exact ⟨rfl, HH.out, .refl _ _⟩
/-- the text is appended to -/
theorem ShC.put {B g : Nat} {w w' : World} {nv p bv bv' : Value} {left : Nat} {l l' : Bs} (h : ShC B g w nv left l p bv) (hown : w'.ownsRow B 5 1 bv' l'.length (Lib.byteCells l')) (hg : w.grownBy w' bv.ownBlock) :
    ShC B g (w'.setCell ⟨g, 3, none⟩ bv') nv left l' p bv' ∧ ShF g w (w'.setCell ⟨g, 3, none⟩ bv') ∧ HasB w' g 52 [nv, .int .i64 left, p, bv] := by
  have gne : some g ≠ bv.ownBlock := own_neB h.own h.cells (by decide)
  have gh := h.cells.grown hg gne
  have fr : Ofr g bv.ownBlock w w' := ⟨hg.os, hg.tape, hg.output, hg.size, fun k hk _ h2 => hg.block k hk h2⟩
  have fr2 := fr.set 3 bv'
  exact ⟨⟨h.hg, Nat.le_trans h.hB fr2.size, has_set gh 3 bv', h.ptr, own_ofr hown ((Ofr.refl g none w').set 3 bv') h.hg (Classical.em _)⟩, ShF.set ⟨fr.below (Below.refl g w) (by have := h.cells.lt; omega) (Nat.le_refl _) (fun k hk => by have := (h.own.lt k hk).1; have := h.hg; omega), fun k t cs h1 _ hk => hk.grown hg (own_neB h.own hk (Ne.symm h1))⟩ 3 bv', gh⟩
theorem strC_byte (t : Bs) : Lib.strCells (strB t) = Lib.byteCells t := by
  rfl
theorem byteC_app (a b : Bs) : Lib.byteCells (a ++ b) = Lib.byteCells a ++ Lib.byteCells b := by simp [Lib.byteCells]
set_option maxHeartbeats 4000000 in
theorem wb_any {B g : Nat} {w : World} {nv p bv : Value} {left : Nat} {l : Bs} (h : ShC B g w nv left l p bv) (hl : l.length ≤ 100000000) : Calls Tryz.prog 41 #[.pointer (some ⟨g, 2, none⟩), .int .u8 32] w fun e w' => e = .returned .nilIface ∧ ∃ p' bv', ShC B g w' nv left (l ++ [32]) p' bv' ∧ ShF g w w' := by
  obtain ⟨i0, hi, hz0, hz1, hz2⟩ := info_parts u8_info
  have CC := Lib.hid (cc_any h)
  clear h
  go_enter Tryz.func41, Tryz.ntmps41
  go_wp2_with fail
  refine (CC.out).mono ?_; rintro e w1 ⟨rfl, S1, F1⟩
  have S2 := S1.ofr (bel_al (Below.refl _ w1) (.cells #[.int .u8 32] 5))
  have c3 := S1.cells.cell 3
  simp only [List.getElem?_cons_zero, List.getElem?_cons_succ] at c3
  have HS2 := Lib.hid S2
  have HS1 := Lib.hid S1
  have HF1 := Lib.hid F1
  clear S1 F1 CC
  go_wp2_with (at_builtin; refine wpList_append_own_at _ rfl _ _ 48 rfl B 5 i0 (.int .u8 0) 1 1 Tryz.underlying48 hi hz0 hz1 hz2 rfl (by decide) _ _ _ rfl S2.own ⟨w1.heap.size, 0, none⟩ 1 1 [.int .u8 32] rfl rfl ?c1 ?c2 ?c3 ?c4 ?c5 ?_)
  case c1 =>
    intro j u hj
    match j, hj with
    | 0, hj => simp at hj; subst hj; simp [Addr.add]
  case c2 => intro u hu; simp at hu; subst hu; rfl
  case c3 => unfold maxLen; omega
  case c4 => omega
  case c5 => exact S2.hB
  intro v' w2 hown' hgrow _ hnw
  obtain ⟨S3, F3, H3⟩ := HS2.out.put (l' := l ++ [32]) (by rw [byteC_app, List.length_append]; exact hown') hgrow
  have d3 := H3.cell 3
  have f3 := H3.frozen 3
  simp only [List.getElem?_cons_zero, List.getElem?_cons_succ] at d3
  obtain ⟨A, cap, rfl⟩ : ∃ A cap, v' = .slice A (l.length + 1) cap := by
    rcases hown'.2 with ⟨_, h0⟩ | ⟨g', cap, cur, hv, _⟩
    · omega
    · exact ⟨_, cap, hv⟩
  have FIN := Lib.hid (And.intro S3 ((HF1.out.trans (ShF.of (bel_al (Below.refl _ w1) (.cells #[.int .u8 32] 5)) (by have := HS1.out.cells.lt; omega))).trans F3))
  clear S3 F3 H3 S2 hown' hgrow hnw HS2 HF1 HS1
  go_wp2
  go_ret
  exact ⟨rfl, _, _, FIN.out⟩
set_option maxHeartbeats 4000000 in
theorem ws_any {B g : Nat} {w : World} {nv p bv : Value} {left : Nat} {l : Bs} (h : ShC B g w nv left l p bv) (t : Bs) (hl : l.length + t.length ≤ 100000000) : Calls Tryz.prog 42 #[.pointer (some ⟨g, 2, none⟩), .string (strB t)] w fun e w' => e = .returned (.tuple #[.int .i64 t.length, .nilIface]) ∧ ∃ p' bv', ShC B g w' nv left (l ++ t) p' bv' ∧ ShF g w w' := by
  obtain ⟨i0, hi, hz0, hz1, hz2⟩ := info_parts u8_info
  have CC := Lib.hid (cc_any h)
  have hts : (strB t).size = t.length := strB_size t
  clear h
  go_enter Tryz.func42, Tryz.ntmps42
  go_wp2_with fail
  refine (CC.out).mono ?_; rintro e w1 ⟨rfl, S1, F1⟩
  have c3 := S1.cells.cell 3
  simp only [List.getElem?_cons_zero, List.getElem?_cons_succ] at c3
  have HS2 := Lib.hid S1
  have HF1 := Lib.hid F1
  clear F1 CC
  go_wp2_with (at_builtin; refine Lib.wpList_append_own_string _ rfl _ _ 48 9 rfl B 5 i0 Tryz.underlying48 Tryz.underlying9 hi hz0 hz1 hz2 _ _ _ rfl S1.own (strB t) rfl ?c3 ?c4 ?c5 ?_)
  case c3 => unfold maxLen; omega
  case c4 => omega
  case c5 => exact S1.hB
  intro v' w2 hown' hgrow hx
  obtain ⟨S3, F3, H3⟩ := HS2.out.put (l' := l ++ t) (by rw [byteC_app, List.length_append, ← strC_byte]; exact hown') hgrow
  have d3 := H3.cell 3
  have f3 := H3.frozen 3
  simp only [List.getElem?_cons_zero, List.getElem?_cons_succ] at d3
  obtain ⟨A, n', cap, rfl⟩ : ∃ A n' cap, v' = .slice A n' cap := by
    rcases hown'.2 with ⟨hv, h0⟩ | ⟨g', cap, cur, hv, _⟩
    · exact ⟨none, _, 0, hv⟩
    · exact ⟨_, _, cap, hv⟩
  have FIN := Lib.hid (And.intro S3 (HF1.out.trans F3))
  clear S3 F3 H3 S1 hown' hgrow hx HS2 HF1
  go_wp2
  go_ret2
  exact ⟨by first | rfl | (rw [hts]), _, _, FIN.out⟩
/-- the package-level variables that package parse's Show reads -/
structure EnvV (w : World) : Prop where
  sg : SgV w
  sp : Lib.TabIs Tryz.prog w "strings.asciiSpace" .u8 Lib.asciiSpaceTab
  p10 : Lib.TabIs Tryz.prog w "internal/strconv.uint64pow10" .u64 Lib.pow10Tab
theorem EnvV.below {w w' : World} (h : EnvV w) (b : Below w.heap.size w w') : EnvV w' :=
  ⟨h.sg.below b h.sg.lt, var_below h.sp b, var_below h.p10 b⟩
theorem dig_dec : ∀ u : Nat, Lib.decDigits u = digB u := by
  intro u
  induction u using Nat.strongRecOn with
  | _ u ih =>
    rw [Lib.decDigits, digB]
    by_cases h : u < 10
    · simp [h]
    · simp only [h, dite_false, if_false]
      rw [ih (u / 10) (by omega)]
theorem grow_bel {w w' : World} (h : ∃ k os, w' = grow (w.drewN k) os) : Below w.heap.size w w' := by
  obtain ⟨k, os, rfl⟩ := h
  exact ⟨rfl, rfl, rfl, by simp [grow, World.drewN], fun j hj => by simp [grow, World.drewN, Array.getElem?_append, hj]⟩
theorem itoa_any (v : Nat) (hv : v ≤ 4294967295) (w : World) (hE : EnvV w) : Calls Tryz.prog 23 #[.int .i64 v] w fun e w' => e = .returned (.string (strB (digB v))) ∧ Below w.heap.size w w' :=
  (Any.strconv_Itoa itoaL v (by omega) (by omega) w hE.p10).mono (fun e w' h => ⟨by rw [h.1, Lib.itoa_nonneg, dig_dec]; rfl, grow_bel h.2⟩)
theorem trim_any (s : ByteArray) (w : World) : Calls Tryz.prog 16 #[.string s, .string ⟨#[32]⟩] w fun e w' => e = .returned (.string (strB (Lib.trimPrefix s.data.toList [32]))) ∧ w' = w :=
  (Any.strings_TrimPrefix trimL s ⟨#[32]⟩ w).mono (fun e w' h => h)
theorem st_info : (Tryz.prog.info? 9).map (fun i => (i.zero, i.size, i.bytes)) = some (some (.string ByteArray.empty), 1, 16) := by kernel_rfl
theorem sp_glob : Tryz.prog.globalNamed "strings.asciiSpace" = some 0 := by kernel_rfl
theorem fields_any (s : ByteArray) (hs : s.size ≤ 1000) (ha : ∀ b ∈ s.data.toList, b.toNat < 128) (w : World) (hE : EnvV w) : Calls Tryz.prog 24 #[.string s] w fun e w' =>
    e = .returned (.slice (some ⟨w.heap.size, 0, none⟩) (Lib.fields s.data.toList).length (Lib.fields s.data.toList).length) ∧ HasB w' w.heap.size 9 ((Lib.fields s.data.toList).map fun t => .string (strB t)) ∧ Below w.heap.size w w' := by
  refine (Any.strings_Fields fieldsL st_info sp_glob s w (by omega) (fun j b hj => ha b (List.mem_of_getElem? hj)) hE.sp).mono (fun e w' h => ?_)
  refine ⟨h.1, ?_, ?_⟩
  · rw [h.2]; exact HasB.new w _ _
  · rw [h.2]; exact bel_al (Below.refl _ _) _
theorem holds_zero0 (w : World) (T : TypeId) (nd : Nat) (hs : nd ≤ 24) : Holds (fun (b : UInt8) => Value.int .u8 (b.toNat : Int)) (w.alloc (.cells Lib.zeros24 T)) w.heap.size 0 (Array.replicate nd (0 : UInt8)) := fun j hj => by
  have hj' : j < nd := by simpa using hj
  refine ⟨?_, World.frozen?_alloc_new _ _ _ _⟩
  rw [World.cell?_alloc_new, Lib.zeros24_at _ (by omega), getElem!_pos _ j hj]
  simp
theorem fin_pos0 (w : World) (o : Obj) (dk : Array UInt8) (k : Nat) : ∃ os, (putRow (fun (b : UInt8) => Value.int .u8 (b.toNat : Int)) (w.alloc o) w.heap.size 0 dk).drewN k = grow (w.drewN k) os := by
  rw [alloc_eq_grow]
  obtain ⟨os', _, e⟩ := putRow_grow_new (fun (b : UInt8) => Value.int .u8 (b.toNat : Int)) w #[o] w.heap.size 0 dk (Nat.le_refl _)
  exact ⟨os', by rw [e]; rfl⟩
set_option maxHeartbeats 8000000 in
theorem ifmt_any (u : Nat) (hv : u ≤ 4294967295) (w : World) (hE : EnvV w) : Calls Tryz.prog 46 #[.int .u64 u, .int .i64 10] w fun e w' => e = .returned (.string (strB (digB u))) ∧ Below w.heap.size w w' := by
  by_cases hs : u < 100
  · have CS := Any.internal_strconv_small { itoaL with } u hs w
    have hz : (u : Int) < 100 := by omega
    have hw : IntKind.i64.wrap (u : Int) = u := IntWalk.i64_in _ (by omega)
    go_enter Tryz.func46, Tryz.ntmps46
    go_wp2_with fail
    refine CS.mono ?_; rintro e w' ⟨rfl, rfl⟩
    go_wp2
    go_ret
    exact ⟨by rw [dig_dec]; rfl, Below.refl _ _⟩
  · have hu1 : 1 ≤ u := by omega
    have hu64 : u < 18446744073709551616 := by omega
    have hz : ¬ (u : Int) < 100 := by omega
    have hnd : Lib.nDigits u ≤ 20 := by have := Lib.numDigits_eq u hu1 hu64; split at this <;> omega
    have hal : Tryz.prog.arrayLen 108 = 24 := by kernel_rfl
    have hsl : ∀ W, (Instr.sliceAt 108 (.pointer (some ⟨w.heap.size, 0, none⟩)) none (some (.int .i64 (Lib.nDigits u : Int))) none).run Tryz.prog W = .ok (.slice (some ⟨w.heap.size, 0, none⟩) (Lib.nDigits u) 24) W := fun W => by
      rw [run_sliceAt_array_h W 108 ⟨w.heap.size, 0, none⟩ (by rw [Tryz.underlying108, show Tryz.prog.elem 108 = 5 from by kernel_rfl, hal]) .i64 (Lib.nDigits u : Int) (by omega) (by rw [hal]; omega)]
      rw [show Tryz.prog.elem 108 = 5 from by kernel_rfl, Tryz.sizeOf5, hal]
      simp [slicedAt, Addr.add]
    have hH0 := holds_zero0 w 108 (Lib.nDigits u) (by omega)
    have hfmt := Any.internal_strconv_formatBase10 { itoaL with } w.heap.size 0 24 u (Array.replicate (Lib.nDigits u) 0) (w.alloc (.cells Lib.zeros24 108)) hH0 (by rw [Array.size_replicate]; exact Lib.lt_pow_nDigits u) hu64 (by rw [Array.size_replicate]; omega)
    rw [Array.size_replicate] at hfmt
    have CN := Any.internal_strconv_numDigits { itoaL with } u hu1 hu64 (w.alloc (.cells Lib.zeros24 108)) (Lib.tabIs_alloc hE.p10 _)
    have HH0 := Lib.hid hH0
    have hfmt := Lib.hid hfmt
    have CN := Lib.hid CN
    clear hH0 hal hE
    go_enter Tryz.func46, Tryz.ntmps46
    go_wp2_with fail
    refine (CN.out).mono ?_; rintro e w' ⟨rfl, rfl⟩
    go_wp2_with fail
    refine (hfmt.out).mono ?_
    rintro e w' ⟨rfl, k, v', dk, rfl, hF⟩
    have hcv : (convert 48 9 (.slice (some ⟨w.heap.size, 0, none⟩) (Lib.nDigits u) 24)).run Tryz.prog ((putRow (fun (b : UInt8) => Value.int .u8 (b.toNat : Int)) (w.alloc (.cells Lib.zeros24 108)) w.heap.size 0 dk).drewN k) = .ok (.string ⟨(Lib.decDigits u).toArray⟩) ((putRow (fun (b : UInt8) => Value.int .u8 (b.toNat : Int)) (w.alloc (.cells Lib.zeros24 108)) w.heap.size 0 dk).drewN k) := by
      have h := run_convert_bytes_back (P := Tryz.prog) ((putRow (fun (b : UInt8) => Value.int .u8 (b.toNat : Int)) (w.alloc (.cells Lib.zeros24 108)) w.heap.size 0 dk).drewN k) 48 9 5 ⟨w.heap.size, 0, none⟩ 24 (Lib.decDigits u) Tryz.underlying48 Tryz.underlying5 Tryz.underlying9 (fun j hj => by
        rw [Lib.row_is_numeral hF j hj, Lib.add_plain, World.cell?_drewN]
        exact cell?_putRow (fun (b : UInt8) => Value.int .u8 (b.toNat : Int)) _ w.heap.size 0 _ dk HH0.out (by rw [hF.size, Array.size_replicate]) j (by rw [hF.size]; rw [Lib.decDigits_length] at hj; exact hj))
      rw [Lib.decDigits_length] at h
      exact h
    have FIN := Lib.hid (grow_bel (w := w) (by obtain ⟨os, eo⟩ := fin_pos0 w (.cells Lib.zeros24 108) dk k; exact ⟨k, os, eo⟩))
    clear hfmt CN HH0 hF
    go_wp2
    go_ret
    exact ⟨by rw [dig_dec]; rfl, FIN.out⟩
theorem fmt_any (u : Nat) (hv : u ≤ 4294967295) (w : World) (hE : EnvV w) : Calls Tryz.prog 26 #[.int .u64 u, .int .i64 10] w fun e w' => e = .returned (.string (strB (digB u))) ∧ Below w.heap.size w w' := by
  have C := Lib.hid (ifmt_any u hv w hE)
  clear hE
  go_enter Tryz.func26, Tryz.ntmps26
  go_wp2_with fail
  refine (C.out).mono ?_; rintro e w' ⟨rfl, b⟩
  have b := Lib.hid b
  clear C
  go_wp2
  go_ret
  exact ⟨rfl, b.out⟩
/-- the shower holds this text -/
def ShT (B g : Nat) (w : World) (nv : Value) (left : Nat) (l : Bs) : Prop := ∃ p bv, ShC B g w nv left l p bv
theorem ShT.bel {B g : Nat} {w w' : World} {nv : Value} {left : Nat} {l : Bs} (h : ShT B g w nv left l) (b : Below w.heap.size w w') : ShT B g w' nv left l := by
  obtain ⟨p, bv, h⟩ := h; exact ⟨p, bv, h.ofr b⟩
theorem ShT.lt {B g : Nat} {w : World} {nv : Value} {left : Nat} {l : Bs} (h : ShT B g w nv left l) : g < w.heap.size := by
  obtain ⟨p, bv, h⟩ := h; exact h.cells.lt
theorem say_snoc (l : Bs) (ts : List Bs) (t : Bs) : sayB l (ts ++ [t]) = sayB l ts ++ [32] ++ t := by unfold sayB; simp
theorem take_snoc' {ts : List Bs} {k : Nat} (h : k < ts.length) : ts.take (k + 1) = ts.take k ++ [ts.getD k []] := by
  rw [List.take_add_one]; simp [List.getD, h]
set_option maxHeartbeats 4000000 in
theorem say_any {B g q : Nat} {w : World} {nv : Value} {left : Nat} {l : Bs} (h : ShT B g w nv left l) (ts : List Bs) (n : Nat) (hn : n = ts.length) (hq : HasB w q 9 (ts.map fun t => .string (strB t))) (hqg : q ≠ g) (hlen : (sayB l ts).length ≤ 100000000) (hmax : ts.length ≤ 1000) :
    Calls Tryz.prog 22 #[.pointer (some ⟨g, 0, none⟩), .slice (some ⟨q, 0, none⟩) n n] w fun e w' => e = .returned (.tuple #[]) ∧ ShT B g w' nv left (sayB l ts) ∧ ShF g w w' := by
  subst hn
  have HH := Lib.hid h
  have HQ := Lib.hid hq
  have HL := Lib.hid hlen
  clear h hq hlen
  go_enter Tryz.func22, Tryz.ntmps22
  go_wp2_with fail
  go_loopw [8] (fun v wr => ∃ k : Nat, v = .int .i64 k ∧ k ≤ ts.length ∧ Hid (ShT B g wr nv left (sayB l (ts.take k))) ∧ Hid (ShF g w wr)) (fun v _ => ts.length - (intOf v).toNat)
  case atStart => exact ⟨0, rfl, Nat.zero_le _, Lib.hid (by simpa [sayB] using HH.out), Lib.hid (ShF.refl _ _)⟩
  case round =>
    obtain ⟨k, rfl, hk, HS, HF⟩ := hrel
    rcases Nat.lt_or_ge k ts.length with hlt | hge
    · have hkz : (k : Int) < (ts.length : Int) := by omega
      have Q2 := HF.out.has _ _ _ (by decide) hqg HQ.out
      have c0 : wr.cell? ⟨q, k, none⟩ = some (.string (strB (ts.getD k []))) := by rw [Q2.cell k]; simp [List.getD, hlt]
      have hb : (sayB l (ts.take k)).length + 1 + (ts.getD k []).length ≤ 100000000 := by
        have h1 := HL.out
        rw [say_len] at h1 ⊢
        have e := List.take_append_drop k ts
        have e2 : ts.drop k = ts.getD k [] :: ts.drop (k + 1) := by rw [List.drop_eq_getElem_cons hlt]; simp [List.getD, hlt]
        have e3 : (ts.map fun t => t.length + 1).sum = ((ts.take k).map fun t => t.length + 1).sum + ((ts.getD k []).length + 1) + ((ts.drop (k + 1)).map fun t => t.length + 1).sum := by
          conv => lhs; rw [← e, e2]
          simp; omega
        omega
      have hsn := Lib.hid (show sayB l (ts.take (k + 1)) = sayB l (ts.take k) ++ [32] ++ ts.getD k [] by rw [take_snoc' hlt, say_snoc])
      obtain ⟨p, bv, C1⟩ := HS.out
      have CB := Lib.hid (wb_any C1 (by omega))
      have CW := Lib.hid (fun w' p' bv' (c : ShC B g w' nv left (sayB l (ts.take k) ++ [32]) p' bv') => ws_any c (ts.getD k []) (by rw [List.length_append]; simp only [List.length_cons, List.length_nil]; omega))
      clear Q2 C1 HS hb
      generalize ts.getD k [] = t at *
      go_wp2_with fail
      refine (CB.out).mono ?_; rintro e w1 ⟨rfl, p1, bv1, C2, F2⟩
      have CW2 := Lib.hid (CW.out _ _ _ C2)
      have F2 := Lib.hid (HF.out.trans F2)
      clear CB CW C2
      go_wp2_with fail
      refine (CW2.out).mono ?_; rintro e w2 ⟨rfl, p2, bv2, C3, F3⟩
      have FIN := Lib.hid (And.intro (show ShT B g w2 nv left (sayB l (ts.take (k + 1))) by rw [hsn.out]; exact ⟨p2, bv2, C3⟩) (F2.out.trans F3))
      clear CW2 C3 F3
      go_wp2
      exact ⟨⟨k + 1, by simp, by omega, Lib.hid FIN.out.1, Lib.hid FIN.out.2⟩, by simp only [intOf]; omega⟩
    · obtain rfl : k = ts.length := by omega
      go_wp2
      go_end0
      exact ⟨rfl, by have := HS.out; rwa [List.take_length] at this, HF.out⟩
set_option maxHeartbeats 4000000 in
theorem form_any (x : NdR) (L : Value) (w : World) : Calls Tryz.prog 25 #[ndA x L] w fun e w' => e = .returned (.string (strB (formB x.k x.c))) ∧ Below w.heap.size w w' := by
  obtain ⟨xk, xa, xb, xc, xt, xv, xl⟩ := x
  obtain ⟨w1, e1, N1, B1⟩ : ∃ w1, w.alloc (.cells #[.int .i64 xk, .int .i64 xa, .int .i64 xb, .int .i64 xc, .string (strB xt), .int .u32 xv, L] 35) = w1 ∧ HasB w1 w.heap.size 35 [.int .i64 xk, .int .i64 xa, .int .i64 xb, .int .i64 xc, .string (strB xt), .int .u32 xv, L] ∧ Below w.heap.size w w1 := ⟨_, rfl, HasB.new w _ _, bel_al (Below.refl _ _) _⟩
  have c0 := N1.cell 0
  have c3 := N1.cell 3
  simp only [List.getElem?_cons_zero, List.getElem?_cons_succ] at c0 c3
  have B1 := Lib.hid B1
  clear N1
  unfold ndA ndC formB
  simp only
  go_enter Tryz.func25, Tryz.ntmps25
  go_wp2
  all_goals
    go_ret
    refine ⟨?_, B1.out⟩
    simp_all [strB]
set_option maxHeartbeats 4000000 in
theorem whole_any (x : NdR) (L : Value) (w : World) : Calls Tryz.prog 15 #[ndA x L] w fun e w' => e = .returned (.string (strB (formS true x))) ∧ Below w.heap.size w w' := by
  have CF := Lib.hid (fun W => form_any x L W)
  obtain ⟨xk, xa, xb, xc, xt, xv, xl⟩ := x
  obtain ⟨w1, e1, N1, B1⟩ : ∃ w1, w.alloc (.cells #[.int .i64 xk, .int .i64 xa, .int .i64 xb, .int .i64 xc, .string (strB xt), .int .u32 xv, L] 35) = w1 ∧ HasB w1 w.heap.size 35 [.int .i64 xk, .int .i64 xa, .int .i64 xb, .int .i64 xc, .string (strB xt), .int .u32 xv, L] ∧ Below w.heap.size w w1 := ⟨_, rfl, HasB.new w _ _, bel_al (Below.refl _ _) _⟩
  have c0 := N1.cell 0
  have c1 := N1.cell 1
  have c2 := N1.cell 2
  have c3 := N1.cell 3
  have c4 := N1.cell 4
  have c5 := N1.cell 5
  have c6 := N1.cell 6
  simp only [List.getElem?_cons_zero, List.getElem?_cons_succ] at c0 c1 c2 c3 c4 c5 c6
  have B1 := Lib.hid B1
  clear N1
  unfold ndA ndC formS
  simp only [ndA, ndC] at CF ⊢
  by_cases h13 : xk = 13
  · subst h13
    clear CF
    go_enter Tryz.func15, Tryz.ntmps15
    go_wp2
    go_ret
    exact ⟨by simp [strB], B1.out⟩
  · have hv : Hid ((if (true && decide (xk = 13)) = true then [76] else formB xk xc) = formB xk xc) := Lib.hid (by simp [h13])
    rw [hv.out]
    go_enter Tryz.func15, Tryz.ntmps15
    go_wp2_with fail
    refine (CF.out _).mono ?_; rintro e w2 ⟨rfl, b2⟩
    have B2 := Lib.hid (bel_then B1.out b2)
    clear b2 CF
    obtain ⟨z, hz⟩ : ∃ z, Hid (formB xk xc = z) := ⟨_, Lib.hid rfl⟩
    rw [hz.out]
    go_wp2
    go_ret
    exact ⟨by rw [hz.out]; rfl, B2.out⟩
theorem sgn_get : ∀ k, k < 7 → sgnB (sgT.getD k ([], 0, 0)).2.1 = (sgT.getD k ([], 0, 0)).1 := by decide
theorem sgn_no {v : Int} (h : ∀ k, k < 7 → (sgT.getD k ([], 0, 0)).2.1 ≠ v) : sgnB v = [63] := by
  have h0 := h 0 (by omega)
  have h1 := h 1 (by omega)
  have h2 := h 2 (by omega)
  have h3 := h 3 (by omega)
  have h4 := h 4 (by omega)
  have h5 := h 5 (by omega)
  have h6 := h 6 (by omega)
  simp [sgT] at h0 h1 h2 h3 h4 h5 h6
  unfold sgnB
  rw [if_neg (Ne.symm h0), if_neg (Ne.symm h1), if_neg (Ne.symm h2), if_neg (Ne.symm h3), if_neg (Ne.symm h4), if_neg (Ne.symm h5), if_neg (Ne.symm h6)]
set_option maxHeartbeats 4000000 in
theorem sgn_any (v : Int) (w : World) (hE : SgV w) : Calls Tryz.prog 27 #[.int .u32 v] w fun e w' => e = .returned (.string (strB (sgnB v))) ∧ Below w.heap.size w w' := by
  have hsg := hE
  clear hE
  go_enter Tryz.func27, Tryz.ntmps27
  go_wp2_with (refine ld_sg rfl rfl hsg ?_)
  clear hsg
  go_loopw [6] (fun u wr => ∃ k : Nat, u = .int .i64 k ∧ k ≤ 7 ∧ Hid (∀ j, j < k → (sgT.getD j ([], 0, 0)).2.1 ≠ v) ∧ Hid (Below w.heap.size w wr)) (fun u _ => 7 - (intOf u).toNat)
  case atStart => exact ⟨0, rfl, by omega, Lib.hid (fun j hj => by omega), Lib.hid (Below.refl _ _)⟩
  case round =>
    obtain ⟨k, rfl, hk, HF, HB⟩ := hrel
    rcases Nat.lt_or_ge k 7 with hlt | hge
    · have hix := sg_ix k hlt
      have hkz : (k : Int) < 7 := by omega
      have hm : 7 - (k + 1) < 7 - k := by omega
      have hgt := Lib.hid (sgn_get k hlt)
      have hnx := Lib.hid (fun (hne : (sgT.getD k ([], 0, 0)).2.1 ≠ v) => (fun j hj => by
        rcases Nat.lt_or_ge j k with h | h
        · exact HF.out j h
        · obtain rfl : j = k := by omega
          exact hne : ∀ j, j < k + 1 → (sgT.getD j ([], 0, 0)).2.1 ≠ v))
      generalize sgT.getD k ([], 0, 0) = x at *
      obtain ⟨t, o, b'⟩ := x
      simp only at hix hgt hnx
      obtain ⟨W1, e1, N1, B1⟩ := sg_new wr t o b'
      have HB1 := Lib.hid (bel_then HB.out B1)
      have n0 := N1.cell 0
      have n1 := N1.cell 1
      have n2 := N1.cell 2
      simp only [List.getElem?_cons_zero, List.getElem?_cons_succ] at n0 n1 n2
      clear B1 N1
      by_cases hv : o = v
      · subst hv
        clear hnx
        go_wp2
        go_ret
        exact ⟨by rw [hgt.out]; rfl, HB1.out⟩
      · clear hgt
        go_wp2
        exact ⟨⟨k + 1, by simp, by omega, Lib.hid (hnx.out hv), HB1⟩, by simp only [intOf]; omega⟩
    · obtain rfl : k = 7 := by omega
      have hv := Lib.hid (sgn_no HF.out)
      go_wp2
      go_ret
      exact ⟨by rw [hv.out]; simp [strB], HB.out⟩
theorem u8_cells : Tryz.prog.cellsOf 5 = 1 := by kernel_rfl
theorem sh_of {w : World} {k : Nat} {t : TypeId} {cs : Array Value} {fr : Nat × Nat} (h : w.heap[k]? = some (.cells cs t fr)) : w.shape? k = some (t, cs.size) := by simp [World.shape?, h]
set_option maxHeartbeats 8000000 in
theorem str_any {B g : Nat} {w : World} {nv : Value} {left : Nat} {l : Bs} (h : ShT B g w nv left l) : Calls Tryz.prog 17 #[.pointer (some ⟨g, 2, none⟩)] w fun e w' => e = .returned (.string (strB l)) ∧ Below g w w' := by
  obtain ⟨p, bv, h⟩ := h
  have hgB := h.hg
  have hB := h.hB
  have hgw := h.cells.lt
  have c3 := h.cells.cell 3
  simp only [List.getElem?_cons_zero, List.getElem?_cons_succ] at c3
  have c4 : w.drew.cell? ⟨g, 3, none⟩ = some bv := c3
  have HS := Lib.hid h.cells
  have hown := h.own
  clear h
  rcases hown.2 with ⟨hv, h0⟩ | ⟨q, cap, cur, hv, hbq, hq, hnc, hcm, hcs, htake⟩
  · obtain rfl : l = [] := by cases l with | nil => rfl | cons _ _ => simp at h0
    subst hv
    have hUS := Lib.run_unsafeString_none (P := Tryz.prog) w.drew 74 3 9 none
    have hSD : (Builtin.unsafeSliceData_ #[48] 74 #[.slice none 0 0]).run Tryz.prog w.drew = .ok (.pointer none) w.drew := rfl
    clear hown
    go_enter Tryz.func17, Tryz.ntmps17
    go_wp2
    go_region
    all_goals (go_wp2; go_ret; exact ⟨rfl, Below.drew (Below.refl g w)⟩)
  · subst hv
    have hq' : w.drew.heap[q]? = some (.cells cur 5 (0, 0)) := hq
    by_cases h0 : l = []
    · subst h0
      by_cases hc0 : cap = 0
      · subst hc0
        have hUS := fun (W : World) (p : Option Addr) => Lib.run_unsafeString_none (P := Tryz.prog) W 74 3 9 p
        have hSD := Lib.run_unsafeSliceData_zero (P := Tryz.prog) w.drew #[48] 74 5 Tryz.underlying74 ⟨q, 0, none⟩ 0 _ (sh_of hq')
        have c5 : (w.drew.alloc (.view ⟨q, 0, none⟩ 5)).cell? ⟨g, 3, none⟩ = some (.slice (some ⟨q, 0, none⟩) 0 0) := by
          have := (HS.out.below (bel_al (below_drewP (Below.refl w.heap.size w)) (.view ⟨q, 0, none⟩ 5))).cell 3
          simpa using this
        have c6 : (w.alloc (.view ⟨q, 0, none⟩ 5)).drew.cell? ⟨g, 3, none⟩ = some (.slice (some ⟨q, 0, none⟩) 0 0) := c5
        clear hown
        go_enter Tryz.func17, Tryz.ntmps17
        go_wp2
        go_region
        all_goals (go_wp2; go_ret; exact ⟨rfl, (Below.drew (Below.refl g w)).alloc (by show g ≤ w.heap.size; omega) _⟩)
      · have hUS := Lib.run_unsafeString_none (P := Tryz.prog) w.drew 74 3 9 (some ⟨q, 0, none⟩)
        have hSD := Lib.run_unsafeSliceData_row (P := Tryz.prog) w.drew #[48] 74 ⟨q, 0, none⟩ 0 cap hc0
        clear hown hc0
        go_enter Tryz.func17, Tryz.ntmps17
        go_wp2
        go_region
        all_goals (go_wp2; go_ret; exact ⟨rfl, Below.drew (Below.refl g w)⟩)
    · have hl0 : l.length ≠ 0 := by simpa using h0
      have hSD := Lib.run_unsafeSliceData_row (P := Tryz.prog) w.drew #[48] 74 ⟨q, 0, none⟩ l.length cap (by omega)
      have hUS : (Builtin.unsafeString_ #[74, 3] 9 #[.pointer (some ⟨q, 0, none⟩), .int .i64 l.length]).run Tryz.prog w.drew = .ok (.string (strB l)) (w.drew.freeze ⟨q, 0, none⟩ l.length) := by
        refine Lib.run_unsafeString_row w.drew 74 3 9 5 Tryz.underlying74 u8_cells q cur.size (sh_of hq') l h0 (by omega) (by unfold maxLen at hcm; omega) ?_
        intro j x hx
        have := hown.cells (g := q) rfl j (.int .u8 x.toNat) (by simp [Lib.byteCells, hx])
        exact this
      clear hown htake
      go_enter Tryz.func17, Tryz.ntmps17
      go_wp2
      go_region
      all_goals (go_wp2; go_ret; exact ⟨rfl, Lib.below_freeze (Below.drew (Below.refl g w)) (p := ⟨q, 0, none⟩) (by show g ≤ q; omega) _⟩)
end Go.Proofs.YtkacplcilkogpaaGreatDoor.Mm
