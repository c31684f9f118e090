/- What Starts and Listing answer; the statements' own helpers. -/
import Derived.Test.YtcfdebamokcjkaaScanRead
import Derived.Deep.QuietTactic
import Derived.BigQuiet
namespace Go.Proofs.Ytcfdebamokcjkaa.Mm
open Go.ChangeShapes Go.WideShapes Go.ChangeAt Go.RowKit
set_option linter.unusedVariables false

theorem read_any (A : Option Addr) (cap n : Nat) (code : List Int) (hn : code.length = n) (w : World) (r : RowAt w A cap code) : Calls Try.prog 20 #[.slice A n cap] w (ReadP w code) := by
  subst hn
  cases h : sizeB code.length
  · exact read_size A cap code (by have := r.1; have := r.2.1; omega) h w
  · obtain ⟨h1, h2, h3⟩ := (sizeB_iff _).1 h
    obtain ⟨x, rfl, _⟩ := r.2.2.2 (by intro e; rw [e] at h1; simp at h1)
    exact read_main x cap (code.length / 32) code.length code rfl (by omega) (by omega) (by omega) w r

def StartsP (w : World) (code : List Int) (e : Ending) (w' : World) : Prop :=
  ∃ A c, e = .returned (.tuple #[.slice A (scanL code).length c, .int .i64 (scanE code)]) ∧ IntRow w' A c (posI (scanL code)) ∧ Below w.heap.size w w'
def ListP (w : World) (code : List Int) (e : Ending) (w' : World) : Prop :=
  ∃ A c, e = .returned (.tuple #[.slice A (scanL code).length c, .int .i64 (scanE code)]) ∧ InsRow w' A c (insI (scanL code)) ∧ Below w.heap.size w w'

theorem Starts_any (A : Option Addr) (cap n : Nat) (code : List Int) (hn : code.length = n) (w : World) (r : RowAt w A cap code) : Calls Try.prog 10 #[.slice A n cap] w (StartsP w code) := by
  have C := Lib.hid (read_any A cap n code hn w r)
  clear r hn
  go_enter Try.func10, Try.ntmps10
  go_wp2_with fail
  refine C.out.mono ?_
  rintro e w1 ⟨A1, c1, A2, c2, rfl, i1, i2, hb⟩
  have I1 := Lib.hid i1
  have HB := Lib.hid hb
  clear i1 i2 hb
  go_wp2
  go_ret2
  exact ⟨A1, c1, rfl, I1.out, HB.out⟩
theorem Listing_any (A : Option Addr) (cap n : Nat) (code : List Int) (hn : code.length = n) (w : World) (r : RowAt w A cap code) : Calls Try.prog 11 #[.slice A n cap] w (ListP w code) := by
  have C := Lib.hid (read_any A cap n code hn w r)
  clear r hn
  go_enter Try.func11, Try.ntmps11
  go_wp2_with fail
  refine C.out.mono ?_
  rintro e w1 ⟨A1, c1, A2, c2, rfl, i1, i2, hb⟩
  have I2 := Lib.hid i2
  have HB := Lib.hid hb
  clear i1 i2 hb
  go_wp2
  go_ret2
  exact ⟨A2, c2, rfl, I2.out, HB.out⟩

theorem ints_yes (l : List Int) (A B : Option Addr) (c d n : Nat) (hn : l.length = n) (w : World) (r1 : IntRow w A c l) (r2 : IntRow w B d l) :
    Calls Try.prog 13 #[.slice A n c, .slice B n d] w fun e w' => e = .returned (.int .i64 1) ∧ Below w.heap.size w w' := by
  have R1 := Lib.hid r1
  have R2 := Lib.hid r2
  have HN := Lib.hid hn
  have hm : n ≤ 9223372036854775807 := by have := r1.1; have := r1.2.1; unfold maxLen at *; omega
  clear r1 r2 hn
  go_enter Try.func13, Try.ntmps13
  go_wp2
  go_loopw [5] (fun i wr => ∃ k : Nat, k ≤ n ∧ i = .int .i64 k ∧ Hid (Below w.heap.size w wr)) (fun i _ => n - (intOf i).toNat)
  case atStart => exact ⟨0, Nat.zero_le _, rfl, Lib.hid (Below.refl _ _)⟩
  case round =>
    obtain ⟨k, hk, rfl, HB⟩ := hrel
    by_cases hlt : k < n
    · obtain ⟨x, rfl, _, hc⟩ := (R1.out.below HB.out).2.2 (by intro e; have := HN.out; rw [e] at this; simp at this; omega)
      obtain ⟨y, rfl, _, hd⟩ := (R2.out.below HB.out).2.2 (by intro e; have := HN.out; rw [e] at this; simp at this; omega)
      have e1 := hc k (by rw [HN.out]; exact hlt)
      have e2 := hd k (by rw [HN.out]; exact hlt)
      clear hc hd
      generalize l.getD k 0 = v at *
      go_wp2_with fail
      go_quiet (fail)
      all_goals go_wp2
      all_goals go_roundw
      case rel => exact ⟨k + 1, by omega, by go_num, Lib.hid (below_drewN HB.out _)⟩
      case measure => simp [intOf]; omega
    · obtain rfl : k = n := by omega
      go_wp2
      go_ret
      exact ⟨rfl, HB.out⟩

theorem same_yes (l : List InsV) (A B : Option Addr) (c d n : Nat) (hn : l.length = n) (w : World) (r1 : InsRow w A c l) (r2 : InsRow w B d l) :
    Calls Try.prog 14 #[.slice A n c, .slice B n d] w fun e w' => e = .returned (.int .i64 1) ∧ Below w.heap.size w w' := by
  have R1 := Lib.hid r1
  have R2 := Lib.hid r2
  have HN := Lib.hid hn
  have hm : n ≤ 9223372036854775807 := by have := r1.1; have := r1.2.1; unfold maxLen at *; omega
  clear r1 r2 hn
  go_enter Try.func14, Try.ntmps14
  go_wp2
  go_loopw [5] (fun i wr => ∃ k : Nat, k ≤ n ∧ i = .int .i64 k ∧ Hid (Below w.heap.size w wr)) (fun i _ => n - (intOf i).toNat)
  case atStart => exact ⟨0, Nat.zero_le _, rfl, Lib.hid (Below.refl _ _)⟩
  case round =>
    obtain ⟨k, hk, rfl, HB⟩ := hrel
    by_cases hlt : k < n
    · obtain ⟨x, rfl, _, hc⟩ := (R1.out.below HB.out).2.2.2 (by intro e; have := HN.out; rw [e] at this; simp at this; omega)
      obtain ⟨y, rfl, _, hd⟩ := (R2.out.below HB.out).2.2.2 (by intro e; have := HN.out; rw [e] at this; simp at this; omega)
      obtain ⟨p0, p1, p2, p3⟩ := hc k (by rw [HN.out]; exact hlt)
      obtain ⟨q0, q1, q2, q3⟩ := hd k (by rw [HN.out]; exact hlt)
      clear hc hd
      generalize l.getD k insD = v at *
      go_wp2_with fail
      go_quiet (fail)
      all_goals go_wp2
      all_goals go_roundw
      case rel => exact ⟨k + 1, by omega, by go_num, Lib.hid (below_drewN HB.out _)⟩
      case measure => simp [intOf]; omega
    · obtain rfl : k = n := by omega
      go_wp2
      go_ret
      exact ⟨rfl, HB.out⟩

theorem nops32 : scanE (List.replicate 32 23) = 0 ∧ (scanL (List.replicate 32 23)).length = 32 := by
  have h := scan_flat (List.replicate 32 nopI) (fits_nops 32 0)
  rw [flat_nops] at h
  obtain ⟨e1, e2⟩ := scanE_0 (by rw [List.length_replicate]; decide) h
  exact ⟨e1, by rw [e2, withPos_len, List.length_replicate]⟩
theorem has_set {w : World} {g : Nat} {t : TypeId} {cs : List Value} (h : HasB w g t cs) (i : Nat) (u : Value) : HasB (w.setCell ⟨g, i, none⟩ u) g t (cs.set i u) := by
  unfold HasB at h ⊢
  simp [World.setCell, Array.getElem?_modify, h]
theorem made_rep (n : Nat) (v : Value) (h : v.cells = #[v]) : madeCells v.cells n = (List.replicate n v).toArray := by
  rw [h]
  apply Array.ext
  · rw [size_madeCells]; simp
  · intro i h1 h2
    simp [madeCells, Nat.mod_one]
set_option maxRecDepth 100000 in
theorem make_32 (w : World) :
    (Instr.makeSlice 22 (.int .i64 32) (.int .i64 32)).run Try.prog w = .ok (.slice (some ⟨w.heap.size, 0, none⟩) 32 32) (w.alloc (.cells ((List.replicate 32 (0 : Int)).map (Value.int .u8)).toArray 5)) := by
  obtain ⟨i, hi, hz, hs, hb⟩ := info_parts u8_info
  have := run_makeSlice (P := Try.prog) w 22 5 i (.int .u8 0) Try.underlying22 hi hz .i64 .i64 32 32 (by omega) (by omega) (by rw [hs]; omega) (by rw [hb]; omega) (by omega)
  rw [hs, made_rep _ _ rfl] at this
  rw [List.map_replicate]
  exact this
def nopsK (k : Nat) : List Int := List.replicate k 23 ++ List.replicate (32 - k) 0
theorem nopsK_set (k : Nat) (hk : k < 32) : (nopsK k).set k 23 = nopsK (k + 1) := by
  unfold nopsK
  rw [List.set_append_right _ _ (by simp)]
  obtain ⟨j, hj⟩ : ∃ j, 32 - k = j + 1 := ⟨31 - k, by omega⟩
  rw [List.length_replicate, Nat.sub_self, hj, List.replicate_succ, List.set_cons_zero, show 32 - (k + 1) = j by omega, List.replicate_succ', List.append_assoc]
  rfl
theorem nopsK_len (k : Nat) (hk : k ≤ 32) : (nopsK k).length = 32 := by unfold nopsK; simp; omega
theorem nopsK_byte (k : Nat) : Bytes (nopsK k) := fun x hx => by
  rcases List.mem_append.1 hx with h | h
  · rw [List.eq_of_mem_replicate h]; decide
  · rw [List.eq_of_mem_replicate h]; decide
set_option maxHeartbeats 1000000 in
theorem awake_any (w : World) : Calls Try.prog 9 #[] w fun e w' => e = .returned (.bool true) ∧ Below w.heap.size w w' := by
  have mk := make_32 w
  have h0 : HasB (w.alloc (.cells ((List.replicate 32 (0 : Int)).map (Value.int .u8)).toArray 5)) w.heap.size 5 ((nopsK 0).map (Value.int .u8)) := HasB.new _ _ _
  have b0 : Below w.heap.size w (w.alloc (.cells ((List.replicate 32 (0 : Int)).map (Value.int .u8)).toArray 5)) := bel_al (Below.refl _ _) _
  generalize w.alloc (.cells ((List.replicate 32 (0 : Int)).map (Value.int .u8)).toArray 5) = W0 at mk h0 b0
  have H0 := Lib.hid h0
  have B0 := Lib.hid b0
  clear h0 b0
  go_enter Try.func9, Try.ntmps9
  go_wp2
  clear mk
  go_loopw [2] (fun i wr => ∃ k : Nat, k ≤ 32 ∧ i = .int .i64 k ∧ Hid (HasB wr w.heap.size 5 ((nopsK k).map (Value.int .u8))) ∧ Hid (Below w.heap.size w wr)) (fun i _ => 32 - (intOf i).toNat)
  case atStart => exact ⟨0, Nat.zero_le _, rfl, H0, B0⟩
  case round =>
    obtain ⟨k, hk, rfl, HH, HB⟩ := hrel
    by_cases hlt : k < 32
    · have hc : wr.cell? ⟨w.heap.size, k, none⟩ = some (.int .u8 ((nopsK k).getD k 0)) := by
        rw [HH.out.cell k]; simp [List.getD, show k < (nopsK k).length by rw [nopsK_len k hk]; exact hlt]
      have hf := HH.out.frozen k
      generalize (nopsK k).getD k 0 = v at hc
      go_wp2
      go_roundw
      case rel => exact ⟨k + 1, by omega, by go_num, Lib.hid (by have := has_set HH.out k (.int .u8 23); rwa [← List.map_set, nopsK_set k hlt] at this), Lib.hid (HB.out.setCell (p := ⟨w.heap.size, k, none⟩) (Nat.le_refl _) _)⟩
      case measure => simp [intOf]; omega
    · obtain rfl : k = 32 := by omega
      have hr := row_blk (nopsK_byte 32) (by rw [nopsK_len 32 (by omega)]; decide) HH.out
      rw [nopsK_len 32 (by omega)] at hr
      have C := Lib.hid (Starts_any (some ⟨w.heap.size, 0, none⟩) 32 32 (nopsK 32) (nopsK_len 32 (by omega)) wr hr)
      obtain ⟨e1, e2⟩ := nops32
      rw [show List.replicate 32 (23 : Int) = nopsK 32 from rfl] at e1 e2
      have E1 := Lib.hid e1
      have E2 := Lib.hid e2
      clear hr e1 e2
      go_wp2_with fail
      refine C.out.mono ?_
      rintro e w1 ⟨A1, c1, he, i1, hb⟩
      rw [E1.out, E2.out] at he
      subst he
      have BB := Lib.hid (bel_then HB.out hb)
      clear i1 hb
      go_wp2
      go_ret
      exact ⟨rfl, BB.out⟩
end Go.Proofs.Ytcfdebamokcjkaa.Mm
