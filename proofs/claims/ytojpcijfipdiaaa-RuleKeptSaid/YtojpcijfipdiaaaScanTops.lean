/- What Starts and Listing answer; the statements' own helpers. -/
import Derived.Test.YtojpcijfipdiaaaScanRead
import Derived.Deep.QuietTactic
import Derived.BigQuiet
namespace Go.Proofs.Ytojpcijfipdiaaa.Mm
open Go.ChangeShapes Go.WideShapes Go.ChangeAt Go.RowKit
set_option linter.unusedVariables false

theorem read_any (A : Option Addr) (cap n : Nat) (code : List Int) (hn : code.length = n) (w : World) (r : RowAt w A cap code) : Calls Try.prog 24 #[.slice A n cap] w (ReadP w code) := by
  subst hn
  cases h : sizeB code.length
  · exact read_size A cap code (by have := r.1; have := r.2.1; omega) h w
  · obtain ⟨h1, h2, h3⟩ := (sizeB_iff _).1 h
    obtain ⟨x, rfl, _⟩ := r.2.2.2 (by intro e; rw [e] at h1; simp at h1)
    exact read_main x cap (code.length / 32) code.length code rfl (by omega) (by omega) (by omega) w r

def StartsP (w : World) (code : List Int) (e : Ending) (w' : World) : Prop :=
  ∃ A c, e = .returned (.tuple #[.slice A (scanL code).length c, .int .i64 (scanE code)]) ∧ IntRow w' A c (posI (scanL code)) ∧ Below w.heap.size w w'
def ListP (w : World) (code : List Int) (e : Ending) (w' : World) : Prop :=
  ∃ A c, e = .returned (.tuple #[.slice A (scanL code).length c, .int .i64 (scanE code)]) ∧ InsRow w' A c (insI (scanL code)) ∧ Below w.heap.size w w'

theorem Starts_any (A : Option Addr) (cap n : Nat) (code : List Int) (hn : code.length = n) (w : World) (r : RowAt w A cap code) : Calls Try.prog 14 #[.slice A n cap] w (StartsP w code) := by
  have C := Lib.hid (read_any A cap n code hn w r)
  clear r hn
  go_enter Try.func14, Try.ntmps14
  go_wp2_with fail
  refine C.out.mono ?_
  rintro e w1 ⟨A1, c1, A2, c2, rfl, i1, i2, hb⟩
  have I1 := Lib.hid i1
  have HB := Lib.hid hb
  clear i1 i2 hb
  go_wp2
  go_ret2
  exact ⟨A1, c1, rfl, I1.out, HB.out⟩
theorem Listing_any (A : Option Addr) (cap n : Nat) (code : List Int) (hn : code.length = n) (w : World) (r : RowAt w A cap code) : Calls Try.prog 15 #[.slice A n cap] w (ListP w code) := by
  have C := Lib.hid (read_any A cap n code hn w r)
  clear r hn
  go_enter Try.func15, Try.ntmps15
  go_wp2_with fail
  refine C.out.mono ?_
  rintro e w1 ⟨A1, c1, A2, c2, rfl, i1, i2, hb⟩
  have I2 := Lib.hid i2
  have HB := Lib.hid hb
  clear i1 i2 hb
  go_wp2
  go_ret2
  exact ⟨A2, c2, rfl, I2.out, HB.out⟩

theorem nops32 : scanE (List.replicate 32 23) = 0 ∧ (scanL (List.replicate 32 23)).length = 32 := by
  have h := scan_flat (List.replicate 32 nopI) (fits_nops 32 0)
  rw [flat_nops] at h
  obtain ⟨e1, e2⟩ := scanE_0 (by rw [List.length_replicate]; decide) h
  exact ⟨e1, by rw [e2, withPos_len, List.length_replicate]⟩
theorem has_set {w : World} {g : Nat} {t : TypeId} {cs : List Value} (h : HasB w g t cs) (i : Nat) (u : Value) : HasB (w.setCell ⟨g, i, none⟩ u) g t (cs.set i u) := by
  unfold HasB at h ⊢
  simp [World.setCell, Array.getElem?_modify, h]
theorem made_rep (n : Nat) (v : Value) (h : v.cells = #[v]) : madeCells v.cells n = (List.replicate n v).toArray := by
  rw [h]
  apply Array.ext
  · rw [size_madeCells]; simp
  · intro i h1 h2
    simp [madeCells, Nat.mod_one]
set_option maxRecDepth 100000 in
theorem make_32 (w : World) :
    (Instr.makeSlice 22 (.int .i64 32) (.int .i64 32)).run Try.prog w = .ok (.slice (some ⟨w.heap.size, 0, none⟩) 32 32) (w.alloc (.cells ((List.replicate 32 (0 : Int)).map (Value.int .u8)).toArray 5)) := by
  obtain ⟨i, hi, hz, hs, hb⟩ := info_parts u8_info
  have := run_makeSlice (P := Try.prog) w 22 5 i (.int .u8 0) Try.underlying22 hi hz .i64 .i64 32 32 (by omega) (by omega) (by rw [hs]; omega) (by rw [hb]; omega) (by omega)
  rw [hs, made_rep _ _ rfl] at this
  rw [List.map_replicate]
  exact this
def nopsK (k : Nat) : List Int := List.replicate k 23 ++ List.replicate (32 - k) 0
theorem nopsK_set (k : Nat) (hk : k < 32) : (nopsK k).set k 23 = nopsK (k + 1) := by
  unfold nopsK
  rw [List.set_append_right _ _ (by simp)]
  obtain ⟨j, hj⟩ : ∃ j, 32 - k = j + 1 := ⟨31 - k, by omega⟩
  rw [List.length_replicate, Nat.sub_self, hj, List.replicate_succ, List.set_cons_zero, show 32 - (k + 1) = j by omega, List.replicate_succ', List.append_assoc]
  rfl
theorem nopsK_len (k : Nat) (hk : k ≤ 32) : (nopsK k).length = 32 := by unfold nopsK; simp; omega
theorem nopsK_byte (k : Nat) : Bytes (nopsK k) := fun x hx => by
  rcases List.mem_append.1 hx with h | h
  · rw [List.eq_of_mem_replicate h]; decide
  · rw [List.eq_of_mem_replicate h]; decide
end Go.Proofs.Ytojpcijfipdiaaa.Mm
