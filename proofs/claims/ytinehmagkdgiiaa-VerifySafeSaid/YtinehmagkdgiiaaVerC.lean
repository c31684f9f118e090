/- What is asked of package verify's functions, and the document's example. -/
import Derived.Test.YtinehmagkdgiiaaVerMath2
import Derived.Test.YtinehmagkdgiiaaVerZeros
namespace Go.Proofs.Ytinehmagkdgiiaa.Mm
open Go.ChangeShapes Go.WideShapes Go.ChangeAt Go.RowKit
set_option linter.unusedVariables false

def powB (s : Int) : Bool := s == 128 || s == 256 || s == 512 || s == 1024 || s == 2048 || s == 4096 || s == 8192 || s == 16384
def fitsB (n s : Int) : Bool := powB s && decide (0 ≤ n ∧ n ≤ s / 2 - 32)
def insideB (b s a : Int) : Bool := decide (b ≤ a ∧ a < b + s)
def AwC : Prop := ∀ w : World, Calls Try.prog 9 #[] w fun e w' => e = .returned (.bool true) ∧ Below w.heap.size w w'
def CodeC : Prop := ∀ (A : Option Addr) (cap n : Nat) (code : List Int), code.length = n → ∀ w : World, RowAt w A cap code → Calls Try.prog 14 #[.slice A n cap] w fun e w' => e = .returned (.int .i64 (verE code)) ∧ Below w.heap.size w w'
def FitsC : Prop := ∀ (n s : Int), (-9223372036854775808 ≤ n ∧ n ≤ 9223372036854775807) → (-9223372036854775808 ≤ s ∧ s ≤ 9223372036854775807) → ∀ w : World, Calls Try.prog 15 #[.int .i64 n, .int .i64 s] w fun e w' => e = .returned (.bool (fitsB n s)) ∧ Below w.heap.size w w'
def InsideC : Prop := ∀ (b s a : Int), U32 b → U32 s → U32 a → ∀ w : World, Calls Try.prog 22 #[.int .u32 b, .int .u32 s, .int .u32 a] w fun e w' => e = .returned (.bool (insideB b s a)) ∧ Below w.heap.size w w'

theorem ver_15 : verE [15] = 4 := by
  have h1 : scanE [15] = 4 := (scanE_4 (by decide)).1
  have h2 : ruleE [15] = 4 := by rw [(ruleE_scan (by rw [h1]; decide)).1]; exact h1
  have h3 : mayE [15] = 4 := by unfold mayE; rw [if_pos (by rw [h2]; decide)]; exact h2
  unfold verE
  rw [if_pos (by rw [h3]; decide)]; exact h3
theorem row_new32 (w : World) : RowAt (w.alloc (.cells ((List.replicate 32 (0 : Int)).map (Value.int .u8)).toArray 5)) (some ⟨w.heap.size, 0, none⟩) 32 (List.replicate 32 0) :=
  row_blk (l := List.replicate 32 0) (fun x hx => by rw [List.eq_of_mem_replicate hx]; decide) (by rw [List.length_replicate]; unfold maxLen; omega) (HasB.new w 5 _)
set_option maxHeartbeats 1000000 in
theorem awake_of (VC : CodeC) (VF : FitsC) : AwC := by
  intro w
  have mk := make_32 w
  have R1 := Lib.hid (row_new32 w)
  have B1 := Lib.hid (bel_al (Below.refl w.heap.size w) (.cells ((List.replicate 32 (0 : Int)).map (Value.int .u8)).toArray 5))
  generalize w.alloc (.cells ((List.replicate 32 (0 : Int)).map (Value.int .u8)).toArray 5) = w1 at *
  have C1 := Lib.hid (VC (some ⟨w.heap.size, 0, none⟩) 32 32 (List.replicate 32 0) (by rw [List.length_replicate]) w1 R1.out)
  rw [ver_halts 0] at C1
  have C3 := Lib.hid (VF 32 128 (by omega) (by omega))
  rw [show fitsB 32 128 = true by decide] at C3
  have C2 := Lib.hid (fun w2 => VC (some ⟨w2.heap.size, 0, none⟩) 1 1 [15] rfl (w2.alloc (.cells #[.int .u8 15] 5)) (row_blk (l := [15]) (fun x hx => by rw [show x = 15 by simpa using hx]; decide) (by unfold maxLen; decide) (HasB.new w2 5 [.int .u8 15])))
  rw [ver_15] at C2
  go_enter Try.func9, Try.ntmps9
  go_wp2_with fail
  refine C1.out.mono ?_; rintro e w2 ⟨rfl, hb2⟩
  have B2 := Lib.hid (bel_al (bel_then B1.out hb2) (.cells #[.int .u8 15] 5))
  clear hb2 mk
  go_wp2_with fail
  refine (C2.out w2).mono ?_; rintro e w3 ⟨rfl, hb3⟩
  have B3 := Lib.hid (bel_then B2.out hb3)
  clear hb3
  go_wp2_with fail
  refine (C3.out w3).mono ?_; rintro e w4 ⟨rfl, hb4⟩
  have B4 := Lib.hid (bel_then B3.out hb4)
  clear hb4
  go_wp2
  go_ret
  exact ⟨rfl, B4.out⟩

set_option maxHeartbeats 1000000 in
theorem vinside (AW : Hid AwC) (VI : Hid InsideC) (b s a : Int) (hb : U32 b) (hs : U32 s) (ha : U32 a) (w : World) :
    Calls Try.prog 5 #[.int .u32 b, .int .u32 s, .int .u32 a] w fun e w' => e = .returned (.bool true) ∧ Below w.heap.size w w' := by
  have C1 := Lib.hid (VI.out b s a hb hs ha)
  obtain ⟨b0, b1⟩ := hb
  obtain ⟨s0, s1⟩ := hs
  obtain ⟨a0, a1⟩ := ha
  have w1 : IntKind.i64.wrap b = b := IntWalk.i64_in _ (by omega)
  have w2 : IntKind.i64.wrap s = s := IntWalk.i64_in _ (by omega)
  have w3 : IntKind.i64.wrap a = a := IntWalk.i64_in _ (by omega)
  have w4 : IntKind.i64.wrap (b + s) = b + s := IntWalk.i64_in _ (by omega)
  have hc : (decide (b ≤ a) = true ∧ decide (a < b + s) = true ∧ insideB b s a = true) ∨ (decide (b ≤ a) = true ∧ decide (a < b + s) = false ∧ insideB b s a = false) ∨ (decide (b ≤ a) = false ∧ insideB b s a = false) := by
    unfold insideB
    by_cases h1 : b ≤ a
    · by_cases h2 : a < b + s
      · exact .inl ⟨decide_eq_true h1, decide_eq_true h2, decide_eq_true ⟨h1, h2⟩⟩
      · exact .inr (.inl ⟨decide_eq_true h1, decide_eq_false h2, decide_eq_false fun h => h2 h.2⟩)
    · exact .inr (.inr ⟨decide_eq_false h1, decide_eq_false fun h => h1 h.1⟩)
  rcases hc with ⟨h1, h2, h3⟩ | ⟨h1, h2, h3⟩ | ⟨h1, h3⟩
  all_goals
    rw [h3] at C1
    clear h3
    go_enter Try.func5, Try.ntmps5
    go_wp2_with fail
    refine (C1.out _).mono ?_; rintro e w1 ⟨rfl, hb1⟩
    have B1 := Lib.hid hb1; clear hb1
    go_wp2_with fail
    refine (AW.out _).mono ?_; rintro e w2 ⟨rfl, hb2⟩
    have B2 := Lib.hid (bel_then B1.out hb2); clear hb2
    go_wp2
    go_ret
    exact ⟨rfl, B2.out⟩
end Go.Proofs.Ytinehmagkdgiiaa.Mm
