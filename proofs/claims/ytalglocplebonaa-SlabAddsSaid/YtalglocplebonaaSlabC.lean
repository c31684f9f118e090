/- What is asked of package slab's functions, and the document's example. -/
import Derived.Test.YtalglocplebonaaSlabOf
namespace Go.Proofs.Ytalglocplebonaa.Mm
open Go.ChangeShapes Go.WideShapes Go.ChangeAt Go.RowKit
set_option linter.unusedVariables false

def I64r (n : Int) : Prop := -9223372036854775808 ≤ n ∧ n ≤ 9223372036854775807
noncomputable def takeR (L : List Rg) (n s : Int) : Rg := if takeE L n s = 0 then (takeV L n s, s) else (0, 0)
def ApartC : Prop := ∀ (a b : Rg), (-100000 ≤ a.1 ∧ a.1 ≤ 100000 ∧ 0 ≤ a.2 ∧ a.2 ≤ 100000) → (-100000 ≤ b.1 ∧ b.1 ≤ 100000 ∧ 0 ≤ b.2 ∧ b.2 ≤ 100000) → ∀ w : World,
  Calls Try.prog 18 #[.agg #[.int .i64 a.1, .int .i64 a.2], .agg #[.int .i64 b.1, .int .i64 b.2]] w fun e w' => e = .returned (.bool (apartE a b)) ∧ Below w.heap.size w w'
def RightC : Prop := ∀ (A : Option Addr) (cap n : Nat) (L : List Rg) (m : Int), L.length = n → n ≤ 1000 → I64r m → ∀ w : World, RgRow w A cap L →
  Calls Try.prog 13 #[.slice A n cap, .int .i64 m] w fun e w' => e = .returned (.bool (rgtB L m)) ∧ Below w.heap.size w w'
def TakeC : Prop := ∀ (A : Option Addr) (cap n : Nat) (L : List Rg) (m s : Int), L.length = n → n ≤ 1000 → I64r m → I64r s → ∀ w : World, RgRow w A cap L →
  Calls Try.prog 11 #[.slice A n cap, .int .i64 m, .int .i64 s] w fun e w' => e = .returned (.tuple #[.agg #[.int .i64 (takeR L m s).1, .int .i64 (takeR L m s).2], .int .i64 (takeE L m s)]) ∧ Below w.heap.size w w'
def AddC : Prop := ∀ (A : Option Addr) (cap n : Nat) (L : List Rg) (x : Rg), L.length = n → n ≤ 1000 → rgWf x → ∀ w : World, RgRow w A cap L →
  Calls Try.prog 16 #[.slice A n cap, .agg #[.int .i64 x.1, .int .i64 x.2]] w fun e w' => ∃ A' c' M P Q, e = .returned (.slice A' (n + 1) c') ∧ AddIs L x M P Q ∧ RgRow w' A' c' M ∧ Below w.heap.size w w'
def DropC : Prop := ∀ (A : Option Addr) (cap n : Nat) (L : List Rg) (b : Int), L.length = n → n ≤ 1001 → I64r b → ∀ w : World, RgRow w A cap L →
  Calls Try.prog 17 #[.slice A n cap, .int .i64 b] w fun e w' =>
    ((∀ r ∈ L, r.1 ≠ b) ∧ e = .returned (.tuple #[.slice none 0 0, .int .i64 8]) ∧ Below w.heap.size w w') ∨
    (∃ A' c' M P Q x, e = .returned (.tuple #[.slice A' (n - 1) c', .int .i64 0]) ∧ DropIs L b M P Q x ∧ RgRow w' A' c' M ∧ Below w.heap.size w w')
def AwS : Prop := ∀ w : World, Calls Try.prog 9 #[] w fun e w' => e = .returned (.bool true) ∧ Below w.heap.size w w'

theorem take_first : takeE [] 512 128 = 0 ∧ takeV [] 512 128 = 128 := by
  have h1 : rgtB [] 512 = true := rgt_iff.2 (right_nil (by omega) (by omega))
  have h2 : takeV [] 512 128 = 128 := by
    obtain ⟨o, h⟩ := take_ex [] 512 128 (by decide)
    have e : fullL 128 0 = [] := rfl
    rcases full_take (s := 128) (n := 512) (by decide) 0 (o := o) (by rw [e]; exact h) with ⟨rfl, _⟩ | ⟨_, k⟩
    · exact takeV_some h
    · omega
  refine ⟨?_, h2⟩
  unfold takeE
  rw [h1, h2]
  decide
set_option maxHeartbeats 1000000 in
theorem awake_slab (TC : TakeC) : AwS := by
  intro w
  have C1 := Lib.hid (fun w' => TC none 0 0 [] 512 128 rfl (by omega) (by unfold I64r; omega) (by unfold I64r; omega) w' (rgRow_nil w'))
  unfold takeR at C1
  rw [if_pos take_first.1, take_first.1, take_first.2] at C1
  go_enter Try.func9, Try.ntmps9
  go_wp2_with fail
  refine (C1.out _).mono ?_; rintro e w1 ⟨rfl, hb1⟩
  have B1 := Lib.hid hb1; clear hb1
  go_wp2_with fail
  go_ret
  exact ⟨rfl, bel_al B1.out _⟩
end Go.Proofs.Ytalglocplebonaa.Mm
