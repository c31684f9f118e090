/- Reading an image. -/
import Derived.Test.YtokibkemolmgcaaImgJoin
namespace Go.Proofs.Ytokibkemolmgcaa.Mm
open Go.ChangeShapes Go.WideShapes Go.ChangeAt Go.RowKit
set_option linter.unusedVariables false

theorem i64_or_nat (a b : Nat) (ha : a < 65536) (hb : b < 65536) : bits .or .i64 (a : Int) (b : Int) = ((a ||| b : Nat) : Int) := by
  have hx : a ||| b < 2 ^ 16 := Nat.or_lt_two_pow (by omega) (by omega)
  have e : ∀ n : Nat, n < 65536 → (BitVec.ofInt 64 (n : Int)).toNat = n := fun n hn => by
    rw [BitVec.ofInt_natCast, BitVec.toNat_ofNat]; exact Nat.mod_eq_of_lt (by omega)
  show IntKind.i64.wrap ((BitVec.ofInt 64 (a : Int) ||| BitVec.ofInt 64 (b : Int)).toNat : Int) = _
  rw [BitVec.toNat_or, e a ha, e b hb]
  exact IntWalk.i64_in _ (by omega)
theorem or_two (x y : Int) (x0 : 0 ≤ x) (x1 : x ≤ 255) (y0 : 0 ≤ y) (y1 : y ≤ 255) : bits .or .i64 x (y * 256) = x + 256 * y := by
  obtain ⟨a, rfl⟩ : ∃ n : Nat, x = n := ⟨x.toNat, by omega⟩
  obtain ⟨b, rfl⟩ : ∃ n : Nat, y = n := ⟨y.toNat, by omega⟩
  have e : ((b : Int) * 256) = ((b * 256 : Nat) : Int) := by omega
  rw [e, i64_or_nat a (b * 256) (by omega) (by omega), Nat.or_comm, nat_join 8 (b * 256) a (by omega) (by omega)]
  omega

theorem add_s (x : Addr) (k : Nat) : x.add (k + 1) = ⟨x.block, x.off + (k + 1), none⟩ := by unfold Addr.add; rw [if_neg (by omega)]
theorem lengthAt_any (A : Option Addr) (cap : Nat) (l : List Int) (n k : Nat) (I : Int) (hI : I = k) (hn : l.length = n) (hk : k + 1 < n) (hl : n ≤ 100000) (w : World) (r : RowAt w A cap l) :
    Calls Try.prog 19 #[.slice A n cap, .int .i64 I] w fun e w' => e = .returned (.int .i64 (lenAt l k)) ∧ Below w.heap.size w w' := by
  subst hI
  obtain ⟨x, rfl, _, hc⟩ := r.2.2.2 (by intro e; subst e; simp at hn; omega)
  have c0 := hc k (by omega)
  have c1 := hc (k + 1) (by omega)
  rw [add_s] at c1
  have b0 := row_byte r.2.2.1 k
  have b1 := row_byte r.2.2.1 (k + 1)
  have HV := Lib.hid (show lenAt l k = l.getD k 0 + 256 * l.getD (k + 1) 0 from rfl)
  generalize l.getD k 0 = p at *
  generalize l.getD (k + 1) 0 = q at *
  have HO := or_two p q b0.1 b0.2 b1.1 b1.2
  obtain ⟨p0, p1⟩ := b0
  obtain ⟨q0, q1⟩ := b1
  have e1 : IntKind.i64.wrap ((k : Int) + 1) = (k : Int) + 1 := IntWalk.i64_in _ (by omega)
  have e2 : IntKind.i64.wrap (q * 256) = q * 256 := IntWalk.i64_in _ (by omega)
  have e3 : (0 : Int) ≤ k := by omega
  have ep : IntKind.i64.wrap p = p := IntWalk.i64_in _ (by omega)
  have eq : IntKind.i64.wrap q = q := IntWalk.i64_in _ (by omega)
  have e4 : (k : Int) < (n : Int) := by omega
  have e5 : (0 : Int) ≤ (k : Int) + 1 := by omega
  have e6 : (k : Int) + 1 < (n : Int) := by omega
  have e7 : ((k : Int) + 1).toNat = k + 1 := by omega
  clear hc r
  go_enter Try.func19, Try.ntmps19
  go_wp2_with fail
  go_quiet (fail)
  go_wp2
  go_ret
  exact ⟨ret_int HV.out.symm, below_drewN (Below.refl _ _) _⟩
end Go.Proofs.Ytokibkemolmgcaa.Mm
