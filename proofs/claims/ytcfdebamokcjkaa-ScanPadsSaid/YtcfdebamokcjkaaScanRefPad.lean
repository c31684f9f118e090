/- The document's own Pad. -/
import Derived.Test.YtcfdebamokcjkaaScanPad2
import Derived.Test.YtcfdebamokcjkaaIsaRefLay
namespace Go.Proofs.Ytcfdebamokcjkaa.Mm
open Go.ChangeShapes Go.WideShapes Go.ChangeAt Go.RowKit
set_option linter.unusedVariables false

theorem gap_go {s t g : Nat} (h6 : t ≤ 6) (hg : g ≤ gapN s t) : 32 < (s + g) % 32 + t ↔ g < gapN s t := by
  unfold gapN at *
  by_cases h1 : s % 32 + t ≤ 32
  · rw [if_pos h1] at *; omega
  · rw [if_neg h1] at *; omega
theorem fill_go {s g : Nat} (hg : g ≤ fillN s) : 0 < (s + g) % 32 ↔ g < fillN s := by
  unfold fillN at *; omega
theorem gap_5 {s t : Nat} (h6 : t ≤ 6) : gapN s t ≤ 5 := by
  unfold gapN
  by_cases h1 : s % 32 + t ≤ 32
  · rw [if_pos h1]; omega
  · rw [if_neg h1]; omega
theorem rep_str (B : List Int) (g : Nat) : strOfNums (B ++ List.replicate g 23) ++ ⟨#[23]⟩ = strOfNums (B ++ List.replicate (g + 1) 23) := by
  rw [← rep_snoc, ← str_app (B ++ List.replicate g 23) [23]]
  rfl
theorem one_23 : ({ data := #[23] } : ByteArray).size = 1 := rfl
def szOf : Value → Nat
  | .string s => s.size
  | _ => 0
theorem padL_end {l : List InsV} {B : List Int} (h : PadI l l.length B) : padL l = B ++ List.replicate (fillN B.length) 23 := by
  rw [pad_last h.2.2]
theorem rlay_contract (x : InsV) (hx : x.Wf) (hr : x.right = true) (w : World) : Calls Try.prog 26 #[x.agg] w fun e w' => e = .returned (.string (strOfNums x.lay)) ∧ Below w.heap.size w w' :=
  Go.Proofs.Ytcfdebamokcjkaa.rLay_any x.op x.a x.b x.imm hr hx.2.2.2.1 hx.2.2.2.2 w

set_option maxHeartbeats 2000000 in
theorem rpad_any (A : Option Addr) (cap n : Nat) (l : List InsV) (hn : l.length = n) (h42 : n ≤ 4200) (hall : ∀ j, j < n → (l.getD j insD).right = true) (w : World) (r : InsRow w A cap l) :
    Calls Try.prog 17 #[.slice A n cap] w fun e w' => e = .returned (.string (strOfNums (padL l))) ∧ Below w.heap.size w w' := by
  have R := Lib.hid r
  have HN := Lib.hid hn
  have HA := Lib.hid hall
  clear r hn hall
  go_enter Try.func17, Try.ntmps17
  go_wp2
  go_loopw [3, 4] (fun v i wr => ∃ (k b : Nat) (B : List Int) (S : ByteArray), i = .int .i64 k ∧ k ≤ n ∧ v = .string S ∧ b ≤ 11 * k ∧ S.size = b ∧ Hid (S = strOfNums B) ∧ Hid (B.length = b) ∧ Hid (Below w.heap.size w wr) ∧ Hid (PadI l k B)) (fun _ i _ => n - (intOf i).toNat)
  case atStart => exact ⟨0, 0, [], strOfNums [], rfl, Nat.zero_le _, rfl, by omega, rfl, Lib.hid rfl, Lib.hid rfl, Lib.hid (Below.refl _ _), Lib.hid (padI_0 l)⟩
  case round =>
    obtain ⟨k, b, B, S, rfl, hk, rfl, hb, hsz, HS, HBL, HB, HP⟩ := hrel
    by_cases hlt : k < n
    · obtain ⟨x, rfl, hxb, hc⟩ := (R.out.below HB.out).2.2.2 (by intro e; have := HN.out; rw [e] at this; simp at this; omega)
      obtain ⟨p0, p1, p2, p3⟩ := hc k (by rw [HN.out]; exact hlt)
      have hwf := R.out.2.2.1 _ (mem_getD l k (by rw [HN.out]; exact hlt))
      have hr := HA.out k hlt
      clear hc
      have HLAY := Lib.hid (rlay_contract _ hwf hr)
      have hok := lay_right hwf hr
      have h6 := lay_len hok
      have hby := lay_byte (l.getD k insD)
      have hsy := str_size hby
      have HNX := Lib.hid (padI_next HP.out (by rw [HN.out]; exact hlt) hr _ rfl)
      have HBB := Lib.hid HP.out.2.1
      have HGO := Lib.hid (fun g => @gap_go b (l.getD k insD).lay.length g h6.2)
      have hg5 := @gap_5 b (l.getD k insD).lay.length h6.2
      unfold InsV.agg at HLAY
      clear hok hby hr hwf HP
      rw [HBL.out] at HNX
      generalize hM : (l.getD k insD).lay = M at *
      clear hM
      generalize hS : strOfNums M = T at *
      have HT := Lib.hid hS.symm
      clear hS
      generalize l.getD k insD = v at *
      generalize hT : M.length = t at *
      have HTL := Lib.hid hT
      clear hT
      generalize gapN b t = G at *
      go_wp2_with fail
      refine (HLAY.out _).mono ?_; rintro e w5 ⟨rfl, hb5⟩
      have B5 := Lib.hid (bel_then HB.out hb5)
      clear hb5 HLAY HB
      clear p0 p1 p2 p3
      go_wp2
      go_loopw [3] (fun v w' => ∃ (g : Nat) (S' : ByteArray), g ≤ G ∧ v = .string S' ∧ S'.size = b + g ∧ Hid (S' = strOfNums (B ++ List.replicate g 23)) ∧ Hid (w' = w5)) (fun v _ => b + G - szOf v)
      case atStart => exact ⟨0, S, Nat.zero_le _, rfl, by omega, Lib.hid (by rw [HS.out]; simp), Lib.hid rfl⟩
      case round =>
        obtain ⟨g, S', hg, rfl, hz, HS', HW⟩ := hrel
        have hgo := HGO.out g hg
        by_cases hlg : g < G
        · have h32 : 32 < (((b + g : Nat) : Int)) % 32 + (t : Int) := by have := hgo.2 hlg; omega
          go_wp2
          go_roundw
          case rel => exact ⟨g + 1, _, by omega, rfl, by simp [hz]; rfl, Lib.hid (by rw [HS'.out, rep_str]), HW⟩
          case measure => simp only [szOf, ByteArray.size_append, hz, one_23]; omega
        · have h32 : ¬ 32 < (((b + g : Nat) : Int)) % 32 + (t : Int) := by have := mt hgo.1 hlg; omega
          obtain rfl : g = G := by omega
          go_wp2
          exact ⟨⟨k + 1, b + g + t, B ++ List.replicate g 23 ++ M, S' ++ T, by go_num, by omega, rfl, by omega, by rw [ByteArray.size_append, hz, hsy], Lib.hid (by rw [HS'.out, HT.out, str_app]), Lib.hid (by rw [List.length_append, List.length_append, List.length_replicate, HBL.out, HTL.out]), by rw [HW.out]; exact B5, HNX⟩, by simp [intOf]; omega⟩
    · obtain rfl : k = n := by omega
      have HE := Lib.hid (by have := HP.out; rw [← HN.out] at this; exact padL_end this)
      have HGO := Lib.hid (fun g => @fill_go b g)
      have hf31 : fillN b ≤ 31 := by unfold fillN; omega
      rw [HBL.out] at HE
      clear HP
      generalize fillN b = G at *
      go_wp2
      go_loopw [3] (fun v w' => ∃ (g : Nat) (S' : ByteArray), g ≤ G ∧ v = .string S' ∧ S'.size = b + g ∧ Hid (S' = strOfNums (B ++ List.replicate g 23)) ∧ Hid (w' = wr)) (fun v _ => b + G - szOf v)
      case atStart => exact ⟨0, S, Nat.zero_le _, rfl, by omega, Lib.hid (by rw [HS.out]; simp), Lib.hid rfl⟩
      case round =>
        obtain ⟨g, S', hg, rfl, hz, HS', HW⟩ := hrel
        have hgo := HGO.out g hg
        by_cases hlg : g < G
        · have h32 : 0 < (((b + g : Nat) : Int)) % 32 := by have := hgo.2 hlg; omega
          go_wp2
          go_roundw
          case rel => exact ⟨g + 1, _, by omega, rfl, by simp [hz]; rfl, Lib.hid (by rw [HS'.out, rep_str]), HW⟩
          case measure => simp only [szOf, ByteArray.size_append, hz, one_23]; omega
        · have h32 : ¬ 0 < (((b + g : Nat) : Int)) % 32 := by have := mt hgo.1 hlg; omega
          obtain rfl : g = G := by omega
          go_wp2
          go_ret
          refine ⟨ret_str2 (by rw [HE.out, HS'.out]), by rw [HW.out]; exact HB.out⟩
end Go.Proofs.Ytcfdebamokcjkaa.Mm
