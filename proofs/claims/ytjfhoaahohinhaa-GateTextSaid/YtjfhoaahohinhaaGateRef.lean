/- The document's text of events (corralref12.Text). -/
import Derived.Test.YtjfhoaahohinhaaGateC
import Derived.Test.YtjfhoaahohinhaaRefText
import Derived.Test.YtjfhoaahohinhaaRefAWalks
namespace Go.Proofs.Ytjfhoaahohinhaa.Mm
open Go.ChangeShapes Go.WideShapes Go.ChangeAt Go.RowKit
set_option linter.unusedVariables false

def gL (g : Int) : List Int := if 0 ≤ g ∧ g ≤ 9 then txtL g else [63]
def evL (x : Ev) : List Int := gL x.1 ++ 32 :: (txtL (wrap32 x.2) ++ [10])
theorem ev_str (P G X : List Int) : strOfNums P ++ strOfNums G ++ ⟨#[32]⟩ ++ strOfNums X ++ ⟨#[10]⟩ = strOfNums (P ++ (G ++ 32 :: (X ++ [10]))) := by
  have e1 : (⟨#[32]⟩ : ByteArray) = strOfNums [32] := rfl
  have e2 : (⟨#[10]⟩ : ByteArray) = strOfNums [10] := rfl
  rw [e1, e2, str_app, str_app, str_app, str_app]
  congr 1
  simp
theorem take_snocV (L : List Ev) (k : Nat) (h : k < L.length) : L.take (k + 1) = L.take k ++ [L.getD k (0, 0)] := by
  rw [List.take_add_one, List.getD_eq_getElem?_getD, List.getElem?_eq_getElem h]; rfl
theorem ev_snoc (L : List Ev) (k : Nat) (h : k < L.length) : (L.take (k + 1)).flatMap evL = (L.take k).flatMap evL ++ evL (L.getD k (0, 0)) := by
  rw [take_snocV L k h, List.flatMap_append]; simp
theorem ev_getD {L : List Ev} (h : ∀ x ∈ L, evWf x) (k : Nat) (hk : k < L.length) : evWf (L.getD k (0, 0)) := by
  rw [List.getD_eq_getElem?_getD, List.getElem?_eq_getElem hk]; exact h _ (List.getElem_mem hk)
theorem ev_one (x : Ev) : (evL x).length ≤ 24 := by
  have h1 : (gL x.1).length ≤ 11 := by
    unfold gL
    split
    · exact (txtL_len _ (by omega)).2
    · simp
  have h2 := (txtL_len (wrap32 x.2) (wrap32_bd x.2)).2
  unfold evL
  rw [List.length_append, List.length_cons, List.length_append]
  simp only [List.length_cons, List.length_nil]
  omega
theorem ev_len : ∀ (L : List Ev), (L.flatMap evL).length ≤ 24 * L.length
  | [] => by simp
  | x :: t => by
    have := ev_len t
    have := ev_one x
    rw [List.flatMap_cons, List.length_append, List.length_cons]
    omega
set_option maxRecDepth 10000 in
set_option maxHeartbeats 4000000 in
theorem rtext12_any (A : Option Addr) (cap n : Nat) (L : List Ev) (hl : L.length = n) (hn : n ≤ 40) (w : World) (R : EvRow w A cap L) :
    Calls Try.prog 14 #[.slice A n cap] w fun e w' => e = .returned (.string (strOfNums (L.flatMap evL))) ∧ Below w.heap.size w w' := by
  have RR := Lib.hid R
  have HL := Lib.hid hl
  have HW := Lib.hid R.2.2.1
  have B0 := Lib.hid (Below.refl w.heap.size w)
  have TX := Lib.hid (fun n h w => rtext_any n h w)
  have SG := Lib.hid (fun a h0 h1 w => rsign_any a h0 h1 w)
  clear R hl
  go_enter Try.func14, Try.ntmps14
  go_wp2_with fail
  go_loopw [3, 4] (fun s v wr => ∃ (k : Nat), s = .string (strOfNums ((L.take k).flatMap evL)) ∧ v = .int .i64 k ∧ k ≤ n ∧ Hid (Below w.heap.size w wr)) (fun _ v _ => n - (intOf v).toNat)
  case atStart => exact ⟨0, rfl, rfl, by omega, B0⟩
  case round =>
    obtain ⟨k, rfl, rfl, hk, HB⟩ := hrel
    by_cases hlt : k < n
    · obtain ⟨x, rfl, hxb, hc⟩ := (RR.out.below HB.out).2.2.2 (by intro e; have := HL.out; rw [e] at this; simp at this; omega)
      have c0 := (hc k (by rw [HL.out]; exact hlt)).c0
      have c1 := (hc k (by rw [HL.out]; exact hlt)).c1
      have ES := Lib.hid (ev_snoc L k (by rw [HL.out]; exact hlt))
      have hwf := ev_getD HW.out k (by rw [HL.out]; exact hlt)
      clear hc
      have hP : (strOfNums ((L.take k).flatMap evL)).size ≤ 1000 := by
        rw [strOfNums_size]
        have := ev_len (L.take k)
        rw [List.length_take] at this
        omega
      generalize L.getD k (0, 0) = y at *
      generalize (L.take k).flatMap evL = P at *
      obtain ⟨ya, yb⟩ := y
      simp only at c0 c1
      obtain ⟨⟨w0, w1⟩, w2, w3⟩ := hwf
      simp only at w0 w1 w2 w3
      have hX : (strOfNums (txtL (wrap32 yb))).size ≤ 11 := by rw [strOfNums_size]; exact (txtL_len _ (wrap32_bd yb)).2
      have TX2 := Lib.hid (TX.out (wrap32 yb) (wrap32_bd yb))
      have SG2 := Lib.hid (SG.out yb w2 (by omega))
      have HCX := Lib.hid (fun w' (b : Below wr.heap.size wr w') => (b.cell (p := ⟨(x.add (k * 2)).block, (x.add (k * 2)).off + 1, none⟩) (by rw [block_add]; exact hxb)).trans c1)
      by_cases g0 : 0 ≤ ya
      · by_cases g9 : ya ≤ 9
        · have TX1 := Lib.hid (TX.out ya (by omega))
          have hG : (strOfNums (txtL ya)).size ≤ 11 := by rw [strOfNums_size]; exact (txtL_len _ (by omega)).2
          have EV := Lib.hid (show evL (ya, yb) = txtL ya ++ 32 :: (txtL (wrap32 yb) ++ [10]) by unfold evL gL; simp only; rw [if_pos ⟨g0, g9⟩])
          go_wp2_with fail
          refine (TX1.out _).mono ?_; rintro e w4 ⟨rfl, hb4⟩
          have d1 := HCX.out _ hb4
          have B4 := Lib.hid (HB.out.trans (hb4.mono HB.out.size))
          clear hb4 c0 c1
          go_wp2_with fail
          refine (SG2.out _).mono ?_; rintro e w5 ⟨rfl, rfl⟩
          go_wp2_with fail
          refine (TX2.out _).mono ?_; rintro e w6 ⟨rfl, hb6⟩
          have B6 := Lib.hid (B4.out.trans (hb6.mono B4.out.size))
          clear hb6 d1
          go_wp2_with fail
          go_roundw
          case rel => exact ⟨k + 1, by rw [ES.out, EV.out]; exact v_str (ev_str _ _ _), by go_num, by omega, B6⟩
          case measure => simp [intOf]; omega
        · have EV := Lib.hid (show evL (ya, yb) = [63] ++ 32 :: (txtL (wrap32 yb) ++ [10]) by unfold evL gL; simp only; rw [if_neg (by omega)])
          have d1 := c1
          have B4 := HB
          go_wp2_with fail
          refine (SG2.out _).mono ?_; rintro e w5 ⟨rfl, rfl⟩
          go_wp2_with fail
          refine (TX2.out _).mono ?_; rintro e w6 ⟨rfl, hb6⟩
          have B6 := Lib.hid (B4.out.trans (hb6.mono B4.out.size))
          clear hb6 d1
          go_wp2_with fail
          go_roundw
          case rel => exact ⟨k + 1, by rw [ES.out, EV.out]; exact v_str (ev_str _ [63] _), by go_num, by omega, B6⟩
          case measure => simp [intOf]; omega
      · have EV := Lib.hid (show evL (ya, yb) = [63] ++ 32 :: (txtL (wrap32 yb) ++ [10]) by unfold evL gL; simp only; rw [if_neg (by omega)])
        have d1 := c1
        have B4 := HB
        go_wp2_with fail
        refine (SG2.out _).mono ?_; rintro e w5 ⟨rfl, rfl⟩
        go_wp2_with fail
        refine (TX2.out _).mono ?_; rintro e w6 ⟨rfl, hb6⟩
        have B6 := Lib.hid (B4.out.trans (hb6.mono B4.out.size))
        clear hb6 d1
        go_wp2_with fail
        go_roundw
        case rel => exact ⟨k + 1, by rw [ES.out, EV.out]; exact v_str (ev_str _ [63] _), by go_num, by omega, B6⟩
        case measure => simp [intOf]; omega
    · obtain rfl : k = n := by omega
      rw [List.take_of_length_le (by rw [HL.out]; exact Nat.le_refl _)]
      go_wp2_with fail
      go_ret
      exact ⟨rfl, HB.out⟩
end Go.Proofs.Ytjfhoaahohinhaa.Mm
