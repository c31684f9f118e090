/- Programs as bytes: the plain sums of layer 6, and bytes of the call's own. -/
import Derived.Test.YtokibkemolmgcaaFnvApp
namespace Go.Proofs.Ytokibkemolmgcaa.Mm
open Go.ChangeShapes Go.WideShapes Go.ChangeAt Go.RowKit
set_option linter.unusedVariables false

def headL : List Int := [86, 51, 50, 49]
/-- a length's two bytes -/
def lenL (n : Nat) : List Int := [(n : Int) % 256, (n : Int) / 256]
def bodyL (C D : List Int) : List Int := headL ++ (lenL C.length ++ (lenL D.length ++ (C ++ D)))
def sumL (l : List Int) : List Int := b4 (fnvL 2166136261 l)
def layL (C D : List Int) : List Int := bodyL C D ++ sumL (bodyL C D)
def rightB (n m : Int) : Bool := decide (32 ≤ n ∧ n ≤ 4096 ∧ n % 32 = 0 ∧ m ≤ 4096)
def lenAt (l : List Int) (k : Nat) : Int := l.getD k 0 + 256 * l.getD (k + 1) 0
/-- what reading bytes answers: 0, or the error -/
def errL (l : List Int) : Int :=
  if l.length < 12 ∨ l.take 4 ≠ headL then 2
  else if l.drop (l.length - 4) ≠ sumL (l.take (l.length - 4)) then 3
  else if rightB (lenAt l 4) (lenAt l 6) = false ∨ 8 + lenAt l 4 + lenAt l 6 ≠ (l.length : Int) - 4 then 4
  else 0
def codeL (l : List Int) : List Int := (l.drop 8).take (lenAt l 4).toNat
def dataL (l : List Int) : List Int := (l.drop (8 + (lenAt l 4).toNat)).take (lenAt l 6).toNat

theorem sumL_byte (l : List Int) : Bytes (sumL l) := by
  have := fnvL_bd 2166136261 l (by decide) (by decide)
  exact b4_byte _ this.1 this.2
theorem sumL_len (l : List Int) : (sumL l).length = 4 := rfl
theorem headL_byte : Bytes headL := by intro x hx; simp [headL] at hx; omega
theorem lenL_byte (n : Nat) (h : n ≤ 65535) : Bytes (lenL n) := by intro x hx; simp [lenL] at hx; omega
theorem app_byte {a b : List Int} (ha : Bytes a) (hb : Bytes b) : Bytes (a ++ b) := fun x hx => (List.mem_append.1 hx).elim (ha x) (hb x)
theorem bodyL_byte {C D : List Int} (hC : Bytes C) (hD : Bytes D) (h1 : C.length ≤ 65535) (h2 : D.length ≤ 65535) : Bytes (bodyL C D) :=
  app_byte headL_byte (app_byte (lenL_byte _ h1) (app_byte (lenL_byte _ h2) (app_byte hC hD)))
theorem layL_byte {C D : List Int} (hC : Bytes C) (hD : Bytes D) (h1 : C.length ≤ 65535) (h2 : D.length ≤ 65535) : Bytes (layL C D) := app_byte (bodyL_byte hC hD h1 h2) (sumL_byte _)
theorem bodyL_len (C D : List Int) : (bodyL C D).length = 8 + C.length + D.length := by simp [bodyL, headL, lenL]; omega
theorem layL_len (C D : List Int) : (layL C D).length = 12 + C.length + D.length := by rw [layL, List.length_append, bodyL_len, sumL_len]; omega
theorem lenAt_bd {l : List Int} (h : Bytes l) (k : Nat) : 0 ≤ lenAt l k ∧ lenAt l k ≤ 65535 := by
  have := row_byte h k; have := row_byte h (k + 1); unfold lenAt; omega
theorem rightB_iff (n m : Int) : rightB n m = true ↔ 32 ≤ n ∧ n ≤ 4096 ∧ n % 32 = 0 ∧ m ≤ 4096 := by unfold rightB; exact decide_eq_true_iff

/-- the four ways -/
theorem err_2 {l : List Int} (h : l.length < 12 ∨ l.take 4 ≠ headL) : errL l = 2 := by unfold errL; rw [if_pos h]
theorem err_cases (l : List Int) : (l.length < 12 ∧ errL l = 2) ∨ (12 ≤ l.length ∧ l.take 4 ≠ headL ∧ errL l = 2) ∨
    (12 ≤ l.length ∧ l.take 4 = headL ∧ l.drop (l.length - 4) ≠ sumL (l.take (l.length - 4)) ∧ errL l = 3) ∨
    (12 ≤ l.length ∧ l.take 4 = headL ∧ l.drop (l.length - 4) = sumL (l.take (l.length - 4)) ∧ rightB (lenAt l 4) (lenAt l 6) = false ∧ errL l = 4) ∨
    (12 ≤ l.length ∧ l.take 4 = headL ∧ l.drop (l.length - 4) = sumL (l.take (l.length - 4)) ∧ rightB (lenAt l 4) (lenAt l 6) = true ∧ 8 + lenAt l 4 + lenAt l 6 ≠ (l.length : Int) - 4 ∧ errL l = 4) ∨
    (12 ≤ l.length ∧ l.take 4 = headL ∧ l.drop (l.length - 4) = sumL (l.take (l.length - 4)) ∧ rightB (lenAt l 4) (lenAt l 6) = true ∧ 8 + lenAt l 4 + lenAt l 6 = (l.length : Int) - 4 ∧ errL l = 0) := by
  by_cases h1 : l.length < 12
  · exact .inl ⟨h1, err_2 (.inl h1)⟩
  by_cases h2 : l.take 4 ≠ headL
  · exact .inr (.inl ⟨by omega, h2, err_2 (.inr h2)⟩)
  have h2' : l.take 4 = headL := Decidable.not_not.1 h2
  have hn : ¬ (l.length < 12 ∨ l.take 4 ≠ headL) := fun h => h.elim h1 h2
  by_cases h3 : l.drop (l.length - 4) ≠ sumL (l.take (l.length - 4))
  · exact .inr (.inr (.inl ⟨by omega, h2', h3, by unfold errL; rw [if_neg hn, if_pos h3]⟩))
  have h3' := Decidable.not_not.1 h3
  cases h4 : rightB (lenAt l 4) (lenAt l 6)
  · exact .inr (.inr (.inr (.inl ⟨by omega, h2', h3', rfl, by unfold errL; rw [if_neg hn, if_neg h3, if_pos (.inl h4)]⟩)))
  by_cases h5 : 8 + lenAt l 4 + lenAt l 6 = (l.length : Int) - 4
  · exact .inr (.inr (.inr (.inr (.inr ⟨by omega, h2', h3', rfl, h5, by unfold errL; rw [if_neg hn, if_neg h3, if_neg (by rw [h4]; simp [h5])]⟩))))
  · exact .inr (.inr (.inr (.inr (.inl ⟨by omega, h2', h3', rfl, h5, by unfold errL; rw [if_neg hn, if_neg h3, if_pos (.inr h5)]⟩))))

/-- what is laid is read as it was -/
theorem lay_take (C D : List Int) : (layL C D).take ((layL C D).length - 4) = bodyL C D := by
  rw [layL_len, layL, List.take_append_of_le_length (by rw [bodyL_len]; omega), List.take_of_length_le (by rw [bodyL_len]; omega)]
theorem lay_drop (C D : List Int) : (layL C D).drop ((layL C D).length - 4) = sumL (bodyL C D) := by
  rw [layL_len, layL, List.drop_append_of_le_length (by rw [bodyL_len]; omega), List.drop_of_length_le (by rw [bodyL_len]; omega), List.nil_append]
theorem lay_head (C D : List Int) : (layL C D).take 4 = headL := by simp [layL, bodyL, headL]
theorem lay_at4 (C D : List Int) : lenAt (layL C D) 4 = C.length := by
  simp [layL, bodyL, headL, lenL, lenAt]; omega
theorem lay_at6 (C D : List Int) : lenAt (layL C D) 6 = D.length := by
  simp [layL, bodyL, headL, lenL, lenAt]; omega
theorem lay_code (C D : List Int) : codeL (layL C D) = C := by
  unfold codeL
  rw [lay_at4, Int.toNat_natCast]
  simp [layL, bodyL, headL, lenL]
theorem lay_data (C D : List Int) : dataL (layL C D) = D := by
  unfold dataL
  rw [lay_at4, lay_at6, Int.toNat_natCast, Int.toNat_natCast]
  have e : layL C D = (headL ++ (lenL C.length ++ (lenL D.length ++ C))) ++ (D ++ sumL (bodyL C D)) := by simp [layL, bodyL]
  have hl : (headL ++ (lenL C.length ++ (lenL D.length ++ C))).length = 8 + C.length := by simp [headL, lenL]; omega
  rw [e, ← hl, List.drop_left, List.take_left]
theorem lay_err (C D : List Int) (h : rightB C.length D.length = true) : errL (layL C D) = 0 := by
  unfold errL
  rw [lay_take, lay_drop, lay_head, lay_at4, lay_at6, layL_len]
  rw [if_neg (by simp; omega), if_neg (by simp), if_neg]
  rw [h]
  simp
  omega
/-- its bytes tell an image -/
theorem lay_inj (A B C D : List Int) : layL A B = layL C D ↔ A = C ∧ B = D := by
  refine ⟨fun e => ⟨?_, ?_⟩, fun ⟨e, f⟩ => by rw [e, f]⟩
  · rw [← lay_code A B, e, lay_code]
  · rw [← lay_data A B, e, lay_data]
/-- with a byte turned it isn't read -/
theorem turned_err (C D : List Int) (hC : Bytes C) (hD : Bytes D) (h : rightB C.length D.length = true) (k : Nat) (hk : k < (layL C D).length) (y : Int) (y0 : 0 ≤ y) (y1 : y ≤ 255) (hy : y ≠ (layL C D).getD k 0) : errL ((layL C D).set k y) ≠ 0 := by
  have hr := (rightB_iff _ _).1 h
  have hbB : Bytes (bodyL C D) := bodyL_byte hC hD (by omega) (by omega)
  have hL := layL_len C D
  have hbl := bodyL_len C D
  rcases err_cases ((layL C D).set k y) with ⟨_, e⟩ | ⟨_, _, e⟩ | ⟨_, _, _, e⟩ | ⟨_, _, _, _, e⟩ | ⟨_, _, _, _, _, e⟩ | ⟨_, _, hs, _⟩
  any_goals (rw [e]; decide)
  exfalso
  rw [List.length_set] at hs
  have hn : (layL C D).length - 4 = (bodyL C D).length := by omega
  rw [hn] at hs
  by_cases hb : k < (bodyL C D).length
  · have e1 : ((layL C D).set k y).take (bodyL C D).length = (bodyL C D).set k y := by
      rw [layL, List.set_append_left _ _ hb, List.take_append_of_le_length (by rw [List.length_set]; exact Nat.le_refl _), List.take_of_length_le (by rw [List.length_set]; exact Nat.le_refl _)]
    have e2 : ((layL C D).set k y).drop (bodyL C D).length = sumL (bodyL C D) := by
      rw [layL, List.set_append_left _ _ hb, List.drop_append_of_le_length (by rw [List.length_set]; exact Nat.le_refl _), List.drop_of_length_le (by rw [List.length_set]; exact Nat.le_refl _), List.nil_append]
    rw [e1, e2] at hs
    have b1 := fnvL_bd 2166136261 (bodyL C D) (by decide) (by decide)
    have b2 := fnvL_bd 2166136261 ((bodyL C D).set k y) (by decide) (by decide)
    have h1 := (b4_inj _ _ b1.1 b1.2 b2.1 b2.2).1 hs
    have h2 := (set_turn (bodyL C D) hbB k hb y y0 y1 2166136261 (by decide) (by decide)).1 h1.symm
    apply hy
    rw [h2, layL]
    simp [List.getD, List.getElem?_append_left hb]
  · have e1 : ((layL C D).set k y).take (bodyL C D).length = bodyL C D := by
      rw [layL, List.set_append_right _ _ (by omega), List.take_append_of_le_length (Nat.le_refl _), List.take_of_length_le (Nat.le_refl _)]
    have e2 : ((layL C D).set k y).drop (bodyL C D).length = (sumL (bodyL C D)).set (k - (bodyL C D).length) y := by
      rw [layL, List.set_append_right _ _ (by omega), List.drop_left]
    rw [e1, e2] at hs
    have hk4 : k - (bodyL C D).length < (sumL (bodyL C D)).length := by rw [sumL_len]; omega
    have h1 : ((sumL (bodyL C D)).set (k - (bodyL C D).length) y).getD (k - (bodyL C D).length) 0 = y := by
      simp [List.getD, hk4]
    rw [hs] at h1
    apply hy
    rw [← h1, layL]
    simp only [List.getD]
    rw [List.getElem?_append_right (by omega)]
/-- with bytes cut off it isn't read -/
theorem cut_err (C D : List Int) (n : Nat) (hn : n < (layL C D).length) : errL ((layL C D).take n) ≠ 0 := by
  have hL := layL_len C D
  rcases err_cases ((layL C D).take n) with ⟨_, e⟩ | ⟨_, _, e⟩ | ⟨_, _, _, e⟩ | ⟨_, _, _, _, e⟩ | ⟨_, _, _, _, _, e⟩ | ⟨hl, _, _, _, hs, _⟩
  any_goals (rw [e]; decide)
  exfalso
  have hlen : ((layL C D).take n).length = n := by rw [List.length_take]; omega
  rw [hlen] at hl hs
  have e4 : lenAt ((layL C D).take n) 4 = C.length := by
    rw [← lay_at4 C D]; unfold lenAt; rw [getD_take' _ _ _ _ (by omega), getD_take' _ _ _ _ (by omega)]
  have e6 : lenAt ((layL C D).take n) 6 = D.length := by
    rw [← lay_at6 C D]; unfold lenAt; rw [getD_take' _ _ _ _ (by omega), getD_take' _ _ _ _ (by omega)]
  rw [e4, e6] at hs
  omega
theorem getD_app' (a b : List Int) (i : Nat) (h : i < a.length) : (a ++ b).getD i 0 = a.getD i 0 := by simp [List.getD, List.getElem?_append_left h]
/-- with bytes behind it, it isn't read -/
theorem more_err (C D M : List Int) (h : rightB C.length D.length = true) : errL (layL C D ++ M) = 0 ↔ M.length = 0 := by
  have hL := layL_len C D
  refine ⟨fun e0 => ?_, fun h0 => ?_⟩
  · rcases err_cases (layL C D ++ M) with ⟨_, e⟩ | ⟨_, _, e⟩ | ⟨_, _, _, e⟩ | ⟨_, _, _, _, e⟩ | ⟨_, _, _, _, _, e⟩ | ⟨_, _, _, _, hs, _⟩
    any_goals (rw [e] at e0; exact absurd e0 (by decide))
    have e4 : lenAt (layL C D ++ M) 4 = C.length := by
      rw [← lay_at4 C D]; unfold lenAt; rw [getD_app' _ _ _ (by omega), getD_app' _ _ _ (by omega)]
    have e6 : lenAt (layL C D ++ M) 6 = D.length := by
      rw [← lay_at6 C D]; unfold lenAt; rw [getD_app' _ _ _ (by omega), getD_app' _ _ _ (by omega)]
    rw [e4, e6, List.length_append] at hs
    omega
  · rw [List.eq_nil_of_length_eq_zero h0, List.append_nil]
    exact lay_err C D h

/-- bytes of the call's own: nothing below B holds them -/
structure Own (B : Nat) (w : World) (A : Option Addr) (cap : Nat) (L : List Int) : Prop where
  own : w.ownsRow B 5 1 (.slice A L.length cap) L.length (L.map (Value.int .u8))
  byte : Bytes L
theorem Own.row {B : Nat} {w : World} {A : Option Addr} {cap : Nat} {L : List Int} (h : Own B w A cap L) : RowAt w A cap L := by
  obtain ⟨A', c', e, _, r⟩ := row_of_own h.own h.byte
  injection e with e1 _ e3
  subst e1 e3
  exact r
theorem Own.below {B : Nat} {w w' : World} {A : Option Addr} {cap : Nat} {L : List Int} (h : Own B w A cap L) (b : Below w.heap.size w w') : Own B w' A cap L :=
  ⟨h.own.kept (row := none) ⟨b.os, b.tape, b.output, b.size, fun k hk _ => b.block k hk⟩ (by cases hv : (Value.slice A L.length cap).ownBlock <;> simp), h.byte⟩
theorem Own.mono {B B' : Nat} {w : World} {A : Option Addr} {cap : Nat} {L : List Int} (h : Own B w A cap L) (hB : B' ≤ B) : Own B' w A cap L := by
  refine ⟨⟨h.own.1, ?_⟩, h.byte⟩
  rcases h.own.2 with x | ⟨g, c, cur, e, hg, hr⟩
  · exact .inl x
  · exact .inr ⟨g, c, cur, e, by omega, hr⟩
/-- a store below B -/
theorem Own.kept {B : Nat} {w : World} {A : Option Addr} {cap : Nat} {L : List Int} (h : Own B w A cap L) {a : Addr} (ha : a.block < B) (u : Value) : Own B (w.setCell a u) A cap L :=
  ⟨ownsRow_setCell_below h.own ha u, h.byte⟩
end Go.Proofs.Ytokibkemolmgcaa.Mm
