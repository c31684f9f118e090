/- What Read of package isa answers, of any bytes at any place: what the plain function of lists says. -/
import Derived.Test.YtojpcijfipdiaaaIsaReads
namespace Go.Proofs.Ytojpcijfipdiaaa
open Go.ChangeShapes Go.WideShapes Go.ChangeAt Go.RowKit
set_option linter.unusedVariables false

/-- an instruction, and how many bytes it has, as a value -/
def insV (op a b imm n : Int) : Value := .tuple #[.agg #[.int .i64 op, .int .i64 a, .int .i64 b, .int .u32 imm], .int .i64 n]

theorem RowAt.below {w w1 : World} {A : Option Addr} {cap : Nat} {l : List Int} (h : RowAt w A cap l) (hb : Below w.heap.size w w1) : RowAt w1 A cap l := by
  obtain ⟨h1, h2, h3, h4⟩ := h
  refine ⟨h1, h2, h3, fun hne => ?_⟩
  obtain ⟨x, rfl, hx, hc⟩ := h4 hne
  exact ⟨x, rfl, Nat.lt_of_lt_of_le hx hb.size, fun i hi => by rw [hb.cell (p := x.add i) (by rw [block_add]; exact hx)]; exact hc i hi⟩

theorem row_tail {w : World} {x : Addr} {cap k : Nat} {l : List Int} (h : RowAt w (some x) cap l) (hk : k < l.length) :
    RowAt w (some ⟨x.block, x.off + (k + 1), none⟩) (cap - (k + 1)) (l.drop (k + 1)) := by
  obtain ⟨h1, h2, h3, h4⟩ := h
  obtain ⟨y, hy, hx, hc⟩ := h4 (by intro h; subst h; simp at hk)
  injection hy with hy; subst hy
  refine ⟨by rw [List.length_drop]; omega, by omega, fun z hz => h3 z (List.mem_of_mem_drop hz), fun _ => ⟨_, rfl, hx, fun i hi => ?_⟩⟩
  rw [List.length_drop] at hi
  have e : (⟨x.block, x.off + (k + 1), none⟩ : Addr).add i = x.add (k + 1 + i) := by unfold Addr.add; by_cases h : i = 0 <;> simp [h, Nat.add_assoc]
  rw [e, hc _ (by omega)]
  simp [List.getD, List.getElem?_drop]

theorem fitsW {n : Nat} {t : List Int} (hn : n ≤ 4) (hb : Bytes t) : 0 ≤ numV (t.take n) ∧ numV (t.take n) < 4294967296 := by
  have hv := numV_bd _ (take_byte hb n)
  have hl : (t.take n).length ≤ 4 := by rw [List.length_take]; omega
  generalize (t.take n).length = m at *
  obtain rfl | rfl | rfl | rfl | rfl : m = 0 ∨ m = 1 ∨ m = 2 ∨ m = 3 ∨ m = 4 := by omega
  all_goals omega

/-- what form.read answers of the bytes behind the operation -/
theorem read_any (op : Int) (n : Nat) (hN : fN op = n) (t : List Int) (A : Option Addr) (cap : Nat) (w : World) (hr : RowAt w A cap t) (hs : szV (fU op) n ≤ (t.length : Int) + 1) :
    Calls Try.prog 37 #[.agg #[.int .i64 (fA op), .int .i64 (fB op), .int .i64 (fU op), .int .i64 n], .int .i64 op, .slice A t.length cap] w
      fun e w' => e = .returned (.agg #[.int .i64 op, .int .i64 (xA (fU op) t), .int .i64 (xB (fU op) t), .int .u32 (xI (fU op) n t)]) ∧ Below w.heap.size w w' := by
  have F := form_of op
  rw [hN] at F
  unfold Form at F
  unfold szV at hs
  by_cases hu : 0 < fU op
  · rw [if_pos hu] at hs
    match t, hr, hs with
    | [], hr, hs => simp at hs; omega
    | h :: t, hr, hs =>
      have e1 : xA (fU op) (h :: t) = h / fU op := by unfold xA; rw [if_pos hu]; rfl
      have e2 : xB (fU op) (h :: t) = h % fU op := by unfold xB; rw [if_pos hu]; rfl
      have e3 : xI (fU op) n (h :: t) = numV (t.take n) := by unfold xI; rw [if_pos hu]; rfl
      rw [e1, e2, e3]
      exact read_u _ _ _ op n hu (by omega) (by omega) h t A cap w hr (by simp at hs; omega)
  · rw [if_neg hu] at hs
    have e1 : xA (fU op) t = 0 := by unfold xA; rw [if_neg hu]
    have e2 : xB (fU op) t = 0 := by unfold xB; rw [if_neg hu]
    have e3 : xI (fU op) n t = numV (t.take n) := by unfold xI; rw [if_neg hu]; rfl
    rw [e1, e2, e3]
    exact read_0 _ _ _ op n hu (by omega) t A cap w hr (by omega)

theorem Read_at (l : List Int) (A : Option Addr) (cap k : Nat) (op : Int) (t : List Int) (hl : l.length ≤ 20000) (hk : k < l.length) (hd : l.drop k = op :: t) (w : World) (hr : RowAt w A cap l) :
    Calls Try.prog 31 #[.slice A l.length cap, .int .i64 k] w
      fun e w' => e = .returned (if rdB (op :: t) then insV op (xA (fU op) t) (xB (fU op) t) (xI (fU op) (fN op) t) (szO op) else noIns) ∧ Below w.heap.size w w' := by
  have hr0 := hr
  obtain ⟨h1, h2, h3, h4⟩ := hr
  obtain ⟨x, rfl, hx, hc⟩ := h4 (by intro h; subst h; simp at hk)
  have hop : l.getD k 0 = op := by
    have e := List.drop_eq_getElem_cons hk
    rw [hd] at e
    injection e with e _
    simp [List.getD, List.getElem?_eq_getElem hk, e]
  have ht : t = l.drop (k + 1) := by
    have e := List.drop_eq_getElem_cons hk
    rw [hd] at e
    injection e
  have hck := hc k hk
  have hbd := row_byte h3 k hk
  rw [hop] at hck hbd
  have htl : t.length = l.length - (k + 1) := by rw [ht, List.length_drop]
  have hf := formOf_any op
  have F := form_of op
  obtain ⟨z1, z2, n0, n1⟩ := szV_bd _ _ _ _ F
  obtain ⟨n, hn⟩ : ∃ n : Nat, fN op = n := ⟨(fN op).toNat, by omega⟩
  have hsz := size_any (fA op) (fB op) (fU op) (fN op) n0 n1
  cases hK : fK op
  · have e : rdB (op :: t) = false := by show (fK op && _) = false; rw [hK]; rfl
    rw [e]
    rw [hK] at hf
    exact Read_none op _ _ _ _ x l.length cap k hl hk hbd.1 hbd.2 w hx hck hf
  · rw [hK] at hf
    have hO : szO op = szV (fU op) (fN op) := by unfold szO; rw [hK]; rfl
    by_cases hs : szV (fU op) (fN op) ≤ (l.length : Int) - k
    · have hsl : szV (fU op) (fN op) ≤ (t.length : Int) + 1 := by omega
      have hbt : Bytes t := by rw [ht]; exact fun z hz => h3 z (List.mem_of_mem_drop hz)
      have himm : 0 ≤ xI (fU op) (fN op) t ∧ xI (fU op) (fN op) t < 4294967296 := (read_lay op _ _ _ _ t F hbt hsl).2
      have hft := fits_any (fA op) (fB op) (fU op) (fN op) op (xA (fU op) t) (xB (fU op) t) (xI (fU op) (fN op) t) F himm.1 himm.2
      have e : rdB (op :: t) = fitsB (fA op) (fB op) (fN op) (xA (fU op) t) (xB (fU op) t) (xI (fU op) (fN op) t) := by
        show (fK op && (decide (szO op ≤ t.length + 1) && _)) = _
        rw [hK, hO, decide_eq_true hsl]; rfl
      rw [e, hO]
      rw [hn] at hf hsz hft hs hsl ⊢
      by_cases hcap : cap = k + 1
      · have hlen : l.length = k + 1 := by omega
        have h0 : t = [] := List.eq_nil_of_length_eq_zero (by omega)
        rw [hcap, hlen]
        refine Read_in1 op _ _ _ _ _ _ _ n x k _ (by omega) hbd.1 hbd.2 w hx hck hf hsz (fun w1 hb => ?_) hft (by omega)
        have hrt : RowAt w1 (some x) 0 [] := ⟨Nat.le_refl _, by omega, fun z hz => by simp at hz, fun h => absurd rfl h⟩
        have := read_any op n hn [] (some x) 0 w1 hrt (by rw [h0] at hsl; exact hsl)
        rw [h0]
        exact this
      · refine Read_in2 op _ _ _ _ _ _ _ n x l.length cap k _ hl hk hbd.1 hbd.2 w hx hck h1 hcap hf hsz (fun w1 hb => ?_) hft hs
        have := read_any op n hn t _ _ w1 (by rw [ht]; exact (row_tail hr0 hk).below hb) hsl
        rw [htl] at this
        exact this
    · have e : rdB (op :: t) = false := by
        show (fK op && (decide (szO op ≤ t.length + 1) && _)) = false
        rw [hK, hO, decide_eq_false (by omega)]; rfl
      rw [e]
      exact Read_short op _ _ _ _ _ x l.length cap k hl hk hbd.1 hbd.2 w hx hck hf hsz (by omega)

/-- an instruction is read -/
theorem Read_yes (l : List Int) (A : Option Addr) (cap k : Nat) (op a b imm n : Int) (hl : l.length ≤ 20000) (h : Rd (l.drop k) op a b imm n) (w : World) (hr : RowAt w A cap l) :
    Calls Try.prog 31 #[.slice A l.length cap, .int .i64 k] w fun e w' => e = .returned (insV op a b imm n) ∧ Below w.heap.size w w' := by
  obtain ⟨h1, t, h2, rfl, rfl, rfl, rfl⟩ := h
  have hk : k < l.length := by
    rcases Nat.lt_or_ge k l.length with h | h
    · exact h
    · rw [List.drop_eq_nil_of_le h] at h2; cases h2
  have := Read_at l A cap k op t hl hk h2 w hr
  rw [h2] at h1
  rw [h1] at this
  exact this

/-- nothing is read -/
theorem Read_no (l : List Int) (A : Option Addr) (cap : Nat) (k : Int) (hl : l.length ≤ 20000) (h : k < 0 ∨ (l.length : Int) ≤ k ∨ rdB (l.drop k.toNat) = false) (w : World) (hr : RowAt w A cap l) :
    Calls Try.prog 31 #[.slice A l.length cap, .int .i64 k] w fun e w' => e = .returned (insV 0 0 0 0 0) ∧ Below w.heap.size w w' := by
  by_cases h0 : k < 0
  · exact Read_out l A cap k hl (.inl h0) w
  by_cases h1 : (l.length : Int) ≤ k
  · exact Read_out l A cap k hl (.inr h1) w
  · obtain ⟨j, rfl⟩ : ∃ j : Nat, k = j := ⟨k.toNat, by omega⟩
    have hj : j < l.length := by omega
    have e := List.drop_eq_getElem_cons hj
    have h' : rdB (l.drop j) = false := by
      rcases h with h | h | h
      · exact absurd h h0
      · exact absurd h h1
      · exact h
    have := Read_at l A cap j _ _ hl hj e w hr
    rw [e] at h'
    rw [h'] at this
    exact this
end Go.Proofs.Ytojpcijfipdiaaa
