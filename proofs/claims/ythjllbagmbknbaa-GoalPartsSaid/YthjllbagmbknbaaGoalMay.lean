/- The goals, and why one may not be: the program's own. -/
import Derived.Test.YthjllbagmbknbaaGoalRead
import Derived.Test.YthjllbagmbknbaaGoalList
import Derived.Test.YthjllbagmbknbaaGoalSearch
namespace Go.Proofs.Ythjllbagmbknbaa.Mm
open Go.ChangeShapes Go.WideShapes Go.ChangeAt Go.RowKit
set_option linter.unusedVariables false

def GoalsP (w : World) (code : List Int) (e : Ending) (w' : World) : Prop :=
  ∃ A c, e = .returned (.tuple #[.slice A (goalsC code).length c, .int .i64 (ruleE code)]) ∧ IntRow w' A c (goalsC code) ∧ Below w.heap.size w w'
theorem list_any {code : List Int} (hb : Go.Proofs.Ythjllbagmbknbaa.Bytes code) (hE : ruleE code = 0) {w : World} {A1 A2 : Option Addr} {c1 c2 : Nat} (v3 : Value) (r1 : InsRow w A1 c1 (insI (scanL code))) (r2 : IntRow w A2 c2 (posI (scanL code))) :
    Calls Try.prog 20 #[.agg #[.slice A1 (scanL code).length c1, .slice A2 (scanL code).length c2, v3]] w fun e w' => ∃ A c, e = .returned (.slice A (goalL (scanL code)).length c) ∧ IntRow w' A c (goalL (scanL code)) ∧ Below w.heap.size w w' := by
  obtain ⟨hs, _, _⟩ := rule_scan hE
  have hcl : code.length ≤ 4096 := by
    rcases scan_cases code with ⟨_, e, _⟩ | ⟨_, _, e, _⟩ | ⟨h, _⟩
    · rw [e] at hs; cases hs
    · rw [e] at hs; cases hs
    · have := (sizeB_iff _).1 h; omega
  exact goals_any A1 A2 c1 c2 v3 (scanL code) _ rfl (scanL_len hb) (fun k hk => scan_oks hb hs hk) (fun k hk => by have := scan_place hb hs hk; omega) w r1 r2
theorem Goals_any (A : Option Addr) (cap n : Nat) (code : List Int) (hn : code.length = n) (w : World) (r : RowAt w A cap code) : Calls Try.prog 8 #[.slice A n cap] w (GoalsP w code) := by
  unfold GoalsP
  have hb := r.2.2.1
  by_cases hE : ruleE code = 0
  · have C1 := Lib.hid (read_yes A cap n code hn hE w r)
    unfold KeptP at C1
    have C2 := Lib.hid (fun A1 c1 A2 c2 v3 w' r1 r2 => @list_any code hb hE w' A1 A2 c1 c2 v3 r1 r2)
    rw [show goalsC code = goalL (scanL code) by unfold goalsC; rw [if_pos hE]]
    rw [hE]
    clear r hn hE hb
    generalize goalL (scanL code) = G at *
    generalize secL code = K at *
    generalize scanL code = L at *
    generalize L.length = z at *
    generalize K.length = m at *
    generalize G.length = y at *
    go_enter Try.func8, Try.ntmps8
    go_wp2_with fail
    refine C1.out.mono ?_; rintro e w1 ⟨A1, c1, A2, c2, A3, c3, l, rfl, i1, i2, hl, i3, hb1⟩
    have X1 := HasB.new w1 51 [.slice A1 z c1, .slice A2 z c2, .slice A3 m c3]
    have B1 := Lib.hid (bel_al hb1 (.cells #[.slice A1 z c1, .slice A2 z c2, .slice A3 m c3] 51))
    have C3 := Lib.hid (C2.out A1 c1 A2 c2 (.slice A3 m c3) (w1.alloc (.cells #[.slice A1 z c1, .slice A2 z c2, .slice A3 m c3] 51)) (i1.below (bel_al (Below.refl _ _) _)) (i2.below (bel_al (Below.refl _ _) _)))
    clear C1 C2 i1 i2 i3 hl hb1 X1
    go_wp2_with fail
    refine C3.out.mono ?_; rintro e w2 ⟨A4, c4, rfl, i4, hb2⟩
    have B2 := Lib.hid (bel_then B1.out hb2)
    clear hb2
    go_wp2
    go_ret2
    exact ⟨A4, c4, rfl, i4, B2.out⟩
  · have C1 := Lib.hid (read_no A cap n code hn hE w r)
    rw [show goalsC code = [] by unfold goalsC; rw [if_neg hE]]
    have hq : (ruleE code != 0) = true := by rw [bne_iff_ne]; exact hE
    clear r hn hE hb
    generalize ruleE code = q at *
    go_enter Try.func8, Try.ntmps8
    go_wp2_with fail
    refine C1.out.mono ?_; rintro e w1 ⟨rfl, hb1⟩
    have B1 := Lib.hid (bel_al hb1 (.cells #[.slice none 0 0, .slice none 0 0, .slice none 0 0] 51))
    clear hb1
    go_wp2
    go_ret2
    exact ⟨none, 0, rfl, intRow_nil _, B1.out⟩

/-- a goal that may not be -/
def notB (S l : List Int) (x : Int) : Bool := !decide (x ∈ S) || decide (x ∈ l)
theorem mayNot_any (h : Nat) (v1 : Value) (A2 A3 : Option Addr) (z m c2 c3 : Nat) (S l : List Int) (hz : S.length = z) (hm : l.length = m) (hz2 : z ≤ 100000) (hm2 : m ≤ 100000) (hS : S.Pairwise (· ≤ ·)) (hl : l.Pairwise (· ≤ ·)) (x : Int)
    (w : World) (X : HasB w h 51 [v1, .slice A2 z c2, .slice A3 m c3]) (r2 : IntRow w A2 c2 S) (r3 : IntRow w A3 c3 l) :
    Calls Try.prog 25 #[.int .i64 x, .pointer (some ⟨h, 0, none⟩)] w fun e w' => e = .returned (.bool (notB S l x)) ∧ ∃ q, w' = w.drewN q := by
  have C1 := Lib.hid (among_any A2 c2 z S hz hz2 hS x w r2)
  have C2 := Lib.hid (fun q => among_any A3 c3 m l hm hm2 hl x (w.drewN q) (r3.below (below_drewN (Below.refl _ w) q)))
  have p1 := X.cell 1
  have p2 := X.cell 2
  simp only [List.getElem?_cons_zero, List.getElem?_cons_succ] at p1 p2
  unfold notB
  clear X r2 r3 hS hl hz hm
  generalize decide (x ∈ l) = q2 at *
  cases hq : decide (x ∈ S)
  · rw [hq] at C1
    clear hq C2
    go_enter Try.func25, Try.ntmps25
    go_wp2_with fail
    refine C1.out.mono ?_; rintro e w1 ⟨rfl, q, rfl⟩
    go_wp2
    go_ret
    exact ⟨rfl, _, rfl⟩
  · rw [hq] at C1
    clear hq
    go_enter Try.func25, Try.ntmps25
    go_wp2_with fail
    refine C1.out.mono ?_; rintro e w1 ⟨rfl, q, rfl⟩
    go_wp2_with fail
    refine (C2.out _).mono ?_; rintro e w2 ⟨rfl, q', rfl⟩
    go_wp2
    go_ret
    exact ⟨by simp, _, rfl⟩

/-- none of the first k -/
def NoneI (p : Int → Bool) (l : List Int) (k : Nat) : Prop := ∀ j, j < k → p (l.getD j 0) = false
theorem none_step {p : Int → Bool} {l : List Int} {k : Nat} (h : NoneI p l k) (hk : p (l.getD k 0) = false) : NoneI p l (k + 1) := fun j hj => by
  rcases Nat.lt_or_ge j k with hlt | hge
  · exact h j hlt
  · obtain rfl : j = k := by omega
    exact hk
theorem none_end {p : Int → Bool} {l : List Int} (h : NoneI p l l.length) : l.any p = false := by
  rw [List.any_eq_false]
  intro x hx
  obtain ⟨j, hj, rfl⟩ := mem_getI.1 hx
  rw [h j hj]; simp
theorem some_yes {p : Int → Bool} {l : List Int} {k : Nat} (hk : k < l.length) (h : p (l.getD k 0) = true) : l.any p = true := List.any_eq_true.2 ⟨_, mem_getI.2 ⟨k, hk, rfl⟩, h⟩
set_option maxHeartbeats 1000000 in
theorem index_any (h : Nat) (p : Int → Bool) (A : Option Addr) (c n : Nat) (l : List Int) (hn : l.length = n) (hb : n ≤ 100000) (w : World) (r : IntRow w A c l)
    (hp : ∀ (W : World) (x : Int), Below w.heap.size w W → Calls Try.prog 25 #[.int .i64 x, .pointer (some ⟨h, 0, none⟩)] W fun e w' => e = .returned (.bool (p x)) ∧ ∃ q, w' = W.drewN q) :
    Calls Try.prog 37 #[.slice A n c, .func (.func 25) #[] #[.pointer (some ⟨h, 0, none⟩)]] w fun e w' => ∃ i : Int, e = .returned (.int .i64 i) ∧ decide (0 ≤ i) = l.any p ∧ ∃ q, w' = w.drewN q := by
  have HP := Lib.hid hp
  have HN := Lib.hid hn
  have R := Lib.hid r
  have HE := Lib.hid (@none_end p l)
  have HY := Lib.hid (fun k hk h => @some_yes p l k hk h)
  clear hp hn r
  generalize l.any p = q at *
  go_enter Try.func37, Try.ntmps37
  go_wp2
  go_loopw [8] (fun i wr => ∃ (k : Nat), i = .int .i64 k ∧ k ≤ n ∧ Hid (NoneI p l k) ∧ Hid (∃ q, wr = w.drewN q)) (fun i _ => n - (intOf i).toNat)
  case atStart => exact ⟨0, rfl, Nat.zero_le _, Lib.hid (fun j h => by omega), Lib.hid ⟨0, rfl⟩⟩
  case round =>
    obtain ⟨k, rfl, hk, HI, HB⟩ := hrel
    by_cases hlt : k < n
    · have BB : Below w.heap.size w wr := by obtain ⟨q, e⟩ := HB.out; rw [e]; exact below_drewN (Below.refl _ w) q
      obtain ⟨x, rfl, hxb, hc⟩ := (R.out.below BB).2.2 (by intro e; have := HN.out; rw [e] at this; simp at this; omega)
      have e1 := hc k (by rw [HN.out]; exact hlt)
      have C := Lib.hid (HP.out wr (l.getD k 0) BB)
      have HS := Lib.hid (fun h => @none_step p l k HI.out h)
      have HS2 := Lib.hid (fun h => HY.out k (by rw [HN.out]; exact hlt) h)
      clear hc BB HP
      generalize l.getD k 0 = y at *
      cases hq : p y
      · rw [hq] at C
        go_wp2_with fail
        refine C.out.mono ?_; rintro e w1 ⟨rfl, q', rfl⟩
        have B2 : Hid (∃ q, wr.drewN q' = w.drewN q) := Lib.hid (by obtain ⟨q, e⟩ := HB.out; exact ⟨q + q', by rw [e]; exact World.drewN_drewN _ _ _⟩)
        go_wp2
        go_roundw
        case rel => exact ⟨k + 1, by go_num, by omega, Lib.hid (HS.out hq), B2⟩
        case measure => simp [intOf]; omega
      · rw [hq] at C
        have hy := HS2.out hq
        subst hy
        go_wp2_with fail
        refine C.out.mono ?_; rintro e w1 ⟨rfl, q', rfl⟩
        have B2 : Hid (∃ q, wr.drewN q' = w.drewN q) := Lib.hid (by obtain ⟨q, e⟩ := HB.out; exact ⟨q + q', by rw [e]; exact World.drewN_drewN _ _ _⟩)
        go_wp2
        go_ret
        exact ⟨k, rfl, decide_eq_true (by omega), B2.out⟩
    · obtain rfl : k = n := by omega
      have hy := HE.out (by rw [HN.out]; exact HI.out)
      subst hy
      go_wp2
      go_ret
      exact ⟨-1, rfl, by simp, HB.out⟩
theorem contains_any (h : Nat) (p : Int → Bool) (A : Option Addr) (c n : Nat) (l : List Int) (hn : l.length = n) (hb : n ≤ 100000) (w : World) (r : IntRow w A c l)
    (hp : ∀ (W : World) (x : Int), Below w.heap.size w W → Calls Try.prog 25 #[.int .i64 x, .pointer (some ⟨h, 0, none⟩)] W fun e w' => e = .returned (.bool (p x)) ∧ ∃ q, w' = W.drewN q) :
    Calls Try.prog 27 #[.slice A n c, .func (.func 25) #[] #[.pointer (some ⟨h, 0, none⟩)]] w fun e w' => e = .returned (.bool (l.any p)) ∧ ∃ q, w' = w.drewN q := by
  have C := Lib.hid (index_any h p A c n l hn hb w r hp)
  clear hp hn r
  generalize l.any p = q at *
  go_enter Try.func27, Try.ntmps27
  go_wp2_with fail
  refine C.out.mono ?_; rintro e w1 ⟨i, rfl, hi, q', rfl⟩
  subst hi
  go_wp2
  go_ret
  exact ⟨rfl, _, rfl⟩

theorem not_found {L : List (Nat × InsV)} {l : List Int} (hl : Keyed (secP L) l) (g : Int) : notB (posI L) l g = !foundB L (secP L) g := by
  have h1 : (g ∈ posI L) ↔ ∃ p ∈ L, (p.1 : Int) = g := by unfold posI; rw [List.mem_map]
  have h2 := hl.2.2 g
  have h3 : foundB L (secP L) g = true ↔ (g ∈ posI L ∧ ¬ g ∈ l) := by
    unfold foundB
    rw [List.any_eq_true, h1, h2]
    constructor
    · rintro ⟨p, hp, hh⟩
      have : (p.1 : Int) = g ∧ ¬ p.1 ∈ secP L := by simpa [hitB] using hh
      refine ⟨⟨p, hp, this.1⟩, ?_⟩
      rintro ⟨k, hk, hkg⟩
      have : k = p.1 := by omega
      subst this
      exact (by assumption : _ ∧ ¬ _).2 hk
    · rintro ⟨⟨p, hp, hg⟩, hn⟩
      refine ⟨p, hp, ?_⟩
      have : ¬ p.1 ∈ secP L := fun hm => hn ⟨_, hm, hg⟩
      simp [hitB, hg, this]
  unfold notB
  cases hf : foundB L (secP L) g
  · rw [hf] at h3
    by_cases ha : g ∈ posI L
    · have : g ∈ l := Classical.byContradiction fun h => absurd (h3.2 ⟨ha, h⟩) (by simp)
      simp [this]
    · simp [ha]
  · obtain ⟨ha, hb⟩ := h3.1 hf
    simp [ha, hb]
theorem may_any {L : List (Nat × InsV)} {l : List Int} (hl : Keyed (secP L) l) : (goalL L).any (notB (posI L) l) = !mayB L := by
  have : ∀ M : List (Nat × InsV), (goalL M).any (notB (posI L) l) = !(M.all fun p => !jmpB p.2 || foundB L (secP L) (goalV p)) := by
    intro M
    induction M with
    | nil => rfl
    | cons p t ih =>
      unfold goalL at *
      rw [List.all_cons, Bool.not_and, ← ih]
      cases hj : jmpB p.2
      · rw [List.filter_cons_of_neg (by simp [hj])]; simp
      · rw [List.filter_cons_of_pos (by simp [hj]), List.map_cons, List.any_cons, not_found hl]; simp
  exact this L
theorem pos_rise {L : List (Nat × InsV)} (h : (L.map Prod.fst).Pairwise (· < ·)) : (posI L).Pairwise (· ≤ ·) := by
  have e : posI L = (L.map Prod.fst).map fun k : Nat => (k : Int) := by unfold posI; rw [List.map_map]; rfl
  rw [e, List.pairwise_map]
  exact h.imp fun h => by omega

theorem May_any (A : Option Addr) (cap n : Nat) (code : List Int) (hn : code.length = n) (w : World) (r : RowAt w A cap code) : Calls Try.prog 14 #[.slice A n cap] w fun e w' => e = .returned (.int .i64 (mayE code)) ∧ Below w.heap.size w w' := by
  have hb := r.2.2.1
  by_cases hE : ruleE code = 0
  · obtain ⟨hs, hsl, _⟩ := rule_scan hE
    obtain ⟨hk1, hk2⟩ := sec_bd hb hE
    have C1 := Lib.hid (read_yes A cap n code hn hE w r)
    unfold KeptP at C1
    have C2 := Lib.hid (fun A1 c1 A2 c2 v3 w' r1 r2 => @list_any code hb hE w' A1 A2 c1 c2 v3 r1 r2)
    have PR := Lib.hid (pos_rise (scan_rise hb hs))
    have PL := Lib.hid (posI_len (scanL code))
    have ZL := scanL_len hb
    have GL := goal_len (scanL code)
    have MA := Lib.hid (fun l hl => @may_any (scanL code) l (by rw [← hsl]; exact hl))
    have hm : mayE code = if mayB (scanL code) = true then 0 else 6 := by unfold mayE; rw [if_neg (by omega)]
    rw [hm]
    clear r hn hE hb hm hs hsl hk1
    generalize goalL (scanL code) = G at *
    generalize secL code = K at *
    generalize scanL code = L at *
    generalize mayB L = b at *
    generalize posI L = S at *
    generalize hz : L.length = z at *
    clear hz
    generalize hmm : K.length = m at *
    have HM := Lib.hid hmm
    clear hmm
    generalize hyy : G.length = y at *
    have HY := Lib.hid hyy
    clear hyy
    go_enter Try.func14, Try.ntmps14
    go_wp2_with fail
    refine C1.out.mono ?_; rintro e w1 ⟨A1, c1, A2, c2, A3, c3, l, rfl, i1, i2, hl, i3, hb1⟩
    have X1 := HasB.new w1 51 [.slice A1 z c1, .slice A2 z c2, .slice A3 m c3]
    have B1 := Lib.hid (bel_al hb1 (.cells #[.slice A1 z c1, .slice A2 z c2, .slice A3 m c3] 51))
    have b1 := bel_al (Below.refl w1.heap.size w1) (.cells #[.slice A1 z c1, .slice A2 z c2, .slice A3 m c3] 51)
    have J2 := i2.below b1
    have J3 := i3.below b1
    have C3 := Lib.hid (C2.out A1 c1 A2 c2 (.slice A3 m c3) (w1.alloc (.cells #[.slice A1 z c1, .slice A2 z c2, .slice A3 m c3] 51)) (i1.below b1) J2)
    have M2 := Lib.hid (MA.out l hl)
    have D := Lib.hid (fun (w2 : World) (k : Below (w1.alloc (.cells #[.slice A1 z c1, .slice A2 z c2, .slice A3 m c3] 51)).heap.size (w1.alloc (.cells #[.slice A1 z c1, .slice A2 z c2, .slice A3 m c3] 51)) w2) (x : Int) =>
      mayNot_any w1.heap.size (.slice A1 z c1) A2 A3 z m c2 c3 S l PL.out (by have := hl.1; rw [HM.out] at this; exact this) (by omega) hk2 PR.out hl.2.1 x w2 (X1.below k) (J2.below k) (J3.below k))
    clear C1 C2 i1 i2 i3 hl hb1 X1 b1 J2 J3 MA
    go_wp2_with fail
    refine C3.out.mono ?_; rintro e w2 ⟨A4, c4, rfl, i4, hb2⟩
    have B2 := Lib.hid (bel_then B1.out hb2)
    have E := Lib.hid (contains_any w1.heap.size (notB S l) A4 c4 y G HY.out (by omega) w2 i4 (fun W x k => D.out W (bel_then hb2 k) x))
    rw [M2.out] at E
    clear hb2 D C3 M2 i4
    cases b
    · go_wp2_with fail
      refine E.out.mono ?_; rintro e w3 ⟨rfl, q, rfl⟩
      go_wp2
      go_ret
      exact ⟨rfl, below_drewN B2.out _⟩
    · go_wp2_with fail
      refine E.out.mono ?_; rintro e w3 ⟨rfl, q, rfl⟩
      go_wp2
      go_ret
      exact ⟨rfl, below_drewN B2.out _⟩
  · have C1 := Lib.hid (read_no A cap n code hn hE w r)
    rw [show mayE code = ruleE code by unfold mayE; rw [if_pos hE]]
    have hq : (ruleE code != 0) = true := by rw [bne_iff_ne]; exact hE
    clear r hn hE hb
    generalize ruleE code = q at *
    go_enter Try.func14, Try.ntmps14
    go_wp2_with fail
    refine C1.out.mono ?_; rintro e w1 ⟨rfl, hb1⟩
    have B1 := Lib.hid (bel_al hb1 (.cells #[.slice none 0 0, .slice none 0 0, .slice none 0 0] 51))
    clear hb1
    go_wp2
    go_ret
    exact ⟨rfl, B1.out⟩
end Go.Proofs.Ythjllbagmbknbaa.Mm
