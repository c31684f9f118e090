/- What the program reads of code that keeps the rules. -/
import Derived.Test.YthjllbagmbknbaaGoalKeys
import Derived.Test.YthjllbagmbknbaaGoalMath
import Derived.Test.YthjllbagmbknbaaRuB
namespace Go.Proofs.Ythjllbagmbknbaa.Mm
open Go.ChangeShapes Go.WideShapes Go.ChangeAt Go.RowKit
set_option linter.unusedVariables false

theorem cell_apart {w : World} {p : Addr} {h : Nat} {t : TypeId} {cs : List Value} {v : Value} (hb : HasB w h t cs) (hc : w.cell? p = some v) (hv : v ∉ cs) : p.block ≠ h := by
  intro e
  obtain ⟨b, o, s⟩ := p
  subst e
  have h2 : w.heap[b]? = some (.cells cs.toArray t (0, 0)) := hb
  unfold World.cell? at hc
  simp only [h2] at hc
  split at hc
  · cases hc
  · have : cs[o]? = some v := by simpa using hc
    exact hv (List.mem_of_getElem? this)
theorem cell_but {w w' : World} {p : Addr} {h : Nat} (hp : p.block ≠ h) (he : ∀ k, k ≠ h → w'.heap[k]? = w.heap[k]?) : w'.cell? p = w.cell? p := by
  unfold World.cell?
  rw [he _ hp]
theorem IntRow.but {w w' : World} {A : Option Addr} {c h : Nat} {l : List Int} {t : TypeId} {cs : List Value} (r : IntRow w A c l) (hb : HasB w h t cs) (hcs : ∀ n : Int, Value.int .i64 n ∉ cs) (hs : w.heap.size ≤ w'.heap.size) (he : ∀ k, k ≠ h → w'.heap[k]? = w.heap[k]?) : IntRow w' A c l := by
  refine ⟨r.1, r.2.1, fun hne => ?_⟩
  obtain ⟨p, hA, hp, hc⟩ := r.2.2 hne
  have h0 := hc 0 (List.length_pos_iff.2 hne)
  have hpb : p.block ≠ h := by
    have := cell_apart hb h0 (hcs _)
    rwa [block_add] at this
  exact ⟨p, hA, by omega, fun i hi => (cell_but (by rw [block_add]; exact hpb) he).trans (hc i hi)⟩
theorem InsRow.but {w w' : World} {A : Option Addr} {c h : Nat} {l : List InsV} {t : TypeId} {cs : List Value} (r : InsRow w A c l) (hb : HasB w h t cs) (hcs : ∀ n : Int, Value.int .i64 n ∉ cs) (hs : w.heap.size ≤ w'.heap.size) (he : ∀ k, k ≠ h → w'.heap[k]? = w.heap[k]?) : InsRow w' A c l := by
  refine ⟨r.1, r.2.1, r.2.2.1, fun hne => ?_⟩
  obtain ⟨p, hA, hp, hc⟩ := r.2.2.2 hne
  have h0 := (hc 0 (List.length_pos_iff.2 hne)).c0
  have hpb : p.block ≠ h := by
    have := cell_apart hb h0 (hcs _)
    rwa [block_add] at this
  refine ⟨p, hA, by omega, fun i hi => ?_⟩
  obtain ⟨q0, q1, q2, q3⟩ := hc i hi
  have hq : (p.add (i * 4)).block ≠ h := by rw [block_add]; exact hpb
  exact ⟨(cell_but hq he).trans q0, (cell_but (p := ⟨_, _, none⟩) hq he).trans q1, (cell_but (p := ⟨_, _, none⟩) hq he).trans q2, (cell_but (p := ⟨_, _, none⟩) hq he).trans q3⟩

def nilC : List Value := [.slice none 0 0, .slice none 0 0, .slice none 0 0]
/-- a struct of three cells, set anew -/
structure Set3 (w : World) (h : Nat) (a b c : Value) (w' : World) : Prop where
  c0 : w'.cell? ⟨h, 0, none⟩ = some a
  c1 : w'.cell? ⟨h, 1, none⟩ = some b
  c2 : w'.cell? ⟨h, 2, none⟩ = some c
  sz : w.heap.size ≤ w'.heap.size
  rest : ∀ k, k ≠ h → w'.heap[k]? = w.heap[k]?
  bel : ∀ (B : Nat) (v : World), Below B v w → B ≤ h → Below B v w'
theorem set3 {w : World} {h : Nat} {t : TypeId} {x y z : Value} (hb : HasB w h t [x, y, z]) (a b c : Value) : Set3 w h a b c (((w.setCell ⟨h, 0, none⟩ a).setCell ⟨h, 1, none⟩ b).setCell ⟨h, 2, none⟩ c) := by
  have p0 := hb.cell 0
  have p1 := hb.cell 1
  have p2 := hb.cell 2
  simp only [List.getElem?_cons_zero, List.getElem?_cons_succ] at p0 p1 p2
  refine ⟨by simp [go_sem, p0], by simp [go_sem, p1], by simp [go_sem, p2], by simp, fun k hk => ?_, fun B v hv hB => ((hv.setCell (p := ⟨h, 0, none⟩) hB _).setCell (p := ⟨h, 1, none⟩) hB _).setCell (p := ⟨h, 2, none⟩) hB _⟩
  rw [Below.heap_setCell _ _ _ _ hk, Below.heap_setCell _ _ _ _ hk, Below.heap_setCell _ _ _ _ hk]
theorem read_no (A : Option Addr) (cap n : Nat) (code : List Int) (hn : code.length = n) (hE : ruleE code ≠ 0) (w : World) (r : RowAt w A cap code) :
    Calls Try.prog 19 #[.slice A n cap] w fun e w' => e = .returned (.tuple #[.agg #[.slice none 0 0, .slice none 0 0, .slice none 0 0], .int .i64 (ruleE code)]) ∧ Below w.heap.size w w' := by
  have C1 := Lib.hid (fun w' (k : Below w.heap.size w w') => Seconds_no A cap n code hn hE w' (r.below k))
  have hq : (ruleE code != 0) = true := by rw [bne_iff_ne]; exact hE
  have X0 := Lib.hid (HasB.new w 51 nilC)
  have B0 := Lib.hid (bel_al (Below.refl w.heap.size w) (.cells nilC.toArray 51))
  unfold nilC at X0 B0
  clear r hn hE
  generalize ruleE code = q at *
  go_enter Try.func19, Try.ntmps19
  go_wp2_with fail
  refine (C1.out _ B0.out).mono ?_; rintro e w1 ⟨rfl, hb1⟩
  have X1 := X0.out.below hb1
  have p0 := X1.cell 0
  have p1 := X1.cell 1
  have p2 := X1.cell 2
  have f0 := X1.frozen 0
  have f1 := X1.frozen 1
  have f2 := X1.frozen 2
  have S := Lib.hid (set3 X1 (.slice none 0 0) (.slice none 0 0) (.slice none 0 0))
  have B1 := Lib.hid (bel_then B0.out hb1)
  clear X1 hb1 X0 B0 C1
  simp only [List.getElem?_cons_zero, List.getElem?_cons_succ] at p0 p1 p2
  go_wp2
  have B2 := S.out.bel _ _ B1.out (Nat.le_refl _)
  obtain ⟨k0, k1, k2, _, _, _⟩ := S.out
  generalize ((w1.setCell ⟨w.heap.size, 0, none⟩ (.slice none 0 0)).setCell ⟨w.heap.size, 1, none⟩ (.slice none 0 0)).setCell ⟨w.heap.size, 2, none⟩ (.slice none 0 0) = W2 at *
  exact bodyPost_ret (v := .tuple #[.agg #[.slice none 0 0, .slice none 0 0, .slice none 0 0], .int .i64 q]) (by simp [results, Try.results19, go_sem, k0, k1, k2]) rfl ⟨rfl, B2⟩

/-- code that keeps the rules, as the program keeps it -/
def KeptP (w : World) (code : List Int) (e : Ending) (w' : World) : Prop :=
  ∃ A1 c1 A2 c2 A3 c3 l, e = .returned (.tuple #[.agg #[.slice A1 (scanL code).length c1, .slice A2 (scanL code).length c2, .slice A3 (secL code).length c3], .int .i64 0]) ∧
    InsRow w' A1 c1 (insI (scanL code)) ∧ IntRow w' A2 c2 (posI (scanL code)) ∧ Keyed (secL code) l ∧ IntRow w' A3 c3 l ∧ Below w.heap.size w w'
theorem sec_bd {code : List Int} (hb : Go.Proofs.Ythjllbagmbknbaa.Bytes code) (hE : ruleE code = 0) : (∀ k ∈ secL code, k ≤ 100000) ∧ (secL code).length ≤ 100000 := by
  obtain ⟨h1, h2, _⟩ := rule_scan hE
  have hl := scanL_len hb
  have hcl : code.length ≤ 4096 := by
    rcases scan_cases code with ⟨_, e, _⟩ | ⟨_, _, e, _⟩ | ⟨h, _⟩
    · rw [e] at h1; cases h1
    · rw [e] at h1; cases h1
    · have := (sizeB_iff _).1 h; omega
  rw [h2]
  unfold secP
  constructor
  · intro k hk
    obtain ⟨p, hp, rfl⟩ := List.mem_map.1 hk
    have := scan_below hb h1 p (List.mem_filter.1 hp).1
    omega
  · rw [List.length_map]
    have := List.length_filter_le (fun p : Nat × InsV => useB p.2) (scanL code)
    omega

set_option maxHeartbeats 1000000 in
theorem read_yes (A : Option Addr) (cap n : Nat) (code : List Int) (hn : code.length = n) (hE : ruleE code = 0) (w : World) (r : RowAt w A cap code) : Calls Try.prog 19 #[.slice A n cap] w (KeptP w code) := by
  obtain ⟨hs, _, _⟩ := rule_scan hE
  obtain ⟨hk1, hk2⟩ := sec_bd r.2.2.1 hE
  have C1 := Lib.hid (fun w' (k : Below w.heap.size w w') => Seconds_yes A cap n code hn hE w' (r.below k))
  have C2 := Lib.hid (fun w' (k : Below w.heap.size w w') => Starts_any A cap n code hn w' (r.below k))
  have C3 := Lib.hid (fun w' (k : Below w.heap.size w w') => Listing_any A cap n code hn w' (r.below k))
  unfold StartsP at C2
  unfold ListP at C3
  rw [hs] at C2 C3
  have X0 := Lib.hid (HasB.new w 51 nilC)
  have B0 := Lib.hid (bel_al (Below.refl w.heap.size w) (.cells nilC.toArray 51))
  unfold nilC at X0 B0
  unfold KeptP
  clear r hn hE hs
  have C5 := Lib.hid (fun b w' (h : SetAt w' b (secL code)) => Sorted_any b (secL code) w' h hk1 hk2)
  clear hk1 hk2
  generalize secL code = K at *
  generalize scanL code = L at *
  generalize hz : L.length = z at *
  clear hz
  generalize K.length = m at *
  go_enter Try.func19, Try.ntmps19
  go_wp2_with fail
  refine (C1.out _ B0.out).mono ?_; rintro e w1 ⟨g, rfl, _, hset, hb1⟩
  have X1 := Lib.hid (X0.out.below hb1)
  have B1 := Lib.hid (bel_then B0.out hb1)
  have S1 := Lib.hid hset
  clear hset hb1 X0 B0 C1
  go_wp2_with fail
  refine (C2.out _ B1.out).mono ?_; rintro e w2 ⟨A2, c2, rfl, i2, hb2⟩
  have X2 := Lib.hid (X1.out.below hb2)
  have B2 := Lib.hid (bel_then B1.out hb2)
  have S2 := Lib.hid (S1.out.below hb2)
  have I2 := Lib.hid i2
  clear i2 hb2 X1 B1 S1 C2
  go_wp2_with fail
  refine (C3.out _ B2.out).mono ?_; rintro e w3 ⟨A1, c1, rfl, i1, hb3⟩
  have X3 := Lib.hid (X2.out.below hb3)
  have B3 := Lib.hid (bel_then B2.out hb3)
  have S3 := Lib.hid (S2.out.below hb3)
  have I3 := Lib.hid (I2.out.below hb3)
  have I1 := Lib.hid i1
  clear i1 hb3 X2 B2 S2 I2 C3
  go_wp2_with fail
  refine (Keys_any _ _).mono ?_; rintro e w4 ⟨rfl, rfl⟩
  go_wp2_with fail
  refine (C5.out g w3 S3.out).mono ?_; rintro e w5 ⟨A3, c3, l, rfl, hl, i3, hb5⟩
  have X5 := X3.out.below hb5
  have B5 := Lib.hid (bel_then B3.out hb5)
  have I15 := Lib.hid (I1.out.below hb5)
  have I25 := Lib.hid (I3.out.below hb5)
  have I35 := Lib.hid i3
  have HL := Lib.hid hl
  have p0 := X5.cell 0
  have p1 := X5.cell 1
  have p2 := X5.cell 2
  have f0 := X5.frozen 0
  have f1 := X5.frozen 1
  have f2 := X5.frozen 2
  have S := Lib.hid (set3 X5 (.slice A1 z c1) (.slice A2 z c2) (.slice A3 m c3))
  have XX := Lib.hid X5
  clear X5 hb5 i3 hl X3 B3 S3 I3 I1 C5
  simp only [List.getElem?_cons_zero, List.getElem?_cons_succ] at p0 p1 p2
  go_wp2
  have B6 := S.out.bel _ _ B5.out (Nat.le_refl _)
  obtain ⟨k0, k1, k2, hsz, hrest, _⟩ := S.out
  have J1 := I15.out.but XX.out (by intro n; simp) hsz hrest
  have J2 := I25.out.but XX.out (by intro n; simp) hsz hrest
  have J3 := I35.out.but XX.out (by intro n; simp) hsz hrest
  clear S hsz hrest
  generalize ((w5.setCell ⟨w.heap.size, 0, none⟩ (.slice A1 z c1)).setCell ⟨w.heap.size, 1, none⟩ (.slice A2 z c2)).setCell ⟨w.heap.size, 2, none⟩ (.slice A3 m c3) = W2 at *
  exact bodyPost_ret (v := .tuple #[.agg #[.slice A1 z c1, .slice A2 z c2, .slice A3 m c3], .int .i64 0]) (by simp [results, Try.results19, go_sem, k0, k1, k2]) rfl ⟨A1, c1, A2, c2, A3, c3, l, rfl, J1, J2, HL.out, J3, B6⟩
end Go.Proofs.Ythjllbagmbknbaa.Mm
