/- The statement RuleKept, walked. -/
import Derived.Test.YtojpcijfipdiaaaRulePlays
namespace Go.Proofs.Ytojpcijfipdiaaa.Mm
open Go.ChangeShapes Go.WideShapes Go.ChangeAt Go.RowKit
set_option linter.unusedVariables false

theorem kept_ways {u : InsV} (hg : gateB u = false) :
    (useB u = false ∧ (u.op == 15) = false ∧ (u.op == 16) = false ∧ (u.op == 21) = false ∧ (u.op == 22) = true ∧ decide (4 < u.imm) = false) ∨
    (useB u = false ∧ (u.op == 15) = false ∧ (u.op == 16) = false ∧ (u.op == 21) = false ∧ (u.op == 22) = false) ∨
    (useB u = true ∧ (u.op == 22) = false ∧ (u.op == 15) = true) ∨ (useB u = true ∧ (u.op == 22) = false ∧ (u.op == 15) = false ∧ (u.op == 16) = true) ∨
    (useB u = true ∧ (u.op == 22) = false ∧ (u.op == 15) = false ∧ (u.op == 16) = false ∧ (u.op == 21) = true) := by
  unfold gateB at hg
  unfold useB
  by_cases h1 : u.op = 15
  · simp [h1]
  · by_cases h2 : u.op = 16
    · simp [h2]
    · by_cases h3 : u.op = 21
      · simp [h3]
      · by_cases h4 : u.op = 22
        · have : u.imm ≤ 4 := by simpa [h4] using hg
          simp [h4, this]
        · simp [h1, h2, h3, h4]
theorem stands_use {L : List (Nat × InsV)} {k : Nat} (h : standsB L k = true) (hu : useB (L.getD k dfl).2 = true) : (L.getD k dfl).1 % 32 ≠ 0 ∧ pairB (L.getD (k - 1) dfl).2 (L.getD k dfl).2 = true := by
  unfold standsB at h
  rw [hu] at h
  simpa using (by simpa using h : _ ∧ _ ∧ _).2
theorem stands_gate {L : List (Nat × InsV)} {k : Nat} (h : standsB L k = true) : gateB (L.getD k dfl).2 = false := by
  unfold standsB at h
  cases hg : gateB (L.getD k dfl).2
  · rfl
  · rw [hg] at h; simp at h

/-- the world of a round's test: a place, asked in a map; an instruction, and that ahead of it -/
def KaR (w : World) (g : Nat) (t : Addr) (P : Nat) (q : Addr) (u : InsV) (w' : World) : Prop := (Instr.lookup 24 (.map (some g)) (.int .i64 P) false).run Try.prog w' = .ok (.bool false) w' ∧ w'.cell? t = some (.int .i64 (P : Int)) ∧ InsAt w' q u ∧ Below w.heap.size w w'
def KaS (w : World) (g : Nat) (t : Addr) (P : Nat) (q : Addr) (u : InsV) (w' : World) : Prop :=
  ((Instr.lookup 24 (.map (some g)) (.int .i64 P) false).run Try.prog w' = .ok (.bool false) w' ∧ w'.cell? t = some (.int .i64 (P : Int)) ∧ w'.cell? q = some (.int .i64 u.op) ∧ w'.cell? ⟨q.block, q.off + 3, none⟩ = some (.int .u32 u.imm)) ∧ KaR w g t P q u w'
theorem KaR.s {w : World} {g : Nat} {t : Addr} {P : Nat} {q : Addr} {u : InsV} {w' : World} (k : KaR w g t P q u w') : KaS w g t P q u w' := ⟨⟨k.1, k.2.1, k.2.2.1.c0, k.2.2.1.c3⟩, k⟩
theorem ka_of {w w' : World} {g : Nat} {t : Addr} {P : Nat} {q : Addr} {u : InsV} {S : List Nat} (hs : SetAt w g S) (hP : decide (P ∈ S) = false) (ht : t.block < w.heap.size) (hc : w.cell? t = some (.int .i64 (P : Int))) (hq : q.block < w.heap.size) (hi : InsAt w q u)
    (hb : Below w.heap.size w w') : KaR w g t P q u w' := by
  refine ⟨?_, by rw [hb.cell ht]; exact hc, hi.below hq hb, hb⟩
  have := (hs.below hb).look Try.underlying24 Try.underlying3 (zero_bool w') P
  rwa [hP] at this
def KbR (w : World) (g : Nat) (t : Addr) (P : Nat) (p q : Addr) (v u : InsV) (w' : World) : Prop := (Instr.lookup 24 (.map (some g)) (.int .i64 P) false).run Try.prog w' = .ok (.bool true) w' ∧ w'.cell? t = some (.int .i64 (P : Int)) ∧ InsAt w' p v ∧ InsAt w' q u ∧ Below w.heap.size w w'
def KbS (w : World) (g : Nat) (t : Addr) (P : Nat) (p q : Addr) (v u : InsV) (w' : World) : Prop :=
  ((Instr.lookup 24 (.map (some g)) (.int .i64 P) false).run Try.prog w' = .ok (.bool true) w' ∧ w'.cell? t = some (.int .i64 (P : Int)) ∧ w'.cell? p = some (.int .i64 v.op) ∧ w'.cell? ⟨p.block, p.off + 1, none⟩ = some (.int .i64 v.a) ∧ w'.cell? ⟨p.block, p.off + 2, none⟩ = some (.int .i64 v.b) ∧ w'.cell? ⟨p.block, p.off + 3, none⟩ = some (.int .u32 v.imm) ∧
    w'.cell? q = some (.int .i64 u.op) ∧ w'.cell? ⟨q.block, q.off + 1, none⟩ = some (.int .i64 u.a) ∧ w'.cell? ⟨q.block, q.off + 2, none⟩ = some (.int .i64 u.b) ∧ w'.cell? ⟨q.block, q.off + 3, none⟩ = some (.int .u32 u.imm)) ∧ KbR w g t P p q v u w'
theorem KbR.s {w : World} {g : Nat} {t : Addr} {P : Nat} {p q : Addr} {v u : InsV} {w' : World} (k : KbR w g t P p q v u w') : KbS w g t P p q v u w' :=
  ⟨⟨k.1, k.2.1, k.2.2.1.c0, k.2.2.1.c1, k.2.2.1.c2, k.2.2.1.c3, k.2.2.2.1.c0, k.2.2.2.1.c1, k.2.2.2.1.c2, k.2.2.2.1.c3⟩, k⟩
theorem kb_of {w w' : World} {g : Nat} {t : Addr} {P : Nat} {p q : Addr} {v u : InsV} {S : List Nat} (hs : SetAt w g S) (hP : decide (P ∈ S) = true) (ht : t.block < w.heap.size) (hc : w.cell? t = some (.int .i64 (P : Int))) (hp : p.block < w.heap.size) (hj : InsAt w p v) (hq : q.block < w.heap.size) (hi : InsAt w q u)
    (hb : Below w.heap.size w w') : KbR w g t P p q v u w' := by
  refine ⟨?_, by rw [hb.cell ht]; exact hc, hj.below hp hb, hi.below hq hb, hb⟩
  have := (hs.below hb).look Try.underlying24 Try.underlying3 (zero_bool w') P
  rwa [hP] at this
theorem kb_keep {w : World} {g : Nat} {t : Addr} {P : Nat} {p q : Addr} {v u : InsV} {a w' : World} {X : Prop} (KB : ∀ w1, Below w.heap.size w w1 → KbR w g t P p q v u w1) (k : X ∧ KbR w g t P p q v u a) (hb : Below a.heap.size a w') : KbS w g t P p q v u w' :=
  (KB w' (bel_then k.2.2.2.2.2 hb)).s

theorem kept_long (A : Option Addr) (cap n : Nat) (h : 4200 < n) (hm : n ≤ maxLen) (w : World) :
    Calls Try.prog 5 #[.slice A n cap] w fun e w' => e = .returned (.bool true) ∧ Below w.heap.size w w' := by
  unfold maxLen at hm
  go_enter Try.func5, Try.ntmps5
  go_wp2_with fail
  refine (awake_any _).mono ?_; rintro e w1 ⟨rfl, hb1⟩
  have B1 := Lib.hid hb1; clear hb1
  go_wp2_with fail
  refine (awake_any _).mono ?_; rintro e w2 ⟨rfl, hb2⟩
  have B2 := Lib.hid (bel_then B1.out hb2); clear hb2
  go_wp2_with fail
  go_ret
  exact ⟨rfl, B2.out⟩

theorem kept_bad (A : Option Addr) (cap n : Nat) (code : List Int) (hn : code.length = n) (h : n ≤ 4200) (hE : ruleE code ≠ 0) (w : World) (r : RowAt w A cap code) :
    Calls Try.prog 5 #[.slice A n cap] w fun e w' => e = .returned (.bool true) ∧ Below w.heap.size w w' := by
  have C1 := Lib.hid (fun w' (k : Below w.heap.size w w') => Seconds_no A cap n code hn hE w' (r.below k))
  have hq : (ruleE code != 0) = true := by rw [bne_iff_ne]; exact hE
  clear r hn hE
  generalize ruleE code = q at *
  go_enter Try.func5, Try.ntmps5
  go_wp2_with fail
  refine (awake_any _).mono ?_; rintro e w1 ⟨rfl, hb1⟩
  have B1 := Lib.hid hb1; clear hb1
  go_wp2_with fail
  refine (C1.out w1 B1.out).mono ?_; rintro e w2 ⟨rfl, hb2⟩
  have B2 := Lib.hid (bel_then B1.out hb2); clear hb2 C1
  have hl := len_nil w2
  go_wp2
  go_ret
  exact ⟨rfl, B2.out⟩

set_option maxRecDepth 10000 in
set_option maxHeartbeats 8000000 in
theorem kept_ok (A : Option Addr) (cap n : Nat) (code : List Int) (hn : code.length = n) (h : n ≤ 4200) (hE : ruleE code = 0) (hS : scanE code = 0) (hR : ruleB (scanL code) = true) (hL : secL code = secP (scanL code)) (w : World) (r : RowAt w A cap code) :
    Calls Try.prog 5 #[.slice A n cap] w fun e w' => e = .returned (.bool true) ∧ Below w.heap.size w w' := by
  have C1 := Lib.hid (fun w' (k : Below w.heap.size w w') => Seconds_yes A cap n code hn hE w' (r.below k))
  have C2 := Lib.hid (fun w' (k : Below w.heap.size w w') => rscan_any A cap n code hn w' (r.below k))
  unfold ReadP at C2
  rw [hS] at C2
  rw [hL] at C1
  have hz := scanL_len r.2.2.1
  have HR := Lib.hid (scan_rise r.2.2.1 hS)
  have HO := Lib.hid (fun k hk => scan_oks r.2.2.1 hS (k := k) hk)
  have HP := Lib.hid (fun k hk => scan_place r.2.2.1 hS (k := k) hk)
  have H0 := Lib.hid (fun hk => place_0 r.2.2.1 hS hk)
  have HST := Lib.hid ((ruleB_iff _).1 hR)
  have PL := Lib.hid (posI_len (scanL code))
  have IL := Lib.hid (insI_len (scanL code))
  rw [hn] at HP
  clear r hn hE hS hR hL
  generalize scanL code = L at *
  have HZ : Hid (L.length = L.length) := Lib.hid rfl
  generalize hz' : L.length = z at C2 PL IL hz
  clear HZ
  have HZ := Lib.hid hz'
  clear hz'
  go_enter Try.func5, Try.ntmps5
  go_wp2_with fail
  refine (awake_any _).mono ?_; rintro e w1 ⟨rfl, hb1⟩
  have B1 := Lib.hid hb1; clear hb1
  go_wp2_with fail
  refine (C1.out w1 B1.out).mono ?_; rintro e w2 ⟨g, rfl, _, hs2, hb2⟩
  have M2 := Lib.hid hs2
  have B2 := Lib.hid (bel_then B1.out hb2); clear hb2 hs2
  go_wp2_with fail
  refine (C2.out w2 B2.out).mono ?_; rintro e w3 ⟨A2, c2, A3, c3, rfl, i2, i3, hb3⟩
  have I3 := Lib.hid i3
  have J2 := Lib.hid i2
  have M3 := Lib.hid (M2.out.below hb3)
  have B3 := Lib.hid (bel_then B2.out hb3); clear i3 hb3 i2 C1 C2 M2
  go_wp2
  go_loopw [8, 9] (fun c i wr => ∃ (k cc : Nat), i = .int .i64 k ∧ k ≤ z ∧ c = .int .i64 cc ∧ cc ≤ k ∧ Hid (cc = (secP (L.take k)).length) ∧ Hid (Below w3.heap.size w3 wr)) (fun _ i _ => z - (intOf i).toNat)
  case atStart => exact ⟨0, 0, rfl, Nat.zero_le _, rfl, Nat.le_refl _, Lib.hid rfl, Lib.hid (Below.refl _ _)⟩
  case round =>
    obtain ⟨k, cc, rfl, hk, rfl, hcc, HC, HB⟩ := hrel
    by_cases hlt : k < z
    · have hkL : k < L.length := by rw [HZ.out]; exact hlt
      obtain ⟨x, rfl, hxb, hc⟩ := (J2.out.below HB.out).2.2 (by intro e; have := PL.out; rw [e] at this; simp at this; omega)
      obtain ⟨y, rfl, hyb, hd⟩ := (I3.out.below HB.out).2.2.2 (by intro e; have := IL.out; rw [e] at this; simp at this; omega)
      have e1 := hc k (by rw [PL.out]; exact hlt)
      rw [pos_at hkL] at e1
      have PX := Lib.hid (hd k (by rw [IL.out]; exact hlt))
      rw [ins_at hkL] at PX
      have hpl := HP.out k hkL
      have hst := HST.out k hkL
      have HSY := Lib.hid (fun h => sec_yes (L := L) hkL h)
      have HSN := Lib.hid (fun h => sec_no (L := L) hkL h)
      have HSM := Lib.hid (sec_mem HR.out hkL)
      have HUS := Lib.hid (fun h => stands_use hst h)
      have HOK := Lib.hid (HO.out k hkL)
      have HW := kept_ways (stands_gate hst)
      have ht : (x.add k).block < wr.heap.size := by rw [block_add]; exact hxb
      have hq : (y.add (k * 4)).block < wr.heap.size := by rw [block_add]; exact hyb
      have M4 := Lib.hid (M3.out.below HB.out)
      have hk0 : k = 0 → (L.getD k dfl).1 = 0 := fun h => by subst h; exact H0.out hkL
      clear hst hc
      generalize secP (L.take k) = S0 at *
      generalize secP L = SS at *
      generalize (L.getD k dfl).1 = P at *
      generalize (L.getD k dfl).2 = u at *
      have p0 := PX.out.c0
      rcases HW with ⟨hu, h1, h2, h3, h4, h5⟩ | ⟨hu, h1, h2, h3, h4⟩ | ⟨hu, h4, h1⟩ | ⟨hu, h4, h1, h2⟩ | ⟨hu, h4, h1, h2, h3⟩
      iterate 2
        · have hm : decide (P ∈ SS) = false := decide_eq_false (fun h => by rw [HSM.out.1 h] at hu; cases hu)
          have hl : ∀ j, (Instr.lookup 24 (.map (some g)) (.int .i64 P) false).run Try.prog (wr.drewN j) = .ok (.bool false) (wr.drewN j) := fun j => (ka_of M4.out hm ht e1 hq PX.out (below_drewN (Below.refl _ wr) j)).1
          have p3 := PX.out.c3
          have HN1 := Lib.hid (HSN.out hu)
          clear hu hm HSM HSY HSN HUS hd
          go_wp2_with fail
          go_quiet (fail)
          clear hl
          go_wp2
          go_roundw
          case rel => exact ⟨k + 1, cc, by go_num, by omega, rfl, by omega, by rw [HN1.out]; exact HC, Lib.hid (below_drewN HB.out _)⟩
          case measure => simp [intOf]; omega
      all_goals
        obtain ⟨hp0, hpr⟩ := HUS.out hu
        have hm : decide (P ∈ SS) = true := decide_eq_true (HSM.out.2 hu)
        have HN1 := Lib.hid (HSY.out hu)
        obtain ⟨m, hmk⟩ : ∃ m, k = m + 1 := by
          rcases Nat.eq_zero_or_pos k with h | h
          · exact absurd (by rw [hk0 h]) hp0
          · exact ⟨k - 1, by omega⟩
        have hmL : m < L.length := by omega
        rw [show k - 1 = m by omega] at hpr
        have PY := Lib.hid (hd m (by rw [insI_len]; exact hmL))
        rw [ins_at hmL] at PY
        have HOY := Lib.hid (HO.out m hmL)
        generalize (L.getD m dfl).2 = v at PY HOY hpr
        have HSE := Lib.hid (Second_any v u HOY.out HOK.out)
        rw [hpr] at HSE
        unfold InsV.agg at HSE
        have t3 : (((P : Int)).tmod 32 == 0) = false := by rw [Int.tmod_eq_emod_of_nonneg (by omega), beq_eq_false_iff_ne]; omega
        have t4 : (((P : Int)) % 32 == 0) = false := by rw [beq_eq_false_iff_ne]; omega
        have t6 : m < z := by omega
        have t5 : IntKind.i64.wrap ((k : Int) - 1) = (m : Int) := by
          rw [show (k : Int) - 1 = (m : Int) by omega]; exact IntWalk.i64_in _ (by omega)
        have hp : (y.add (m * 4)).block < wr.heap.size := by rw [block_add]; exact hyb
        have KB := Lib.hid (fun w' hb => kb_of (w' := w') M4.out hm ht e1 hp PY.out hq PX.out hb)
        clear hu hm HSM HSY HSN HUS hd hp0 hpr hmk hmL hk0
        go_wp2_with fail
        clear p0 e1
        refine wp_region_noPanic ?_
        refine wp_region_held_drew (S := (fun w' => ((Instr.lookup 24 (.map (some g)) (.int .i64 P) false).run Try.prog w' = .ok (.bool true) w' ∧ w'.cell? (x.add k) = some (.int .i64 (P : Int)) ∧ w'.cell? (y.add (m * 4)) = some (.int .i64 v.op) ∧ w'.cell? ⟨(y.add (m * 4)).block, (y.add (m * 4)).off + 1, none⟩ = some (.int .i64 v.a) ∧ w'.cell? ⟨(y.add (m * 4)).block, (y.add (m * 4)).off + 2, none⟩ = some (.int .i64 v.b) ∧ w'.cell? ⟨(y.add (m * 4)).block, (y.add (m * 4)).off + 3, none⟩ = some (.int .u32 v.imm) ∧ w'.cell? (y.add (k * 4)) = some (.int .i64 u.op) ∧ w'.cell? ⟨(y.add (k * 4)).block, (y.add (k * 4)).off + 1, none⟩ = some (.int .i64 u.a) ∧ w'.cell? ⟨(y.add (k * 4)).block, (y.add (k * 4)).off + 2, none⟩ = some (.int .i64 u.b) ∧ w'.cell? ⟨(y.add (k * 4)).block, (y.add (k * 4)).off + 3, none⟩ = some (.int .u32 u.imm)) ∧ KbR wr g (x.add k) P (y.add (m * 4)) (y.add (k * 4)) v u w')) (by kernel_rfl) ?_ (fun hHeld => ?_)
        · (try dsimp only)
          first | exact KbR.s (KB.out _ (Below.refl _ _)) | exact KbR.s (KB.out _ (below_drew1 (Below.refl _ _))) | exact kb_keep KB.out hHeld hbr
        refine wpAnyH_take (i := 0) (oi := { dst := some 66, op := Op.move (Operand.tmp 3), type := 24, pos := "law.go:80", after := #[], guard := none }) (v := ?_) rfl (by kernel_rfl) (by kernel_rfl) (by kernel_rfl) (fun _ _ _ h => h) (Or.inl ⟨by rfl, ?_⟩) (by assumption) ?_
        rotate_left
        · intro w hSw; (try dsimp only at hSw); go_simp <;> (with_reducible rfl)
        (try simp only [Act.put, List.setIfInBounds_toArray, List.set_cons_zero, List.set_cons_succ])
        refine wpAnyH_take (i := 1) (oi := { dst := some 67, op := Op.move (Operand.tmp 5), type := 39, pos := "law.go:80", after := #[], guard := none }) (v := ?_) rfl (by kernel_rfl) (by kernel_rfl) (by kernel_rfl) (fun _ _ _ h => h) (Or.inl ⟨by rfl, ?_⟩) (by assumption) ?_
        rotate_left
        · intro w hSw; (try dsimp only at hSw); go_simp <;> (with_reducible rfl)
        (try simp only [Act.put, List.setIfInBounds_toArray, List.set_cons_zero, List.set_cons_succ])
        refine wpAnyH_take (i := 2) (oi := { dst := some 68, op := Op.move (Operand.tmp 9), type := 3, pos := "law.go:80", after := #[], guard := none }) (v := ?_) rfl (by kernel_rfl) (by kernel_rfl) (by kernel_rfl) (fun _ _ _ h => h) (Or.inl ⟨by rfl, ?_⟩) (by assumption) ?_
        rotate_left
        · intro w hSw; (try dsimp only at hSw); go_simp <;> (with_reducible rfl)
        (try simp only [Act.put, List.setIfInBounds_toArray, List.set_cons_zero, List.set_cons_succ])
        refine wpAnyH_take (i := 3) (oi := { dst := some 69, op := Op.indexAddr 39 (Operand.tmp 67) (Operand.tmp 68), type := 0, pos := "law.go:80", after := #[{ on := 1, ground := Ground.data }, { on := 2, ground := Ground.data }], guard := none }) (v := ?_) rfl (by kernel_rfl) (by kernel_rfl) (by kernel_rfl) (fun _ _ _ h => h) (Or.inl ⟨by rfl, ?_⟩) (by assumption) ?_
        rotate_left
        · intro w hSw; (try dsimp only at hSw); go_simp <;> (with_reducible rfl)
        (try simp only [Act.put, List.setIfInBounds_toArray, List.set_cons_zero, List.set_cons_succ])
        refine wpAnyH_take (i := 4) (oi := { dst := some 70, op := Op.load 3 (Operand.tmp 69), type := 3, pos := "law.go:80", after := #[{ on := 3, ground := Ground.data }], guard := none }) (v := ?_) rfl (by kernel_rfl) (by kernel_rfl) (by kernel_rfl) (fun _ _ _ h => h) (Or.inl ⟨by rfl, ?_⟩) (by assumption) ?_
        rotate_left
        · intro w hSw; (try dsimp only at hSw); go_simp <;> (with_reducible rfl)
        (try simp only [Act.put, List.setIfInBounds_toArray, List.set_cons_zero, List.set_cons_succ])
        refine wpAnyH_take (i := 5) (oi := { dst := some 71, op := Op.lookup 24 (Operand.tmp 66) (Operand.tmp 70) false, type := 4, pos := "law.go:80", after := #[{ on := 0, ground := Ground.data }, { on := 4, ground := Ground.data }], guard := none }) (v := ?_) rfl (by kernel_rfl) (by kernel_rfl) (by kernel_rfl) (fun _ _ _ h => h) (Or.inl ⟨by rfl, ?_⟩) (by assumption) ?_
        rotate_left
        · intro w hSw; (try dsimp only at hSw); go_simp <;> (with_reducible rfl)
        (try simp only [Act.put, List.setIfInBounds_toArray, List.set_cons_zero, List.set_cons_succ])
        refine wpAnyH_take (i := 6) (oi := { dst := some 72, op := Op.move (Operand.tmp 10), type := 4, pos := "law.go:80", after := #[], guard := none }) (v := ?_) rfl (by kernel_rfl) (by kernel_rfl) (by kernel_rfl) (fun _ _ _ h => h) (Or.inl ⟨by rfl, ?_⟩) (by assumption) ?_
        rotate_left
        · intro w hSw; (try dsimp only at hSw); go_simp <;> (with_reducible rfl)
        (try simp only [Act.put, List.setIfInBounds_toArray, List.set_cons_zero, List.set_cons_succ])
        refine wpAnyH_take (i := 7) (oi := { dst := some 73, op := Op.binOp BinOp.neq 4 (Operand.tmp 71) (Operand.tmp 72) 4, type := 4, pos := "law.go:80", after := #[{ on := 5, ground := Ground.data }, { on := 6, ground := Ground.data }], guard := none }) (v := ?_) rfl (by kernel_rfl) (by kernel_rfl) (by kernel_rfl) (fun _ _ _ h => h) (Or.inl ⟨by rfl, ?_⟩) (by assumption) ?_
        rotate_left
        · intro w hSw; (try dsimp only at hSw); go_simp <;> (with_reducible rfl)
        (try simp only [Act.put, List.setIfInBounds_toArray, List.set_cons_zero, List.set_cons_succ])
        refine wpAnyH_take (i := 8) (oi := { dst := some 74, op := Op.move (Operand.tmp 73), type := 4, pos := "law.go:80", after := #[{ on := 7, ground := Ground.data }], guard := none }) (v := ?_) rfl (by kernel_rfl) (by kernel_rfl) (by kernel_rfl) (fun _ _ _ h => h) (Or.inl ⟨by rfl, ?_⟩) (by assumption) ?_
        rotate_left
        · intro w hSw; (try dsimp only at hSw); go_simp <;> (with_reducible rfl)
        (try simp only [Act.put, List.setIfInBounds_toArray, List.set_cons_zero, List.set_cons_succ])
        refine wpAnyH_take (i := 9) (oi := { dst := some 75, op := Op.move (Operand.tmp 10), type := 4, pos := "law.go:80", after := #[{ on := 8, ground := Ground.guard }], guard := some (8, false) }) (v := ?_) rfl (by kernel_rfl) (by kernel_rfl) (by kernel_rfl) (fun _ _ _ h => h) (Or.inl ⟨by rfl, ?_⟩) (by assumption) ?_
        rotate_left
        · intro w hSw; (try dsimp only at hSw); go_simp <;> (with_reducible rfl)
        (try simp only [Act.put, List.setIfInBounds_toArray, List.set_cons_zero, List.set_cons_succ])
        refine wpAnyH_take (i := 10) (oi := { dst := some 76, op := Op.move (Operand.tmp 75), type := 4, pos := "law.go:80", after := #[{ on := 9, ground := Ground.data }, { on := 8, ground := Ground.chain }, { on := 8, ground := Ground.guard }], guard := some (8, false) }) (v := ?_) rfl (by kernel_rfl) (by kernel_rfl) (by kernel_rfl) (fun _ _ _ h => h) (Or.inl ⟨by rfl, ?_⟩) (by assumption) ?_
        rotate_left
        · intro w hSw; (try dsimp only at hSw); go_simp <;> (with_reducible rfl)
        (try simp only [Act.put, List.setIfInBounds_toArray, List.set_cons_zero, List.set_cons_succ])
        refine wpAnyH_take (i := 11) (oi := { dst := some 77, op := Op.move (Operand.tmp 5), type := 39, pos := "law.go:80", after := #[{ on := 10, ground := Ground.guard }], guard := some (10, true) }) (v := ?_) rfl (by kernel_rfl) (by kernel_rfl) (by kernel_rfl) (fun _ _ _ h => h) (Or.inl ⟨by rfl, ?_⟩) (by assumption) ?_
        rotate_left
        · intro w hSw; (try dsimp only at hSw); go_simp <;> (with_reducible rfl)
        (try simp only [Act.put, List.setIfInBounds_toArray, List.set_cons_zero, List.set_cons_succ])
        refine wpAnyH_take (i := 12) (oi := { dst := some 78, op := Op.move (Operand.tmp 9), type := 3, pos := "law.go:80", after := #[{ on := 10, ground := Ground.guard }], guard := some (10, true) }) (v := ?_) rfl (by kernel_rfl) (by kernel_rfl) (by kernel_rfl) (fun _ _ _ h => h) (Or.inl ⟨by rfl, ?_⟩) (by assumption) ?_
        rotate_left
        · intro w hSw; (try dsimp only at hSw); go_simp <;> (with_reducible rfl)
        (try simp only [Act.put, List.setIfInBounds_toArray, List.set_cons_zero, List.set_cons_succ])
        refine wpAnyH_take (i := 13) (oi := { dst := some 79, op := Op.indexAddr 39 (Operand.tmp 77) (Operand.tmp 78), type := 0, pos := "law.go:80", after := #[{ on := 11, ground := Ground.data }, { on := 12, ground := Ground.data }, { on := 10, ground := Ground.guard }], guard := some (10, true) }) (v := ?_) rfl (by kernel_rfl) (by kernel_rfl) (by kernel_rfl) (fun _ _ _ h => h) (Or.inl ⟨by rfl, ?_⟩) (by assumption) ?_
        rotate_left
        · intro w hSw; (try dsimp only at hSw); go_simp <;> (with_reducible rfl)
        (try simp only [Act.put, List.setIfInBounds_toArray, List.set_cons_zero, List.set_cons_succ])
        refine wpAnyH_take (i := 14) (oi := { dst := some 80, op := Op.load 3 (Operand.tmp 79), type := 3, pos := "law.go:80", after := #[{ on := 13, ground := Ground.data }, { on := 10, ground := Ground.guard }], guard := some (10, true) }) (v := ?_) rfl (by kernel_rfl) (by kernel_rfl) (by kernel_rfl) (fun _ _ _ h => h) (Or.inl ⟨by rfl, ?_⟩) (by assumption) ?_
        rotate_left
        · intro w hSw; (try dsimp only at hSw); go_simp <;> (with_reducible rfl)
        (try simp only [Act.put, List.setIfInBounds_toArray, List.set_cons_zero, List.set_cons_succ])
        refine wpAnyH_take (i := 15) (oi := { dst := some 81, op := Op.binOp BinOp.rem 3 (Operand.tmp 80) (Operand.const (Value.int IntKind.i64 32)) 3, type := 3, pos := "law.go:80", after := #[{ on := 14, ground := Ground.data }, { on := 10, ground := Ground.guard }], guard := some (10, true) }) (v := ?_) rfl (by kernel_rfl) (by kernel_rfl) (by kernel_rfl) (fun _ _ _ h => h) (Or.inl ⟨by rfl, ?_⟩) (by assumption) ?_
        rotate_left
        · intro w hSw; (try dsimp only at hSw); go_simp <;> (with_reducible rfl)
        (try simp only [Act.put, List.setIfInBounds_toArray, List.set_cons_zero, List.set_cons_succ])
        refine wpAnyH_take (i := 16) (oi := { dst := some 82, op := Op.binOp BinOp.eql 3 (Operand.tmp 81) (Operand.const (Value.int IntKind.i64 0)) 3, type := 4, pos := "law.go:80", after := #[{ on := 15, ground := Ground.data }, { on := 10, ground := Ground.guard }], guard := some (10, true) }) (v := ?_) rfl (by kernel_rfl) (by kernel_rfl) (by kernel_rfl) (fun _ _ _ h => h) (Or.inl ⟨by rfl, ?_⟩) (by assumption) ?_
        rotate_left
        · intro w hSw; (try dsimp only at hSw); go_simp <;> (with_reducible rfl)
        (try simp only [Act.put, List.setIfInBounds_toArray, List.set_cons_zero, List.set_cons_succ])
        refine wpAnyH_take (i := 17) (oi := { dst := some 83, op := Op.move (Operand.tmp 82), type := 4, pos := "law.go:80", after := #[{ on := 16, ground := Ground.data }, { on := 10, ground := Ground.chain }, { on := 10, ground := Ground.guard }], guard := some (10, true) }) (v := ?_) rfl (by kernel_rfl) (by kernel_rfl) (by kernel_rfl) (fun _ _ _ h => h) (Or.inl ⟨by rfl, ?_⟩) (by assumption) ?_
        rotate_left
        · intro w hSw; (try dsimp only at hSw); go_simp <;> (with_reducible rfl)
        (try simp only [Act.put, List.setIfInBounds_toArray, List.set_cons_zero, List.set_cons_succ])
        refine wpAnyH_take (i := 18) (oi := { dst := some 84, op := Op.move (Operand.tmp 6), type := 33, pos := "law.go:80", after := #[{ on := 17, ground := Ground.guard }], guard := some (17, false) }) (v := ?_) rfl (by kernel_rfl) (by kernel_rfl) (by kernel_rfl) (fun _ _ _ h => h) (Or.inl ⟨by rfl, ?_⟩) (by assumption) ?_
        rotate_left
        · intro w hSw; (try dsimp only at hSw); go_simp <;> (with_reducible rfl)
        (try simp only [Act.put, List.setIfInBounds_toArray, List.set_cons_zero, List.set_cons_succ])
        refine wpAnyH_take (i := 19) (oi := { dst := some 85, op := Op.move (Operand.tmp 9), type := 3, pos := "law.go:80", after := #[{ on := 17, ground := Ground.guard }], guard := some (17, false) }) (v := ?_) rfl (by kernel_rfl) (by kernel_rfl) (by kernel_rfl) (fun _ _ _ h => h) (Or.inl ⟨by rfl, ?_⟩) (by assumption) ?_
        rotate_left
        · intro w hSw; (try dsimp only at hSw); go_simp <;> (with_reducible rfl)
        (try simp only [Act.put, List.setIfInBounds_toArray, List.set_cons_zero, List.set_cons_succ])
        refine wpAnyH_take (i := 20) (oi := { dst := some 86, op := Op.binOp BinOp.sub 3 (Operand.tmp 85) (Operand.const (Value.int IntKind.i64 1)) 3, type := 3, pos := "law.go:80", after := #[{ on := 19, ground := Ground.data }, { on := 17, ground := Ground.guard }], guard := some (17, false) }) (v := ?_) rfl (by kernel_rfl) (by kernel_rfl) (by kernel_rfl) (fun _ _ _ h => h) (Or.inl ⟨by rfl, ?_⟩) (by assumption) ?_
        rotate_left
        · intro w hSw; (try dsimp only at hSw); go_simp <;> (with_reducible rfl)
        (try simp only [Act.put, List.setIfInBounds_toArray, List.set_cons_zero, List.set_cons_succ])
        refine wpAnyH_take (i := 21) (oi := { dst := some 87, op := Op.indexAddr 33 (Operand.tmp 84) (Operand.tmp 86), type := 0, pos := "law.go:80", after := #[{ on := 18, ground := Ground.data }, { on := 20, ground := Ground.data }, { on := 17, ground := Ground.guard }], guard := some (17, false) }) (v := ?_) rfl (by kernel_rfl) (by kernel_rfl) (by kernel_rfl) (fun _ _ _ h => h) (Or.inl ⟨by rfl, ?_⟩) (by assumption) ?_
        rotate_left
        · intro w hSw; (try dsimp only at hSw); go_simp <;> (with_reducible rfl)
        (try simp only [Act.put, List.setIfInBounds_toArray, List.set_cons_zero, List.set_cons_succ])
        refine wpAnyH_take (i := 22) (oi := { dst := some 88, op := Op.load 36 (Operand.tmp 87), type := 36, pos := "law.go:80", after := #[{ on := 21, ground := Ground.data }, { on := 17, ground := Ground.guard }], guard := some (17, false) }) (v := ?_) rfl (by kernel_rfl) (by kernel_rfl) (by kernel_rfl) (fun _ _ _ h => h) (Or.inl ⟨by rfl, ?_⟩) (by assumption) ?_
        rotate_left
        · intro w hSw; (try dsimp only at hSw); go_simp <;> (with_reducible rfl)
        (try simp only [Act.put, List.setIfInBounds_toArray, List.set_cons_zero, List.set_cons_succ])
        refine wpAnyH_take (i := 23) (oi := { dst := some 89, op := Op.move (Operand.tmp 6), type := 33, pos := "law.go:80", after := #[{ on := 17, ground := Ground.guard }], guard := some (17, false) }) (v := ?_) rfl (by kernel_rfl) (by kernel_rfl) (by kernel_rfl) (fun _ _ _ h => h) (Or.inl ⟨by rfl, ?_⟩) (by assumption) ?_
        rotate_left
        · intro w hSw; (try dsimp only at hSw); go_simp <;> (with_reducible rfl)
        (try simp only [Act.put, List.setIfInBounds_toArray, List.set_cons_zero, List.set_cons_succ])
        refine wpAnyH_take (i := 24) (oi := { dst := some 90, op := Op.move (Operand.tmp 9), type := 3, pos := "law.go:80", after := #[{ on := 17, ground := Ground.guard }], guard := some (17, false) }) (v := ?_) rfl (by kernel_rfl) (by kernel_rfl) (by kernel_rfl) (fun _ _ _ h => h) (Or.inl ⟨by rfl, ?_⟩) (by assumption) ?_
        rotate_left
        · intro w hSw; (try dsimp only at hSw); go_simp <;> (with_reducible rfl)
        (try simp only [Act.put, List.setIfInBounds_toArray, List.set_cons_zero, List.set_cons_succ])
        refine wpAnyH_take (i := 25) (oi := { dst := some 91, op := Op.indexAddr 33 (Operand.tmp 89) (Operand.tmp 90), type := 0, pos := "law.go:80", after := #[{ on := 23, ground := Ground.data }, { on := 24, ground := Ground.data }, { on := 17, ground := Ground.guard }], guard := some (17, false) }) (v := ?_) rfl (by kernel_rfl) (by kernel_rfl) (by kernel_rfl) (fun _ _ _ h => h) (Or.inl ⟨by rfl, ?_⟩) (by assumption) ?_
        rotate_left
        · intro w hSw; (try dsimp only at hSw); go_simp <;> (with_reducible rfl)
        (try simp only [Act.put, List.setIfInBounds_toArray, List.set_cons_zero, List.set_cons_succ])
        refine wpAnyH_take (i := 26) (oi := { dst := some 92, op := Op.load 36 (Operand.tmp 91), type := 36, pos := "law.go:80", after := #[{ on := 25, ground := Ground.data }, { on := 17, ground := Ground.guard }], guard := some (17, false) }) (v := ?_) rfl (by kernel_rfl) (by kernel_rfl) (by kernel_rfl) (fun _ _ _ h => h) (Or.inl ⟨by rfl, ?_⟩) (by assumption) ?_
        rotate_left
        · intro w hSw; (try dsimp only at hSw); go_simp <;> (with_reducible rfl)
        (try simp only [Act.put, List.setIfInBounds_toArray, List.set_cons_zero, List.set_cons_succ])
        refine wpAnyH_ready (rs := [27]) (by kernel_rfl) (by simp) ?_
        refine AllReadyH.cons (o := { dst := some 93, op := Op.call { callee := Callee.value (Operand.func 13), args := #[Operand.tmp 88, Operand.tmp 92], argTypes := #[36, 36] }, type := 4, pos := "law.go:80", after := #[{ on := 22, ground := Ground.data }, { on := 26, ground := Ground.data }, { on := 17, ground := Ground.chain }, { on := 17, ground := Ground.guard }], guard := some (17, false) }) rfl (fun K hK => ?_) ?_
        · go_simp
          (with_reducible refine (HSE.out _).mono ?_); rintro e w' ⟨rfl, hbr⟩
          go_wp2_with fail
          refine hK.out _ _ ?_ (fun hHeld => ?_)
          · (try dsimp only)
            first | exact KbR.s (KB.out _ (Below.refl _ _)) | exact KbR.s (KB.out _ (below_drew1 (Below.refl _ _))) | exact kb_keep KB.out hHeld hbr
          clear hK K
          (try simp only [Act.put, List.setIfInBounds_toArray, List.set_cons_zero, List.set_cons_succ])
          refine wpAnyH_take (i := 28) (oi := { dst := some 94, op := Op.unOp UnOp.not 4 (Operand.tmp 93), type := 4, pos := "law.go:80", after := #[{ on := 27, ground := Ground.data }, { on := 17, ground := Ground.guard }], guard := some (17, false) }) (v := ?_) rfl (by kernel_rfl) (by kernel_rfl) (by kernel_rfl) (fun _ _ _ h => h) (Or.inl ⟨by rfl, ?_⟩) (by assumption) ?_
          rotate_left
          · intro w hSw; (try dsimp only at hSw); go_simp <;> (with_reducible rfl)
          (try simp only [Act.put, List.setIfInBounds_toArray, List.set_cons_zero, List.set_cons_succ])
          refine wpAnyH_take (i := 29) (oi := { dst := some 95, op := Op.pick (Operand.tmp 83) (Operand.const (Value.bool true)) (Operand.tmp 94), type := 4, pos := "law.go:80", after := #[{ on := 17, ground := Ground.data }, { on := 28, ground := Ground.data }, { on := 10, ground := Ground.guard }], guard := some (10, true) }) (v := ?_) rfl (by kernel_rfl) (by kernel_rfl) (by kernel_rfl) (fun _ _ _ h => h) (Or.inl ⟨by rfl, ?_⟩) (by assumption) ?_
          rotate_left
          · intro w hSw; (try dsimp only at hSw); go_simp <;> (with_reducible rfl)
          (try simp only [Act.put, List.setIfInBounds_toArray, List.set_cons_zero, List.set_cons_succ])
          refine wpAnyH_take (i := 30) (oi := { dst := some 96, op := Op.pick (Operand.tmp 76) (Operand.tmp 95) (Operand.const (Value.bool false)), type := 4, pos := "law.go:80", after := #[{ on := 10, ground := Ground.data }, { on := 29, ground := Ground.data }, { on := 8, ground := Ground.guard }], guard := some (8, false) }) (v := ?_) rfl (by kernel_rfl) (by kernel_rfl) (by kernel_rfl) (fun _ _ _ h => h) (Or.inl ⟨by rfl, ?_⟩) (by assumption) ?_
          rotate_left
          · intro w hSw; (try dsimp only at hSw); go_simp <;> (with_reducible rfl)
          (try simp only [Act.put, List.setIfInBounds_toArray, List.set_cons_zero, List.set_cons_succ])
          refine wpAnyH_take (i := 31) (oi := { dst := some 97, op := Op.pick (Operand.tmp 74) (Operand.const (Value.bool true)) (Operand.tmp 96), type := 4, pos := "law.go:80", after := #[{ on := 8, ground := Ground.data }, { on := 30, ground := Ground.data }], guard := none }) (v := ?_) rfl (by kernel_rfl) (by kernel_rfl) (by kernel_rfl) (fun _ _ _ h => h) (Or.inl ⟨by rfl, ?_⟩) (by assumption) ?_
          rotate_left
          · intro w hSw; (try dsimp only at hSw); go_simp <;> (with_reducible rfl)
          (try simp only [Act.put, List.setIfInBounds_toArray, List.set_cons_zero, List.set_cons_succ])
          refine wpAnyH_take (i := 32) (oi := { dst := some 98, op := Op.move (Operand.tmp 97), type := 4, pos := "law.go:80", after := #[{ on := 31, ground := Ground.data }, { on := 27, ground := Ground.chain }], guard := none }) (v := ?_) rfl (by kernel_rfl) (by kernel_rfl) (by kernel_rfl) (fun _ _ _ h => h) (Or.inl ⟨by rfl, ?_⟩) (by assumption) ?_
          rotate_left
          · intro w hSw; (try dsimp only at hSw); go_simp <;> (with_reducible rfl)
          (try simp only [Act.put, List.setIfInBounds_toArray, List.set_cons_zero, List.set_cons_succ])
          refine wpAnyH_take (i := 33) (oi := { dst := some 99, op := Op.move (Operand.tmp 6), type := 33, pos := "law.go:80", after := #[{ on := 32, ground := Ground.guard }], guard := some (32, false) }) (v := ?_) rfl (by kernel_rfl) (by kernel_rfl) (by kernel_rfl) (fun _ _ _ h => h) (Or.inl ⟨by rfl, ?_⟩) (by assumption) ?_
          rotate_left
          · intro w hSw; (try dsimp only at hSw); go_simp <;> (with_reducible rfl)
          (try simp only [Act.put, List.setIfInBounds_toArray, List.set_cons_zero, List.set_cons_succ])
          refine wpAnyH_take (i := 34) (oi := { dst := some 100, op := Op.move (Operand.tmp 9), type := 3, pos := "law.go:80", after := #[{ on := 32, ground := Ground.guard }], guard := some (32, false) }) (v := ?_) rfl (by kernel_rfl) (by kernel_rfl) (by kernel_rfl) (fun _ _ _ h => h) (Or.inl ⟨by rfl, ?_⟩) (by assumption) ?_
          rotate_left
          · intro w hSw; (try dsimp only at hSw); go_simp <;> (with_reducible rfl)
          (try simp only [Act.put, List.setIfInBounds_toArray, List.set_cons_zero, List.set_cons_succ])
          refine wpAnyH_take (i := 35) (oi := { dst := some 101, op := Op.indexAddr 33 (Operand.tmp 99) (Operand.tmp 100), type := 0, pos := "law.go:80", after := #[{ on := 33, ground := Ground.data }, { on := 34, ground := Ground.data }, { on := 32, ground := Ground.guard }], guard := some (32, false) }) (v := ?_) rfl (by kernel_rfl) (by kernel_rfl) (by kernel_rfl) (fun _ _ _ h => h) (Or.inl ⟨by rfl, ?_⟩) (by assumption) ?_
          rotate_left
          · intro w hSw; (try dsimp only at hSw); go_simp <;> (with_reducible rfl)
          (try simp only [Act.put, List.setIfInBounds_toArray, List.set_cons_zero, List.set_cons_succ])
          refine wpAnyH_take (i := 36) (oi := { dst := some 102, op := Op.fieldAddr 36 (Operand.tmp 101) 0, type := 0, pos := "law.go:80", after := #[{ on := 35, ground := Ground.data }, { on := 32, ground := Ground.guard }], guard := some (32, false) }) (v := ?_) rfl (by kernel_rfl) (by kernel_rfl) (by kernel_rfl) (fun _ _ _ h => h) (Or.inl ⟨by rfl, ?_⟩) (by assumption) ?_
          rotate_left
          · intro w hSw; (try dsimp only at hSw); go_simp <;> (with_reducible rfl)
          (try simp only [Act.put, List.setIfInBounds_toArray, List.set_cons_zero, List.set_cons_succ])
          refine wpAnyH_take (i := 37) (oi := { dst := some 103, op := Op.load 3 (Operand.tmp 102), type := 3, pos := "law.go:80", after := #[{ on := 36, ground := Ground.data }, { on := 32, ground := Ground.guard }], guard := some (32, false) }) (v := ?_) rfl (by kernel_rfl) (by kernel_rfl) (by kernel_rfl) (fun _ _ _ h => h) (Or.inl ⟨by rfl, ?_⟩) (by assumption) ?_
          rotate_left
          · intro w hSw; (try dsimp only at hSw); go_simp <;> (with_reducible rfl)
          (try simp only [Act.put, List.setIfInBounds_toArray, List.set_cons_zero, List.set_cons_succ])
          refine wpAnyH_take (i := 38) (oi := { dst := some 104, op := Op.binOp BinOp.eql 3 (Operand.tmp 103) (Operand.const (Value.int IntKind.i64 22)) 3, type := 4, pos := "law.go:80", after := #[{ on := 37, ground := Ground.data }, { on := 32, ground := Ground.guard }], guard := some (32, false) }) (v := ?_) rfl (by kernel_rfl) (by kernel_rfl) (by kernel_rfl) (fun _ _ _ h => h) (Or.inl ⟨by rfl, ?_⟩) (by assumption) ?_
          rotate_left
          · intro w hSw; (try dsimp only at hSw); go_simp <;> (with_reducible rfl)
          (try simp only [Act.put, List.setIfInBounds_toArray, List.set_cons_zero, List.set_cons_succ])
          refine wpAnyH_take (i := 39) (oi := { dst := some 105, op := Op.move (Operand.tmp 104), type := 4, pos := "law.go:80", after := #[{ on := 38, ground := Ground.data }, { on := 32, ground := Ground.chain }, { on := 32, ground := Ground.guard }], guard := some (32, false) }) (v := ?_) rfl (by kernel_rfl) (by kernel_rfl) (by kernel_rfl) (fun _ _ _ h => h) (Or.inl ⟨by rfl, ?_⟩) (by assumption) ?_
          rotate_left
          · intro w hSw; (try dsimp only at hSw); go_simp <;> (with_reducible rfl)
          (try simp only [Act.put, List.setIfInBounds_toArray, List.set_cons_zero, List.set_cons_succ])
          refine wpAnyH_take (i := 40) (oi := { dst := some 106, op := Op.move (Operand.tmp 6), type := 33, pos := "law.go:80", after := #[{ on := 39, ground := Ground.guard }], guard := some (39, true) }) (v := undef) rfl (by kernel_rfl) (by kernel_rfl) (by kernel_rfl) (fun _ _ _ h => h) (Or.inr ⟨by rfl, rfl⟩) (by assumption) ?_
          (try simp only [Act.put, List.setIfInBounds_toArray, List.set_cons_zero, List.set_cons_succ])
          refine wpAnyH_take (i := 41) (oi := { dst := some 107, op := Op.move (Operand.tmp 9), type := 3, pos := "law.go:80", after := #[{ on := 39, ground := Ground.guard }], guard := some (39, true) }) (v := undef) rfl (by kernel_rfl) (by kernel_rfl) (by kernel_rfl) (fun _ _ _ h => h) (Or.inr ⟨by rfl, rfl⟩) (by assumption) ?_
          (try simp only [Act.put, List.setIfInBounds_toArray, List.set_cons_zero, List.set_cons_succ])
          refine wpAnyH_take (i := 42) (oi := { dst := some 108, op := Op.indexAddr 33 (Operand.tmp 106) (Operand.tmp 107), type := 0, pos := "law.go:80", after := #[{ on := 40, ground := Ground.data }, { on := 41, ground := Ground.data }, { on := 39, ground := Ground.guard }], guard := some (39, true) }) (v := undef) rfl (by kernel_rfl) (by kernel_rfl) (by kernel_rfl) (fun _ _ _ h => h) (Or.inr ⟨by rfl, rfl⟩) (by assumption) ?_
          (try simp only [Act.put, List.setIfInBounds_toArray, List.set_cons_zero, List.set_cons_succ])
          refine wpAnyH_take (i := 43) (oi := { dst := some 109, op := Op.fieldAddr 36 (Operand.tmp 108) 3, type := 0, pos := "law.go:80", after := #[{ on := 42, ground := Ground.data }, { on := 39, ground := Ground.guard }], guard := some (39, true) }) (v := undef) rfl (by kernel_rfl) (by kernel_rfl) (by kernel_rfl) (fun _ _ _ h => h) (Or.inr ⟨by rfl, rfl⟩) (by assumption) ?_
          (try simp only [Act.put, List.setIfInBounds_toArray, List.set_cons_zero, List.set_cons_succ])
          refine wpAnyH_take (i := 44) (oi := { dst := some 110, op := Op.load 34 (Operand.tmp 109), type := 34, pos := "law.go:80", after := #[{ on := 43, ground := Ground.data }, { on := 39, ground := Ground.guard }], guard := some (39, true) }) (v := undef) rfl (by kernel_rfl) (by kernel_rfl) (by kernel_rfl) (fun _ _ _ h => h) (Or.inr ⟨by rfl, rfl⟩) (by assumption) ?_
          (try simp only [Act.put, List.setIfInBounds_toArray, List.set_cons_zero, List.set_cons_succ])
          refine wpAnyH_take (i := 45) (oi := { dst := some 111, op := Op.binOp BinOp.gtr 34 (Operand.tmp 110) (Operand.const (Value.int IntKind.u32 4)) 34, type := 4, pos := "law.go:80", after := #[{ on := 44, ground := Ground.data }, { on := 39, ground := Ground.guard }], guard := some (39, true) }) (v := undef) rfl (by kernel_rfl) (by kernel_rfl) (by kernel_rfl) (fun _ _ _ h => h) (Or.inr ⟨by rfl, rfl⟩) (by assumption) ?_
          (try simp only [Act.put, List.setIfInBounds_toArray, List.set_cons_zero, List.set_cons_succ])
          refine wpAnyH_take (i := 46) (oi := { dst := some 112, op := Op.pick (Operand.tmp 105) (Operand.tmp 111) (Operand.const (Value.bool false)), type := 4, pos := "law.go:80", after := #[{ on := 39, ground := Ground.data }, { on := 45, ground := Ground.data }, { on := 32, ground := Ground.guard }], guard := some (32, false) }) (v := ?_) rfl (by kernel_rfl) (by kernel_rfl) (by kernel_rfl) (fun _ _ _ h => h) (Or.inl ⟨by rfl, ?_⟩) (by assumption) ?_
          rotate_left
          · intro w hSw; (try dsimp only at hSw); go_simp <;> (with_reducible rfl)
          (try simp only [Act.put, List.setIfInBounds_toArray, List.set_cons_zero, List.set_cons_succ])
          refine wpAnyH_take (i := 47) (oi := { dst := some 113, op := Op.pick (Operand.tmp 98) (Operand.const (Value.bool true)) (Operand.tmp 112), type := 4, pos := "law.go:80", after := #[{ on := 32, ground := Ground.data }, { on := 46, ground := Ground.data }], guard := none }) (v := ?_) rfl (by kernel_rfl) (by kernel_rfl) (by kernel_rfl) (fun _ _ _ h => h) (Or.inl ⟨by rfl, ?_⟩) (by assumption) ?_
          rotate_left
          · intro w hSw; (try dsimp only at hSw); go_simp <;> (with_reducible rfl)
          (try simp only [Act.put, List.setIfInBounds_toArray, List.set_cons_zero, List.set_cons_succ])
          refine wpAnyH_done (by kernel_rfl) ?_ _
          refine NoPanic.normal ?_
          obtain ⟨_, K2⟩ := hHeld
          have BN := Lib.hid (bel_then HB.out K2.2.2.2.2)
          clear K2 KB
          go_wp2
          go_roundw
          case rel => exact ⟨k + 1, cc + 1, by go_num, by omega, by go_num, by omega, by rw [HN1.out, List.length_append, ← HC.out]; exact Lib.hid rfl, BN⟩
          case measure => simp [intOf]; omega
        exact AllReadyH.nil
    · obtain rfl : k = z := by omega
      have hl := (M3.out.below HB.out).len Try.underlying24 3
      have hcc' : cc = (secP L).length := by rw [HC.out, ← HZ.out, sec_all]
      rw [← hcc'] at hl
      have BF := Lib.hid (bel_then B3.out HB.out)
      clear hcc' HC
      go_wp2
      go_ret
      exact ⟨ret_bool (by simp), BF.out⟩
theorem ruleKept_walk (A : Option Addr) (cap : Nat) (code : List Int) (w : World) (r : RowAt w A cap code) :
    Calls Try.prog 5 #[.slice A code.length cap] w fun e w' => e = .returned (.bool true) ∧ Below w.heap.size w w' := by
  rcases Nat.lt_or_ge 4200 code.length with h | h
  · exact kept_long A cap _ h (by have := r.1; have := r.2.1; omega) w
  · by_cases hE : ruleE code = 0
    · rcases rule_cases code with ⟨h0, h1, h2⟩ | ⟨h0, h1, h2, h3⟩ | ⟨h0, h1, h2, h3⟩
      · rw [hE] at h1; exact absurd h1.symm h0
      · rw [hE] at h2; cases h2
      · exact kept_ok A cap _ code rfl h hE h0 h1 h3 w r
    · exact kept_bad A cap _ code rfl h hE w r
end Go.Proofs.Ytojpcijfipdiaaa.Mm
