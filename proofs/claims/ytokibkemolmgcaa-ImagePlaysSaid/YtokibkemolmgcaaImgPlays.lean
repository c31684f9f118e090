/- The statement ImagePlays, walked (written by wip/imggen/gen_plays.py). -/
import Derived.Test.YtokibkemolmgcaaImgKeeps
import Derived.Test.YtokibkemolmgcaaImgRef2
namespace Go.Proofs.Ytokibkemolmgcaa.Mm
open Go.ChangeShapes Go.WideShapes Go.ChangeAt Go.RowKit
set_option linter.unusedVariables false

theorem plays_long (A B M : Option Addr) (ca cb cm a b m : Nat) (w : World) (ha : a ≤ maxLen) (hb : b ≤ maxLen) (hm : m ≤ maxLen)
    (hlong : 9000 < a ∨ (a ≤ 9000 ∧ 9000 < b) ∨ (a ≤ 9000 ∧ b ≤ 9000 ∧ 9000 < m)) :
    Calls Try.prog 4 #[.slice A a ca, .slice B b cb, .slice M m cm] w fun e w' => e = .returned (.bool true) ∧ Below w.heap.size w w' := by
  unfold maxLen at ha hb hm
  rcases hlong with h | ⟨h, h'⟩ | ⟨h, h', h''⟩
  all_goals
    go_enter Try.func4, Try.ntmps4
    go_wp2_with fail
    refine (awake_any _).mono ?_; rintro e w1 ⟨rfl, hb1⟩
    go_wp2_with fail
    refine (awake_any _).mono ?_; rintro e w2 ⟨rfl, hb2⟩
    go_wp2_with fail
    go_ret
    exact ⟨rfl, bel_then hb1 hb2⟩

/-- the box's cells and the laid bytes, in each world behind W -/
theorem play_s {W w' : World} {g : Nat} {va vb v : Value} {s : ByteArray} (h : HasB W g 26 [va, vb]) (hc : ∀ w' : World, Below W.heap.size W w' → (convert 22 9 v).run Try.prog w' = .ok (.string s) w') (b : Below W.heap.size W w') :
    ((w'.cell? ⟨g, 0, none⟩ = some va ∧ w'.cell? ⟨g, 1, none⟩ = some vb) ∧ (convert 22 9 v).run Try.prog w' = .ok (.string s) w') ∧ RS W w' :=
  ⟨⟨⟨(h.below b).cell 0, (h.below b).cell 1⟩, hc w' b⟩, b⟩

set_option maxRecDepth 100000 in
theorem plays_yy (A B M : Option Addr) (ca cb cm c d m : Nat) (C D L : List Int) (hc : C.length = c) (hd : D.length = d) (hm : L.length = m) (w : World) (rA : RowAt w A ca C) (rB : RowAt w B cb D) (rM : RowAt w M cm L) (h1 : c ≤ 9000) (h2 : d ≤ 9000) (h3 : m ≤ 9000) (hq : rightB c d = true) (he : errL L = 0) :
    Calls Try.prog 4 #[.slice A c ca, .slice B d cb, .slice M m cm] w fun e w' => e = .returned (.bool true) ∧ Below w.heap.size w w' := by
  have L2 := Lib.hid (fun w' => Right_any A B c d ca cb (by unfold maxLen; omega) (by unfold maxLen; omega) w')
  rw [hq] at L2
  have L3 := Lib.hid (rRight_any (c : Int) (d : Int))
  rw [hq] at L3
  have L1 := Lib.hid (fun w' (b' : Below w.heap.size w w') => lay_yes A B ca cb C D c d hc hd h1 h2 w' (rA.below b') (rB.below b') hq)
  have L4 := Lib.hid (fun w' (b' : Below w.heap.size w w') => rLay_any A B ca cb C D c d hc hd h1 h2 w' (rA.below b') (rB.below b'))
  have HL := Lib.hid (show (layL C D).length = 12 + c + d by rw [layL_len, hc, hd])
  generalize layL C D = X at *
  have L5 := Lib.hid (fun w' (b' : Below w.heap.size w w') => Read_yes M cm L m hm (by omega) w' (rM.below b') he)
  have L6 := Lib.hid (fun w' (b' : Below w.heap.size w w') => rRead_yes M cm L m hm (by omega) w' (rM.below b') he)
  clear rA rB rM hc hd hm hq he
  go_enter Try.func4, Try.ntmps4
  go_wp2_with fail
  refine (awake_any _).mono ?_; rintro e w1 ⟨rfl, hb1⟩
  have HB1 := Lib.hid (bel_al hb1 (.cells #[.slice A c ca, .slice B d cb] 26))
  have NB := Lib.hid (HasB.new w1 26 [.slice A c ca, .slice B d cb])
  clear hb1
  go_wp2_with fail
  refine (L1.out _ HB1.out).mono ?_; rintro e w2 ⟨A5, c5, rfl, o5, hb2⟩
  have R5 := Lib.hid o5.row
  clear o5
  have CV : Hid (∀ w' : World, Below w2.heap.size w2 w' → (convert 22 9 (.slice A5 (12 + c + d) c5)).run Try.prog w' = .ok (.string (strOfNums X)) w') := Lib.hid (fun w' b => conv_row (R5.out.below b) _ HL.out)
  have HB2 := Lib.hid (bel_then HB1.out hb2)
  have NB2 := Lib.hid (NB.out.below hb2)
  clear hb2
  go_wp2_with fail
  refine (L3.out _).mono ?_; rintro e w' ⟨rfl, rfl⟩
  go_wp2_with fail
  go_cut [67] (fun s67 wx => s67 = .bool false ∧ Below w2.heap.size w2 wx)
  case first =>
    go_region_held3 (fun w' => ((w'.cell? ⟨w1.heap.size, 0, none⟩ = some (.slice A c ca) ∧ w'.cell? ⟨w1.heap.size, 1, none⟩ = some (.slice B d cb)) ∧ (convert 22 9 (.slice A5 (12 + c + d) c5)).run Try.prog w' = .ok (.string (strOfNums X)) w') ∧ RS w2 w')
      ((refine play_s NB2.out CV.out ?_; (repeat' first | (with_reducible assumption) | (with_reducible exact Below.refl _ _) | (with_reducible refine bel_dr ?_) | (with_reducible refine bel_al ?_ _) | (with_reducible refine bel_then ?_ (by with_reducible assumption)))))
      (first
        | (go_at_call 10; (with_reducible refine (L2.out _).mono ?_); rintro e w' ⟨rfl, hbr⟩)
        | (go_at_call 13; (refine (L4.out _ (HB2.out.trans (Below.mono (‹_ ∧ RS _ _›).2 HB2.out.size))).mono ?_); rintro e w' ⟨rfl, hbl⟩))
    all_goals
      have HBR : Hid (Below w2.heap.size w2 w') := Lib.hid (‹_ ∧ RS w2 w'›).2
      clear hbr hbl
      go_wp2_with fail
      go_meet
      exact ⟨by simp, HBR.out⟩
  case rest =>
    obtain ⟨rfl, hbx⟩ := hcut
    have HBX := Lib.hid (bel_then HB2.out hbx)
    clear hbx
    go_wp2_with fail
    refine (L5.out _ HBX.out).mono ?_; rintro e w3 ⟨A6, c6, A7, c7, rfl, o6, o7, hb3⟩
    have NY := Lib.hid (HasB.new w3 26 [.slice A6 (codeL L).length c6, .slice A7 (dataL L).length c7])
    have O6 := Lib.hid (o6.al (.cells #[.slice A6 (codeL L).length c6, .slice A7 (dataL L).length c7] 26)).row
    have O7 := Lib.hid (o7.al (.cells #[.slice A6 (codeL L).length c6, .slice A7 (dataL L).length c7] 26)).row
    have HB3 := Lib.hid (bel_al (bel_then HBX.out hb3) (.cells #[.slice A6 (codeL L).length c6, .slice A7 (dataL L).length c7] 26))
    clear o6 o7 hb3
    go_wp2_with fail
    refine (L6.out _ HB3.out).mono ?_; rintro e w4 ⟨A8, c8, A9, c9, rfl, r8, r9, hb4⟩
    have y1 := conv_row (O6.out.below hb4) _ rfl
    have y2 := conv_row (O7.out.below hb4) _ rfl
    have y3 := conv_row r8 _ rfl
    have y4 := conv_row r9 _ rfl
    have k0 := (NY.out.below hb4).cell 0
    have k1 := (NY.out.below hb4).cell 1
    simp only [List.getElem?_cons_succ, List.getElem?_cons_zero] at k0 k1
    have HB4 := Lib.hid (bel_then HB3.out hb4)
    clear hb4
    go_wp2_with fail
    go_ret
    exact ⟨rfl, HB4.out⟩

set_option maxRecDepth 100000 in
theorem plays_yn (A B M : Option Addr) (ca cb cm c d m : Nat) (C D L : List Int) (hc : C.length = c) (hd : D.length = d) (hm : L.length = m) (w : World) (rA : RowAt w A ca C) (rB : RowAt w B cb D) (rM : RowAt w M cm L) (h1 : c ≤ 9000) (h2 : d ≤ 9000) (h3 : m ≤ 9000) (hq : rightB c d = true) (he : errL L ≠ 0) :
    Calls Try.prog 4 #[.slice A c ca, .slice B d cb, .slice M m cm] w fun e w' => e = .returned (.bool true) ∧ Below w.heap.size w w' := by
  have L2 := Lib.hid (fun w' => Right_any A B c d ca cb (by unfold maxLen; omega) (by unfold maxLen; omega) w')
  rw [hq] at L2
  have L3 := Lib.hid (rRight_any (c : Int) (d : Int))
  rw [hq] at L3
  have L1 := Lib.hid (fun w' (b' : Below w.heap.size w w') => lay_yes A B ca cb C D c d hc hd h1 h2 w' (rA.below b') (rB.below b') hq)
  have L4 := Lib.hid (fun w' (b' : Below w.heap.size w w') => rLay_any A B ca cb C D c d hc hd h1 h2 w' (rA.below b') (rB.below b'))
  have HL := Lib.hid (show (layL C D).length = 12 + c + d by rw [layL_len, hc, hd])
  generalize layL C D = X at *
  have L5 := Lib.hid (fun w' (b' : Below w.heap.size w w') => Read_no M cm L m hm (by omega) w' (rM.below b') he)
  have L6 := Lib.hid (fun w' (b' : Below w.heap.size w w') => rRead_no M cm L m hm (by omega) w' (rM.below b') he)
  generalize errL L = k at *
  clear rA rB rM hc hd hm hq he
  go_enter Try.func4, Try.ntmps4
  go_wp2_with fail
  refine (awake_any _).mono ?_; rintro e w1 ⟨rfl, hb1⟩
  have HB1 := Lib.hid (bel_al hb1 (.cells #[.slice A c ca, .slice B d cb] 26))
  have NB := Lib.hid (HasB.new w1 26 [.slice A c ca, .slice B d cb])
  clear hb1
  go_wp2_with fail
  refine (L1.out _ HB1.out).mono ?_; rintro e w2 ⟨A5, c5, rfl, o5, hb2⟩
  have R5 := Lib.hid o5.row
  clear o5
  have CV : Hid (∀ w' : World, Below w2.heap.size w2 w' → (convert 22 9 (.slice A5 (12 + c + d) c5)).run Try.prog w' = .ok (.string (strOfNums X)) w') := Lib.hid (fun w' b => conv_row (R5.out.below b) _ HL.out)
  have HB2 := Lib.hid (bel_then HB1.out hb2)
  have NB2 := Lib.hid (NB.out.below hb2)
  clear hb2
  go_wp2_with fail
  refine (L3.out _).mono ?_; rintro e w' ⟨rfl, rfl⟩
  go_wp2_with fail
  go_cut [67] (fun s67 wx => s67 = .bool false ∧ Below w2.heap.size w2 wx)
  case first =>
    go_region_held3 (fun w' => ((w'.cell? ⟨w1.heap.size, 0, none⟩ = some (.slice A c ca) ∧ w'.cell? ⟨w1.heap.size, 1, none⟩ = some (.slice B d cb)) ∧ (convert 22 9 (.slice A5 (12 + c + d) c5)).run Try.prog w' = .ok (.string (strOfNums X)) w') ∧ RS w2 w')
      ((refine play_s NB2.out CV.out ?_; (repeat' first | (with_reducible assumption) | (with_reducible exact Below.refl _ _) | (with_reducible refine bel_dr ?_) | (with_reducible refine bel_al ?_ _) | (with_reducible refine bel_then ?_ (by with_reducible assumption)))))
      (first
        | (go_at_call 10; (with_reducible refine (L2.out _).mono ?_); rintro e w' ⟨rfl, hbr⟩)
        | (go_at_call 13; (refine (L4.out _ (HB2.out.trans (Below.mono (‹_ ∧ RS _ _›).2 HB2.out.size))).mono ?_); rintro e w' ⟨rfl, hbl⟩))
    all_goals
      have HBR : Hid (Below w2.heap.size w2 w') := Lib.hid (‹_ ∧ RS w2 w'›).2
      clear hbr hbl
      go_wp2_with fail
      go_meet
      exact ⟨by simp, HBR.out⟩
  case rest =>
    obtain ⟨rfl, hbx⟩ := hcut
    have HBX := Lib.hid (bel_then HB2.out hbx)
    clear hbx
    go_wp2_with fail
    refine (L5.out _ HBX.out).mono ?_; rintro e w3 ⟨rfl, hb3⟩
    have NY := Lib.hid (HasB.new w3 26 [.slice none 0 0, .slice none 0 0])
    have HB3 := Lib.hid (bel_al (bel_then HBX.out hb3) (.cells #[.slice none 0 0, .slice none 0 0] 26))
    clear hb3
    go_wp2_with fail
    refine (L6.out _ HB3.out).mono ?_; rintro e w4 ⟨rfl, hb4⟩
    have y1 := conv_row (row_nil w4 none 0 (by decide)) 0 rfl
    have k0 := (NY.out.below hb4).cell 0
    have k1 := (NY.out.below hb4).cell 1
    simp only [List.getElem?_cons_succ, List.getElem?_cons_zero] at k0 k1
    have HB4 := Lib.hid (bel_then HB3.out hb4)
    clear hb4
    go_wp2_with fail
    go_ret
    exact ⟨rfl, HB4.out⟩

set_option maxRecDepth 100000 in
theorem plays_ny (A B M : Option Addr) (ca cb cm c d m : Nat) (C D L : List Int) (hc : C.length = c) (hd : D.length = d) (hm : L.length = m) (w : World) (rA : RowAt w A ca C) (rB : RowAt w B cb D) (rM : RowAt w M cm L) (h1 : c ≤ 9000) (h2 : d ≤ 9000) (h3 : m ≤ 9000) (hq : rightB c d = false) (he : errL L = 0) :
    Calls Try.prog 4 #[.slice A c ca, .slice B d cb, .slice M m cm] w fun e w' => e = .returned (.bool true) ∧ Below w.heap.size w w' := by
  have L2 := Lib.hid (fun w' => Right_any A B c d ca cb (by unfold maxLen; omega) (by unfold maxLen; omega) w')
  rw [hq] at L2
  have L3 := Lib.hid (rRight_any (c : Int) (d : Int))
  rw [hq] at L3
  have L1 := Lib.hid (fun w' => lay_no A B c d ca cb h1 h2 w' hq)
  have L5 := Lib.hid (fun w' (b' : Below w.heap.size w w') => Read_yes M cm L m hm (by omega) w' (rM.below b') he)
  have L6 := Lib.hid (fun w' (b' : Below w.heap.size w w') => rRead_yes M cm L m hm (by omega) w' (rM.below b') he)
  clear rA rB rM hc hd hm hq he
  go_enter Try.func4, Try.ntmps4
  go_wp2_with fail
  refine (awake_any _).mono ?_; rintro e w1 ⟨rfl, hb1⟩
  have HB1 := Lib.hid (bel_al hb1 (.cells #[.slice A c ca, .slice B d cb] 26))
  have NB := Lib.hid (HasB.new w1 26 [.slice A c ca, .slice B d cb])
  clear hb1
  go_wp2_with fail
  refine (L1.out _).mono ?_; rintro e w2 ⟨rfl, hb2⟩
  have HB2 := Lib.hid (bel_then HB1.out hb2)
  have NB2 := Lib.hid (NB.out.below hb2)
  clear hb2
  go_wp2_with fail
  refine (L3.out _).mono ?_; rintro e w' ⟨rfl, rfl⟩
  go_wp2_with fail
  go_cut [67] (fun s67 wx => s67 = .bool false ∧ Below w2.heap.size w2 wx)
  case first =>
    refine wp_region_noPanic ?_
    refine wp_region_held_drew (S := (fun w' => (w'.cell? ⟨w1.heap.size, 0, none⟩ = some (.slice A c ca) ∧ w'.cell? ⟨w1.heap.size, 1, none⟩ = some (.slice B d cb)) ∧ RS w2 w')) (by kernel_rfl) ?_ (fun hHeld => ?_)
    · (try dsimp only)
      refine box_s NB2.out ?_
      (repeat' first | (with_reducible assumption) | (with_reducible exact Below.refl _ _) | (with_reducible refine bel_dr ?_) | (with_reducible refine bel_al ?_ _) | (with_reducible refine bel_then ?_ (by with_reducible assumption)))
    refine wpAnyH_take (i := 0) (oi := { dst := some 47, op := Op.load 26 (Operand.tmp 7), type := 26, pos := "law.go:42", after := #[], guard := none }) (v := ?_) rfl (by kernel_rfl) (by kernel_rfl) (by kernel_rfl) (fun _ _ _ h => h) (Or.inl ⟨by rfl, ?_⟩) (by assumption) ?_
    rotate_left
    · intro w hSw; (try dsimp only at hSw); go_simp <;> (with_reducible rfl)
    (try simp only [Act.put, List.setIfInBounds_toArray, List.set_cons_zero, List.set_cons_succ])
    refine wpAnyH_take (i := 2) (oi := { dst := some 49, op := Op.move (Operand.tmp 10), type := 4, pos := "law.go:42", after := #[], guard := none }) (v := ?_) rfl (by kernel_rfl) (by kernel_rfl) (by kernel_rfl) (fun _ _ _ h => h) (Or.inl ⟨by rfl, ?_⟩) (by assumption) ?_
    rotate_left
    · intro w hSw; (try dsimp only at hSw); go_simp <;> (with_reducible rfl)
    (try simp only [Act.put, List.setIfInBounds_toArray, List.set_cons_zero, List.set_cons_succ])
    refine wpAnyH_ready (rs := [1]) (by kernel_rfl) (by simp) ?_
    refine AllReadyH.cons (o := { dst := some 48, op := Op.call { callee := Callee.value (Operand.func 10), args := #[Operand.tmp 47], argTypes := #[26] }, type := 4, pos := "law.go:42", after := #[{ on := 0, ground := Ground.data }], guard := none }) rfl (fun K hK => ?_) ?_
    · go_simp
      (with_reducible refine (L2.out _).mono ?_); rintro e w' ⟨rfl, hbr⟩
      go_wp2_with fail
      refine hK.out _ _ ?_ (fun hHeld => ?_)
      · (try dsimp only)
        refine box_s NB2.out ?_
        (repeat' first | (with_reducible assumption) | (with_reducible exact Below.refl _ _) | (with_reducible refine bel_dr ?_) | (with_reducible refine bel_al ?_ _) | (with_reducible refine bel_then ?_ (by with_reducible assumption)))
      clear hK K
      (try simp only [Act.put, List.setIfInBounds_toArray, List.set_cons_zero, List.set_cons_succ])
      refine wpAnyH_take (i := 3) (oi := { dst := some 50, op := Op.binOp BinOp.neq 4 (Operand.tmp 48) (Operand.tmp 49) 4, type := 4, pos := "law.go:42", after := #[{ on := 1, ground := Ground.data }, { on := 2, ground := Ground.data }], guard := none }) (v := ?_) rfl (by kernel_rfl) (by kernel_rfl) (by kernel_rfl) (fun _ _ _ h => h) (Or.inl ⟨by rfl, ?_⟩) (by assumption) ?_
      rotate_left
      · intro w hSw; (try dsimp only at hSw); go_simp <;> (with_reducible rfl)
      (try simp only [Act.put, List.setIfInBounds_toArray, List.set_cons_zero, List.set_cons_succ])
      refine wpAnyH_take (i := 4) (oi := { dst := some 51, op := Op.move (Operand.tmp 50), type := 4, pos := "law.go:42", after := #[{ on := 3, ground := Ground.data }, { on := 1, ground := Ground.chain }], guard := none }) (v := ?_) rfl (by kernel_rfl) (by kernel_rfl) (by kernel_rfl) (fun _ _ _ h => h) (Or.inl ⟨by rfl, ?_⟩) (by assumption) ?_
      rotate_left
      · intro w hSw; (try dsimp only at hSw); go_simp <;> (with_reducible rfl)
      (try simp only [Act.put, List.setIfInBounds_toArray, List.set_cons_zero, List.set_cons_succ])
      refine wpAnyH_take (i := 5) (oi := { dst := some 52, op := Op.move (Operand.tmp 10), type := 4, pos := "law.go:42", after := #[{ on := 4, ground := Ground.guard }], guard := some (4, false) }) (v := ?_) rfl (by kernel_rfl) (by kernel_rfl) (by kernel_rfl) (fun _ _ _ h => h) (Or.inl ⟨by rfl, ?_⟩) (by assumption) ?_
      rotate_left
      · intro w hSw; (try dsimp only at hSw); go_simp <;> (with_reducible rfl)
      (try simp only [Act.put, List.setIfInBounds_toArray, List.set_cons_zero, List.set_cons_succ])
      refine wpAnyH_take (i := 6) (oi := { dst := some 53, op := Op.move (Operand.tmp 9), type := 27, pos := "law.go:42", after := #[{ on := 4, ground := Ground.guard }], guard := some (4, false) }) (v := ?_) rfl (by kernel_rfl) (by kernel_rfl) (by kernel_rfl) (fun _ _ _ h => h) (Or.inl ⟨by rfl, ?_⟩) (by assumption) ?_
      rotate_left
      · intro w hSw; (try dsimp only at hSw); go_simp <;> (with_reducible rfl)
      (try simp only [Act.put, List.setIfInBounds_toArray, List.set_cons_zero, List.set_cons_succ])
      refine wpAnyH_take (i := 7) (oi := { dst := some 54, op := Op.binOp BinOp.eql 27 (Operand.tmp 53) (Operand.const (Value.int IntKind.i64 0)) 27, type := 4, pos := "law.go:42", after := #[{ on := 6, ground := Ground.data }, { on := 4, ground := Ground.guard }], guard := some (4, false) }) (v := ?_) rfl (by kernel_rfl) (by kernel_rfl) (by kernel_rfl) (fun _ _ _ h => h) (Or.inl ⟨by rfl, ?_⟩) (by assumption) ?_
      rotate_left
      · intro w hSw; (try dsimp only at hSw); go_simp <;> (with_reducible rfl)
      (try simp only [Act.put, List.setIfInBounds_toArray, List.set_cons_zero, List.set_cons_succ])
      refine wpAnyH_take (i := 8) (oi := { dst := some 55, op := Op.binOp BinOp.neq 4 (Operand.tmp 52) (Operand.tmp 54) 4, type := 4, pos := "law.go:42", after := #[{ on := 5, ground := Ground.data }, { on := 7, ground := Ground.data }, { on := 4, ground := Ground.guard }], guard := some (4, false) }) (v := ?_) rfl (by kernel_rfl) (by kernel_rfl) (by kernel_rfl) (fun _ _ _ h => h) (Or.inl ⟨by rfl, ?_⟩) (by assumption) ?_
      rotate_left
      · intro w hSw; (try dsimp only at hSw); go_simp <;> (with_reducible rfl)
      (try simp only [Act.put, List.setIfInBounds_toArray, List.set_cons_zero, List.set_cons_succ])
      refine wpAnyH_take (i := 9) (oi := { dst := some 56, op := Op.pick (Operand.tmp 51) (Operand.const (Value.bool true)) (Operand.tmp 55), type := 4, pos := "law.go:42", after := #[{ on := 4, ground := Ground.data }, { on := 8, ground := Ground.data }], guard := none }) (v := ?_) rfl (by kernel_rfl) (by kernel_rfl) (by kernel_rfl) (fun _ _ _ h => h) (Or.inl ⟨by rfl, ?_⟩) (by assumption) ?_
      rotate_left
      · intro w hSw; (try dsimp only at hSw); go_simp <;> (with_reducible rfl)
      (try simp only [Act.put, List.setIfInBounds_toArray, List.set_cons_zero, List.set_cons_succ])
      refine wpAnyH_take (i := 10) (oi := { dst := some 57, op := Op.move (Operand.tmp 56), type := 4, pos := "law.go:42", after := #[{ on := 9, ground := Ground.data }, { on := 4, ground := Ground.chain }], guard := none }) (v := ?_) rfl (by kernel_rfl) (by kernel_rfl) (by kernel_rfl) (fun _ _ _ h => h) (Or.inl ⟨by rfl, ?_⟩) (by assumption) ?_
      rotate_left
      · intro w hSw; (try dsimp only at hSw); go_simp <;> (with_reducible rfl)
      (try simp only [Act.put, List.setIfInBounds_toArray, List.set_cons_zero, List.set_cons_succ])
      refine wpAnyH_take (i := 11) (oi := { dst := some 58, op := Op.move (Operand.tmp 10), type := 4, pos := "law.go:42", after := #[{ on := 10, ground := Ground.guard }], guard := some (10, false) }) (v := ?_) rfl (by kernel_rfl) (by kernel_rfl) (by kernel_rfl) (fun _ _ _ h => h) (Or.inl ⟨by rfl, ?_⟩) (by assumption) ?_
      rotate_left
      · intro w hSw; (try dsimp only at hSw); go_simp <;> (with_reducible rfl)
      (try simp only [Act.put, List.setIfInBounds_toArray, List.set_cons_zero, List.set_cons_succ])
      refine wpAnyH_take (i := 12) (oi := { dst := some 59, op := Op.move (Operand.tmp 58), type := 4, pos := "law.go:42", after := #[{ on := 11, ground := Ground.data }, { on := 10, ground := Ground.chain }, { on := 10, ground := Ground.guard }], guard := some (10, false) }) (v := ?_) rfl (by kernel_rfl) (by kernel_rfl) (by kernel_rfl) (fun _ _ _ h => h) (Or.inl ⟨by rfl, ?_⟩) (by assumption) ?_
      rotate_left
      · intro w hSw; (try dsimp only at hSw); go_simp <;> (with_reducible rfl)
      (try simp only [Act.put, List.setIfInBounds_toArray, List.set_cons_zero, List.set_cons_succ])
      refine wpAnyH_take (i := 13) (oi := { dst := some 60, op := Op.move (Operand.tmp 8), type := 22, pos := "law.go:42", after := #[{ on := 12, ground := Ground.guard }], guard := some (12, true) }) (v := undef) rfl (by kernel_rfl) (by kernel_rfl) (by kernel_rfl) (fun _ _ _ h => h) (Or.inr ⟨by rfl, rfl⟩) (by assumption) ?_
      (try simp only [Act.put, List.setIfInBounds_toArray, List.set_cons_zero, List.set_cons_succ])
      refine wpAnyH_take (i := 14) (oi := { dst := some 61, op := Op.convert 22 9 (Operand.tmp 60), type := 9, pos := "law.go:42", after := #[{ on := 13, ground := Ground.data }, { on := 12, ground := Ground.guard }], guard := some (12, true) }) (v := undef) rfl (by kernel_rfl) (by kernel_rfl) (by kernel_rfl) (fun _ _ _ h => h) (Or.inr ⟨by rfl, rfl⟩) (by assumption) ?_
      (try simp only [Act.put, List.setIfInBounds_toArray, List.set_cons_zero, List.set_cons_succ])
      refine wpAnyH_take (i := 15) (oi := { dst := some 62, op := Op.move (Operand.tmp 0), type := 22, pos := "law.go:42", after := #[{ on := 12, ground := Ground.guard }], guard := some (12, true) }) (v := undef) rfl (by kernel_rfl) (by kernel_rfl) (by kernel_rfl) (fun _ _ _ h => h) (Or.inr ⟨by rfl, rfl⟩) (by assumption) ?_
      (try simp only [Act.put, List.setIfInBounds_toArray, List.set_cons_zero, List.set_cons_succ])
      refine wpAnyH_take (i := 16) (oi := { dst := some 63, op := Op.move (Operand.tmp 1), type := 22, pos := "law.go:42", after := #[{ on := 12, ground := Ground.guard }], guard := some (12, true) }) (v := undef) rfl (by kernel_rfl) (by kernel_rfl) (by kernel_rfl) (fun _ _ _ h => h) (Or.inr ⟨by rfl, rfl⟩) (by assumption) ?_
      (try simp only [Act.put, List.setIfInBounds_toArray, List.set_cons_zero, List.set_cons_succ])
      refine wpAnyH_take (i := 17) (oi := { dst := some 64, op := Op.call { callee := Callee.value (Operand.func 13), args := #[Operand.tmp 62, Operand.tmp 63], argTypes := #[22, 22] }, type := 9, pos := "law.go:42", after := #[{ on := 15, ground := Ground.data }, { on := 16, ground := Ground.data }, { on := 12, ground := Ground.chain }, { on := 12, ground := Ground.guard }], guard := some (12, true) }) (v := undef) rfl (by kernel_rfl) (by kernel_rfl) (by kernel_rfl) (fun _ _ _ h => h) (Or.inr ⟨by rfl, rfl⟩) (by assumption) ?_
      (try simp only [Act.put, List.setIfInBounds_toArray, List.set_cons_zero, List.set_cons_succ])
      refine wpAnyH_take (i := 18) (oi := { dst := some 65, op := Op.binOp BinOp.neq 9 (Operand.tmp 61) (Operand.tmp 64) 9, type := 4, pos := "law.go:42", after := #[{ on := 14, ground := Ground.data }, { on := 17, ground := Ground.data }, { on := 12, ground := Ground.guard }], guard := some (12, true) }) (v := undef) rfl (by kernel_rfl) (by kernel_rfl) (by kernel_rfl) (fun _ _ _ h => h) (Or.inr ⟨by rfl, rfl⟩) (by assumption) ?_
      (try simp only [Act.put, List.setIfInBounds_toArray, List.set_cons_zero, List.set_cons_succ])
      refine wpAnyH_take (i := 19) (oi := { dst := some 66, op := Op.pick (Operand.tmp 59) (Operand.tmp 65) (Operand.const (Value.bool false)), type := 4, pos := "law.go:42", after := #[{ on := 12, ground := Ground.data }, { on := 18, ground := Ground.data }, { on := 10, ground := Ground.guard }], guard := some (10, false) }) (v := ?_) rfl (by kernel_rfl) (by kernel_rfl) (by kernel_rfl) (fun _ _ _ h => h) (Or.inl ⟨by rfl, ?_⟩) (by assumption) ?_
      rotate_left
      · intro w hSw; (try dsimp only at hSw); go_simp <;> (with_reducible rfl)
      (try simp only [Act.put, List.setIfInBounds_toArray, List.set_cons_zero, List.set_cons_succ])
      refine wpAnyH_take (i := 20) (oi := { dst := some 67, op := Op.pick (Operand.tmp 57) (Operand.const (Value.bool true)) (Operand.tmp 66), type := 4, pos := "law.go:42", after := #[{ on := 10, ground := Ground.data }, { on := 19, ground := Ground.data }], guard := none }) (v := ?_) rfl (by kernel_rfl) (by kernel_rfl) (by kernel_rfl) (fun _ _ _ h => h) (Or.inl ⟨by rfl, ?_⟩) (by assumption) ?_
      rotate_left
      · intro w hSw; (try dsimp only at hSw); go_simp <;> (with_reducible rfl)
      (try simp only [Act.put, List.setIfInBounds_toArray, List.set_cons_zero, List.set_cons_succ])
      refine wpAnyH_done (by kernel_rfl) ?_ _
      refine NoPanic.normal ?_
      have HBR := Lib.hid (bel_then (Below.refl _ _).drew hbr)
      clear hbr
      go_wp2_with fail
      go_meet
      exact ⟨rfl, HBR.out⟩
    exact AllReadyH.nil
  case rest =>
    obtain ⟨rfl, hbx⟩ := hcut
    have HBX := Lib.hid (bel_then HB2.out hbx)
    clear hbx
    go_wp2_with fail
    refine (L5.out _ HBX.out).mono ?_; rintro e w3 ⟨A6, c6, A7, c7, rfl, o6, o7, hb3⟩
    have NY := Lib.hid (HasB.new w3 26 [.slice A6 (codeL L).length c6, .slice A7 (dataL L).length c7])
    have O6 := Lib.hid (o6.al (.cells #[.slice A6 (codeL L).length c6, .slice A7 (dataL L).length c7] 26)).row
    have O7 := Lib.hid (o7.al (.cells #[.slice A6 (codeL L).length c6, .slice A7 (dataL L).length c7] 26)).row
    have HB3 := Lib.hid (bel_al (bel_then HBX.out hb3) (.cells #[.slice A6 (codeL L).length c6, .slice A7 (dataL L).length c7] 26))
    clear o6 o7 hb3
    go_wp2_with fail
    refine (L6.out _ HB3.out).mono ?_; rintro e w4 ⟨A8, c8, A9, c9, rfl, r8, r9, hb4⟩
    have y1 := conv_row (O6.out.below hb4) _ rfl
    have y2 := conv_row (O7.out.below hb4) _ rfl
    have y3 := conv_row r8 _ rfl
    have y4 := conv_row r9 _ rfl
    have k0 := (NY.out.below hb4).cell 0
    have k1 := (NY.out.below hb4).cell 1
    simp only [List.getElem?_cons_succ, List.getElem?_cons_zero] at k0 k1
    have HB4 := Lib.hid (bel_then HB3.out hb4)
    clear hb4
    go_wp2_with fail
    go_ret
    exact ⟨rfl, HB4.out⟩

set_option maxRecDepth 100000 in
theorem plays_nn (A B M : Option Addr) (ca cb cm c d m : Nat) (C D L : List Int) (hc : C.length = c) (hd : D.length = d) (hm : L.length = m) (w : World) (rA : RowAt w A ca C) (rB : RowAt w B cb D) (rM : RowAt w M cm L) (h1 : c ≤ 9000) (h2 : d ≤ 9000) (h3 : m ≤ 9000) (hq : rightB c d = false) (he : errL L ≠ 0) :
    Calls Try.prog 4 #[.slice A c ca, .slice B d cb, .slice M m cm] w fun e w' => e = .returned (.bool true) ∧ Below w.heap.size w w' := by
  have L2 := Lib.hid (fun w' => Right_any A B c d ca cb (by unfold maxLen; omega) (by unfold maxLen; omega) w')
  rw [hq] at L2
  have L3 := Lib.hid (rRight_any (c : Int) (d : Int))
  rw [hq] at L3
  have L1 := Lib.hid (fun w' => lay_no A B c d ca cb h1 h2 w' hq)
  have L5 := Lib.hid (fun w' (b' : Below w.heap.size w w') => Read_no M cm L m hm (by omega) w' (rM.below b') he)
  have L6 := Lib.hid (fun w' (b' : Below w.heap.size w w') => rRead_no M cm L m hm (by omega) w' (rM.below b') he)
  generalize errL L = k at *
  clear rA rB rM hc hd hm hq he
  go_enter Try.func4, Try.ntmps4
  go_wp2_with fail
  refine (awake_any _).mono ?_; rintro e w1 ⟨rfl, hb1⟩
  have HB1 := Lib.hid (bel_al hb1 (.cells #[.slice A c ca, .slice B d cb] 26))
  have NB := Lib.hid (HasB.new w1 26 [.slice A c ca, .slice B d cb])
  clear hb1
  go_wp2_with fail
  refine (L1.out _).mono ?_; rintro e w2 ⟨rfl, hb2⟩
  have HB2 := Lib.hid (bel_then HB1.out hb2)
  have NB2 := Lib.hid (NB.out.below hb2)
  clear hb2
  go_wp2_with fail
  refine (L3.out _).mono ?_; rintro e w' ⟨rfl, rfl⟩
  go_wp2_with fail
  go_cut [67] (fun s67 wx => s67 = .bool false ∧ Below w2.heap.size w2 wx)
  case first =>
    refine wp_region_noPanic ?_
    refine wp_region_held_drew (S := (fun w' => (w'.cell? ⟨w1.heap.size, 0, none⟩ = some (.slice A c ca) ∧ w'.cell? ⟨w1.heap.size, 1, none⟩ = some (.slice B d cb)) ∧ RS w2 w')) (by kernel_rfl) ?_ (fun hHeld => ?_)
    · (try dsimp only)
      refine box_s NB2.out ?_
      (repeat' first | (with_reducible assumption) | (with_reducible exact Below.refl _ _) | (with_reducible refine bel_dr ?_) | (with_reducible refine bel_al ?_ _) | (with_reducible refine bel_then ?_ (by with_reducible assumption)))
    refine wpAnyH_take (i := 0) (oi := { dst := some 47, op := Op.load 26 (Operand.tmp 7), type := 26, pos := "law.go:42", after := #[], guard := none }) (v := ?_) rfl (by kernel_rfl) (by kernel_rfl) (by kernel_rfl) (fun _ _ _ h => h) (Or.inl ⟨by rfl, ?_⟩) (by assumption) ?_
    rotate_left
    · intro w hSw; (try dsimp only at hSw); go_simp <;> (with_reducible rfl)
    (try simp only [Act.put, List.setIfInBounds_toArray, List.set_cons_zero, List.set_cons_succ])
    refine wpAnyH_take (i := 2) (oi := { dst := some 49, op := Op.move (Operand.tmp 10), type := 4, pos := "law.go:42", after := #[], guard := none }) (v := ?_) rfl (by kernel_rfl) (by kernel_rfl) (by kernel_rfl) (fun _ _ _ h => h) (Or.inl ⟨by rfl, ?_⟩) (by assumption) ?_
    rotate_left
    · intro w hSw; (try dsimp only at hSw); go_simp <;> (with_reducible rfl)
    (try simp only [Act.put, List.setIfInBounds_toArray, List.set_cons_zero, List.set_cons_succ])
    refine wpAnyH_ready (rs := [1]) (by kernel_rfl) (by simp) ?_
    refine AllReadyH.cons (o := { dst := some 48, op := Op.call { callee := Callee.value (Operand.func 10), args := #[Operand.tmp 47], argTypes := #[26] }, type := 4, pos := "law.go:42", after := #[{ on := 0, ground := Ground.data }], guard := none }) rfl (fun K hK => ?_) ?_
    · go_simp
      (with_reducible refine (L2.out _).mono ?_); rintro e w' ⟨rfl, hbr⟩
      go_wp2_with fail
      refine hK.out _ _ ?_ (fun hHeld => ?_)
      · (try dsimp only)
        refine box_s NB2.out ?_
        (repeat' first | (with_reducible assumption) | (with_reducible exact Below.refl _ _) | (with_reducible refine bel_dr ?_) | (with_reducible refine bel_al ?_ _) | (with_reducible refine bel_then ?_ (by with_reducible assumption)))
      clear hK K
      (try simp only [Act.put, List.setIfInBounds_toArray, List.set_cons_zero, List.set_cons_succ])
      refine wpAnyH_take (i := 3) (oi := { dst := some 50, op := Op.binOp BinOp.neq 4 (Operand.tmp 48) (Operand.tmp 49) 4, type := 4, pos := "law.go:42", after := #[{ on := 1, ground := Ground.data }, { on := 2, ground := Ground.data }], guard := none }) (v := ?_) rfl (by kernel_rfl) (by kernel_rfl) (by kernel_rfl) (fun _ _ _ h => h) (Or.inl ⟨by rfl, ?_⟩) (by assumption) ?_
      rotate_left
      · intro w hSw; (try dsimp only at hSw); go_simp <;> (with_reducible rfl)
      (try simp only [Act.put, List.setIfInBounds_toArray, List.set_cons_zero, List.set_cons_succ])
      refine wpAnyH_take (i := 4) (oi := { dst := some 51, op := Op.move (Operand.tmp 50), type := 4, pos := "law.go:42", after := #[{ on := 3, ground := Ground.data }, { on := 1, ground := Ground.chain }], guard := none }) (v := ?_) rfl (by kernel_rfl) (by kernel_rfl) (by kernel_rfl) (fun _ _ _ h => h) (Or.inl ⟨by rfl, ?_⟩) (by assumption) ?_
      rotate_left
      · intro w hSw; (try dsimp only at hSw); go_simp <;> (with_reducible rfl)
      (try simp only [Act.put, List.setIfInBounds_toArray, List.set_cons_zero, List.set_cons_succ])
      refine wpAnyH_take (i := 5) (oi := { dst := some 52, op := Op.move (Operand.tmp 10), type := 4, pos := "law.go:42", after := #[{ on := 4, ground := Ground.guard }], guard := some (4, false) }) (v := ?_) rfl (by kernel_rfl) (by kernel_rfl) (by kernel_rfl) (fun _ _ _ h => h) (Or.inl ⟨by rfl, ?_⟩) (by assumption) ?_
      rotate_left
      · intro w hSw; (try dsimp only at hSw); go_simp <;> (with_reducible rfl)
      (try simp only [Act.put, List.setIfInBounds_toArray, List.set_cons_zero, List.set_cons_succ])
      refine wpAnyH_take (i := 6) (oi := { dst := some 53, op := Op.move (Operand.tmp 9), type := 27, pos := "law.go:42", after := #[{ on := 4, ground := Ground.guard }], guard := some (4, false) }) (v := ?_) rfl (by kernel_rfl) (by kernel_rfl) (by kernel_rfl) (fun _ _ _ h => h) (Or.inl ⟨by rfl, ?_⟩) (by assumption) ?_
      rotate_left
      · intro w hSw; (try dsimp only at hSw); go_simp <;> (with_reducible rfl)
      (try simp only [Act.put, List.setIfInBounds_toArray, List.set_cons_zero, List.set_cons_succ])
      refine wpAnyH_take (i := 7) (oi := { dst := some 54, op := Op.binOp BinOp.eql 27 (Operand.tmp 53) (Operand.const (Value.int IntKind.i64 0)) 27, type := 4, pos := "law.go:42", after := #[{ on := 6, ground := Ground.data }, { on := 4, ground := Ground.guard }], guard := some (4, false) }) (v := ?_) rfl (by kernel_rfl) (by kernel_rfl) (by kernel_rfl) (fun _ _ _ h => h) (Or.inl ⟨by rfl, ?_⟩) (by assumption) ?_
      rotate_left
      · intro w hSw; (try dsimp only at hSw); go_simp <;> (with_reducible rfl)
      (try simp only [Act.put, List.setIfInBounds_toArray, List.set_cons_zero, List.set_cons_succ])
      refine wpAnyH_take (i := 8) (oi := { dst := some 55, op := Op.binOp BinOp.neq 4 (Operand.tmp 52) (Operand.tmp 54) 4, type := 4, pos := "law.go:42", after := #[{ on := 5, ground := Ground.data }, { on := 7, ground := Ground.data }, { on := 4, ground := Ground.guard }], guard := some (4, false) }) (v := ?_) rfl (by kernel_rfl) (by kernel_rfl) (by kernel_rfl) (fun _ _ _ h => h) (Or.inl ⟨by rfl, ?_⟩) (by assumption) ?_
      rotate_left
      · intro w hSw; (try dsimp only at hSw); go_simp <;> (with_reducible rfl)
      (try simp only [Act.put, List.setIfInBounds_toArray, List.set_cons_zero, List.set_cons_succ])
      refine wpAnyH_take (i := 9) (oi := { dst := some 56, op := Op.pick (Operand.tmp 51) (Operand.const (Value.bool true)) (Operand.tmp 55), type := 4, pos := "law.go:42", after := #[{ on := 4, ground := Ground.data }, { on := 8, ground := Ground.data }], guard := none }) (v := ?_) rfl (by kernel_rfl) (by kernel_rfl) (by kernel_rfl) (fun _ _ _ h => h) (Or.inl ⟨by rfl, ?_⟩) (by assumption) ?_
      rotate_left
      · intro w hSw; (try dsimp only at hSw); go_simp <;> (with_reducible rfl)
      (try simp only [Act.put, List.setIfInBounds_toArray, List.set_cons_zero, List.set_cons_succ])
      refine wpAnyH_take (i := 10) (oi := { dst := some 57, op := Op.move (Operand.tmp 56), type := 4, pos := "law.go:42", after := #[{ on := 9, ground := Ground.data }, { on := 4, ground := Ground.chain }], guard := none }) (v := ?_) rfl (by kernel_rfl) (by kernel_rfl) (by kernel_rfl) (fun _ _ _ h => h) (Or.inl ⟨by rfl, ?_⟩) (by assumption) ?_
      rotate_left
      · intro w hSw; (try dsimp only at hSw); go_simp <;> (with_reducible rfl)
      (try simp only [Act.put, List.setIfInBounds_toArray, List.set_cons_zero, List.set_cons_succ])
      refine wpAnyH_take (i := 11) (oi := { dst := some 58, op := Op.move (Operand.tmp 10), type := 4, pos := "law.go:42", after := #[{ on := 10, ground := Ground.guard }], guard := some (10, false) }) (v := ?_) rfl (by kernel_rfl) (by kernel_rfl) (by kernel_rfl) (fun _ _ _ h => h) (Or.inl ⟨by rfl, ?_⟩) (by assumption) ?_
      rotate_left
      · intro w hSw; (try dsimp only at hSw); go_simp <;> (with_reducible rfl)
      (try simp only [Act.put, List.setIfInBounds_toArray, List.set_cons_zero, List.set_cons_succ])
      refine wpAnyH_take (i := 12) (oi := { dst := some 59, op := Op.move (Operand.tmp 58), type := 4, pos := "law.go:42", after := #[{ on := 11, ground := Ground.data }, { on := 10, ground := Ground.chain }, { on := 10, ground := Ground.guard }], guard := some (10, false) }) (v := ?_) rfl (by kernel_rfl) (by kernel_rfl) (by kernel_rfl) (fun _ _ _ h => h) (Or.inl ⟨by rfl, ?_⟩) (by assumption) ?_
      rotate_left
      · intro w hSw; (try dsimp only at hSw); go_simp <;> (with_reducible rfl)
      (try simp only [Act.put, List.setIfInBounds_toArray, List.set_cons_zero, List.set_cons_succ])
      refine wpAnyH_take (i := 13) (oi := { dst := some 60, op := Op.move (Operand.tmp 8), type := 22, pos := "law.go:42", after := #[{ on := 12, ground := Ground.guard }], guard := some (12, true) }) (v := undef) rfl (by kernel_rfl) (by kernel_rfl) (by kernel_rfl) (fun _ _ _ h => h) (Or.inr ⟨by rfl, rfl⟩) (by assumption) ?_
      (try simp only [Act.put, List.setIfInBounds_toArray, List.set_cons_zero, List.set_cons_succ])
      refine wpAnyH_take (i := 14) (oi := { dst := some 61, op := Op.convert 22 9 (Operand.tmp 60), type := 9, pos := "law.go:42", after := #[{ on := 13, ground := Ground.data }, { on := 12, ground := Ground.guard }], guard := some (12, true) }) (v := undef) rfl (by kernel_rfl) (by kernel_rfl) (by kernel_rfl) (fun _ _ _ h => h) (Or.inr ⟨by rfl, rfl⟩) (by assumption) ?_
      (try simp only [Act.put, List.setIfInBounds_toArray, List.set_cons_zero, List.set_cons_succ])
      refine wpAnyH_take (i := 15) (oi := { dst := some 62, op := Op.move (Operand.tmp 0), type := 22, pos := "law.go:42", after := #[{ on := 12, ground := Ground.guard }], guard := some (12, true) }) (v := undef) rfl (by kernel_rfl) (by kernel_rfl) (by kernel_rfl) (fun _ _ _ h => h) (Or.inr ⟨by rfl, rfl⟩) (by assumption) ?_
      (try simp only [Act.put, List.setIfInBounds_toArray, List.set_cons_zero, List.set_cons_succ])
      refine wpAnyH_take (i := 16) (oi := { dst := some 63, op := Op.move (Operand.tmp 1), type := 22, pos := "law.go:42", after := #[{ on := 12, ground := Ground.guard }], guard := some (12, true) }) (v := undef) rfl (by kernel_rfl) (by kernel_rfl) (by kernel_rfl) (fun _ _ _ h => h) (Or.inr ⟨by rfl, rfl⟩) (by assumption) ?_
      (try simp only [Act.put, List.setIfInBounds_toArray, List.set_cons_zero, List.set_cons_succ])
      refine wpAnyH_take (i := 17) (oi := { dst := some 64, op := Op.call { callee := Callee.value (Operand.func 13), args := #[Operand.tmp 62, Operand.tmp 63], argTypes := #[22, 22] }, type := 9, pos := "law.go:42", after := #[{ on := 15, ground := Ground.data }, { on := 16, ground := Ground.data }, { on := 12, ground := Ground.chain }, { on := 12, ground := Ground.guard }], guard := some (12, true) }) (v := undef) rfl (by kernel_rfl) (by kernel_rfl) (by kernel_rfl) (fun _ _ _ h => h) (Or.inr ⟨by rfl, rfl⟩) (by assumption) ?_
      (try simp only [Act.put, List.setIfInBounds_toArray, List.set_cons_zero, List.set_cons_succ])
      refine wpAnyH_take (i := 18) (oi := { dst := some 65, op := Op.binOp BinOp.neq 9 (Operand.tmp 61) (Operand.tmp 64) 9, type := 4, pos := "law.go:42", after := #[{ on := 14, ground := Ground.data }, { on := 17, ground := Ground.data }, { on := 12, ground := Ground.guard }], guard := some (12, true) }) (v := undef) rfl (by kernel_rfl) (by kernel_rfl) (by kernel_rfl) (fun _ _ _ h => h) (Or.inr ⟨by rfl, rfl⟩) (by assumption) ?_
      (try simp only [Act.put, List.setIfInBounds_toArray, List.set_cons_zero, List.set_cons_succ])
      refine wpAnyH_take (i := 19) (oi := { dst := some 66, op := Op.pick (Operand.tmp 59) (Operand.tmp 65) (Operand.const (Value.bool false)), type := 4, pos := "law.go:42", after := #[{ on := 12, ground := Ground.data }, { on := 18, ground := Ground.data }, { on := 10, ground := Ground.guard }], guard := some (10, false) }) (v := ?_) rfl (by kernel_rfl) (by kernel_rfl) (by kernel_rfl) (fun _ _ _ h => h) (Or.inl ⟨by rfl, ?_⟩) (by assumption) ?_
      rotate_left
      · intro w hSw; (try dsimp only at hSw); go_simp <;> (with_reducible rfl)
      (try simp only [Act.put, List.setIfInBounds_toArray, List.set_cons_zero, List.set_cons_succ])
      refine wpAnyH_take (i := 20) (oi := { dst := some 67, op := Op.pick (Operand.tmp 57) (Operand.const (Value.bool true)) (Operand.tmp 66), type := 4, pos := "law.go:42", after := #[{ on := 10, ground := Ground.data }, { on := 19, ground := Ground.data }], guard := none }) (v := ?_) rfl (by kernel_rfl) (by kernel_rfl) (by kernel_rfl) (fun _ _ _ h => h) (Or.inl ⟨by rfl, ?_⟩) (by assumption) ?_
      rotate_left
      · intro w hSw; (try dsimp only at hSw); go_simp <;> (with_reducible rfl)
      (try simp only [Act.put, List.setIfInBounds_toArray, List.set_cons_zero, List.set_cons_succ])
      refine wpAnyH_done (by kernel_rfl) ?_ _
      refine NoPanic.normal ?_
      have HBR := Lib.hid (bel_then (Below.refl _ _).drew hbr)
      clear hbr
      go_wp2_with fail
      go_meet
      exact ⟨rfl, HBR.out⟩
    exact AllReadyH.nil
  case rest =>
    obtain ⟨rfl, hbx⟩ := hcut
    have HBX := Lib.hid (bel_then HB2.out hbx)
    clear hbx
    go_wp2_with fail
    refine (L5.out _ HBX.out).mono ?_; rintro e w3 ⟨rfl, hb3⟩
    have NY := Lib.hid (HasB.new w3 26 [.slice none 0 0, .slice none 0 0])
    have HB3 := Lib.hid (bel_al (bel_then HBX.out hb3) (.cells #[.slice none 0 0, .slice none 0 0] 26))
    clear hb3
    go_wp2_with fail
    refine (L6.out _ HB3.out).mono ?_; rintro e w4 ⟨rfl, hb4⟩
    have y1 := conv_row (row_nil w4 none 0 (by decide)) 0 rfl
    have k0 := (NY.out.below hb4).cell 0
    have k1 := (NY.out.below hb4).cell 1
    simp only [List.getElem?_cons_succ, List.getElem?_cons_zero] at k0 k1
    have HB4 := Lib.hid (bel_then HB3.out hb4)
    clear hb4
    go_wp2_with fail
    go_ret
    exact ⟨rfl, HB4.out⟩

theorem imagePlays_walk (A : Option Addr) (ca : Nat) (C : List Int) (B : Option Addr) (cb : Nat) (D : List Int) (M : Option Addr) (cm : Nat) (L : List Int) (w : World) (rA : RowAt w A ca C) (rB : RowAt w B cb D) (rM : RowAt w M cm L) :
    Calls Try.prog 4 #[.slice A C.length ca, .slice B D.length cb, .slice M L.length cm] w fun e w' => e = .returned (.bool true) ∧ Below w.heap.size w w' := by
  by_cases hl : 9000 < C.length ∨ (C.length ≤ 9000 ∧ 9000 < D.length) ∨ (C.length ≤ 9000 ∧ D.length ≤ 9000 ∧ 9000 < L.length)
  · exact plays_long A B M ca cb cm _ _ _ w (Nat.le_trans rA.1 rA.2.1) (Nat.le_trans rB.1 rB.2.1) (Nat.le_trans rM.1 rM.2.1) hl
  · cases hq : rightB C.length D.length
    · by_cases he : errL L = 0
      · exact plays_ny A B M ca cb cm _ _ _ C D L rfl rfl rfl w rA rB rM (by omega) (by omega) (by omega) hq he
      · exact plays_nn A B M ca cb cm _ _ _ C D L rfl rfl rfl w rA rB rM (by omega) (by omega) (by omega) hq he
    · by_cases he : errL L = 0
      · exact plays_yy A B M ca cb cm _ _ _ C D L rfl rfl rfl w rA rB rM (by omega) (by omega) (by omega) hq he
      · exact plays_yn A B M ca cb cm _ _ _ C D L rfl rfl rfl w rA rB rM (by omega) (by omega) (by omega) hq he
end Go.Proofs.Ytokibkemolmgcaa.Mm
