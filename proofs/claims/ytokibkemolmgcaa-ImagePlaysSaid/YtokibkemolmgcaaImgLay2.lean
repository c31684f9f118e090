/- Laying an image: the function. -/
import Derived.Test.YtokibkemolmgcaaImgLay
namespace Go.Proofs.Ytokibkemolmgcaa.Mm
open Go.ChangeShapes Go.WideShapes Go.ChangeAt Go.RowKit
set_option linter.unusedVariables false

def KeepR (w W : World) : Prop := ∀ A c l, RowAt w A c l → RowAt W A c l
theorem KeepR.row {w W : World} (h : KeepR w W) {A : Option Addr} {c : Nat} {l : List Int} (r : RowAt w A c l) : RowAt W A c l := h A c l r
def LenP (w : World) (n : Nat) (e : Ending) (w' : World) : Prop := ∃ g, e = .returned (.slice (some ⟨g, 0, none⟩) 2 2) ∧ RowAt w' (some ⟨g, 0, none⟩) 2 (lenL n) ∧ Below w.heap.size w w'
theorem length_p (n : Nat) (hn : n ≤ 65535) (w : World) : Calls Try.prog 16 #[.int .i64 n] w (LenP w n) := by
  refine (length_any n hn w).mono ?_
  rintro e w' ⟨rfl, rfl⟩
  exact ⟨_, rfl, row_newF _ _ _ _ _ _ _ rfl rfl (Nat.le_refl 2) (by decide) (lenL_byte n hn), bel_al (Below.refl _ _) _⟩
theorem mark_p {W0 w : World} {g : Nat} (h : HasB w g 5 [.int .u8 86, .int .u8 51, .int .u8 50, .int .u8 49]) (hb : Below W0.heap.size W0 w) (hg : W0.heap.size ≤ g) :
    ∃ W, (convert 22 22 (.slice (some ⟨g, 0, none⟩) 4 4)).run Try.prog w = .ok (.slice (some ⟨g, 0, none⟩) 4 4) W ∧ KeepR w W ∧ Below W0.heap.size W0 W := mark_run h hb hg
theorem row_head (w : World) (g : Nat) (t : TypeId) (fz : Nat × Nat) (hg : g = w.heap.size) : RowAt (w.alloc (.cells #[.int .u8 86, .int .u8 51, .int .u8 50, .int .u8 49] t fz)) (some ⟨g, 0, none⟩) 4 headL :=
  row_newF w g headL t fz _ 4 hg rfl (Nat.le_refl 4) (by decide) headL_byte
/-- the box's cells, in each world behind W -/
theorem box_s {W w' : World} {g : Nat} {va vb : Value} (h : HasB W g 26 [va, vb]) (b : Below W.heap.size W w') : (w'.cell? ⟨g, 0, none⟩ = some va ∧ w'.cell? ⟨g, 1, none⟩ = some vb) ∧ RS W w' :=
  ⟨⟨(h.below b).cell 0, (h.below b).cell 1⟩, b⟩
def LayY (w : World) (n : Nat) (L : List Int) (e : Ending) (w' : World) : Prop := ∃ A cap, e = .returned (.tuple #[.slice A n cap, .int .i64 0]) ∧ Own w.heap.size w' A cap L ∧ Below w.heap.size w w'
def BodyC (w : World) (n : Nat) (L : List Int) (s : Value) (w' : World) : Prop := ∃ A cap, s = .slice A n cap ∧ Own w.heap.size w' A cap L ∧ Below w.heap.size w w'

set_option maxHeartbeats 1000000 in
theorem lay_yes (A B : Option Addr) (ca cb : Nat) (C D : List Int) (c d : Nat) (hc : C.length = c) (hd : D.length = d) (h1 : c ≤ 9000) (h2 : d ≤ 9000) (w : World) (rA : RowAt w A ca C) (rB : RowAt w B cb D) (hq : rightB c d = true) :
    Calls Try.prog 9 #[.agg #[.slice A c ca, .slice B d cb]] w (LayY w (12 + c + d) (layL C D)) := by
  have RG := Lib.hid (fun W => Right_any A B c d ca cb (by unfold maxLen; omega) (by unfold maxLen; omega) W)
  rw [hq] at RG
  have bA := rA.2.2.1
  have bB := rB.2.2.1
  have BC := Lib.hid (lenL_byte c (by omega))
  have BD := Lib.hid (lenL_byte d (by omega))
  have HQ := Lib.hid hq
  have NB := HasB.new w 26 [.slice A c ca, .slice B d cb]
  have hb1 := bel_al (Below.refl w.heap.size w) (.cells #[.slice A c ca, .slice B d cb] 26)
  have RA := Lib.hid (rA.below hb1)
  have RB := Lib.hid (rB.below hb1)
  have L1 := Lib.hid (length_p c (by omega))
  have L2 := Lib.hid (length_p d (by omega))
  have J := Lib.hid (joined_five A B c d ca cb C D hc hd h1 h2)
  have kc := fun (w : World) => Lib.run_convert_bytes_const (P := Try.prog) w 22 5 #[.int .u8 86, .int .u8 51, .int .u8 50, .int .u8 49] 4 4 Try.underlying22 Try.underlying5
  have kd : ∀ w : World, (convert 22 22 (.slice (some ⟨w.heap.size, 0, none⟩) 4 4)).run Try.prog (w.alloc (.cells #[.int .u8 86, .int .u8 51, .int .u8 50, .int .u8 49] 5)).drew = _ := fun w => kc w.drew
  have hc0 : (c : Int) ≤ 9000 := by omega
  have hd0 : (d : Int) ≤ 9000 := by omega
  have H1 := Lib.hid h1
  have H2 := Lib.hid h2
  clear rA rB hq h1 h2
  go_enter Try.func9, Try.ntmps9
  obtain ⟨W, hW⟩ : ∃ W, w.alloc (.cells #[.slice A c ca, .slice B d cb] 26) = W := ⟨_, rfl⟩
  have NBW : HasB W w.heap.size 26 [.slice A c ca, .slice B d cb] := by rw [← hW]; exact NB
  rw [hW] at RA RB hb1
  have HB1 := Lib.hid hb1
  clear NB hb1
  have k0 := NBW.cell 0
  have k1 := NBW.cell 1
  simp only [List.getElem?_cons_succ, List.getElem?_cons_zero] at k0 k1
  have NBH := Lib.hid NBW
  clear NBW
  go_wp2_with fail
  refine (RG.out _).mono ?_; rintro e w2 ⟨rfl, hb2⟩
  have HB2 := Lib.hid (HB1.out.trans (hb2.mono HB1.out.size))
  have rA2 := RA.out.below hb2
  have rB2 := RB.out.below hb2
  have NB2 := Lib.hid (NBH.out.below hb2)
  clear hb2 k0 k1 hW RA RB RG
  go_wp2_with fail
  go_cut [4] (fun s4 wx => BodyC w2 (8 + c + d) (bodyL C D) s4 wx)
  case first =>
    refine wp_region_noPanic ?_
    refine wp_region_held_drew (S := (fun w' => (w'.cell? ⟨w.heap.size, 0, none⟩ = some (.slice A c ca) ∧ w'.cell? ⟨w.heap.size, 1, none⟩ = some (.slice B d cb)) ∧ RS w2 w')) (by kernel_rfl) ?_ (fun hHeld => ?_)
    · (try dsimp only)
      refine box_s NB2.out ?_
      (repeat' first | (with_reducible assumption) | (with_reducible exact Below.refl _ _) | (with_reducible refine bel_dr ?_) | (with_reducible refine bel_al ?_ _) | (with_reducible refine bel_then ?_ (by with_reducible assumption)))
    refine wpAnyH_take (i := 2) (oi := { dst := some 10, op := Op.fieldAddr 26 (Operand.tmp 1) 0, type := 0, pos := "image.go:30", after := #[], guard := none }) (v := ?_) rfl (by kernel_rfl) (by kernel_rfl) (by kernel_rfl) (fun _ _ _ h => h) (Or.inl ⟨by rfl, ?_⟩) (by assumption) ?_
    rotate_left
    · intro w hSw; (try dsimp only at hSw); go_simp <;> (with_reducible rfl)
    (try simp only [Act.put, List.setIfInBounds_toArray, List.set_cons_zero, List.set_cons_succ])
    refine wpAnyH_take (i := 3) (oi := { dst := some 11, op := Op.load 22 (Operand.tmp 10), type := 22, pos := "image.go:30", after := #[{ on := 2, ground := Ground.data }], guard := none }) (v := ?_) rfl (by kernel_rfl) (by kernel_rfl) (by kernel_rfl) (fun _ _ _ h => h) (Or.inl ⟨by rfl, ?_⟩) (by assumption) ?_
    rotate_left
    · intro w hSw; (try dsimp only at hSw); go_simp <;> (with_reducible rfl)
    (try simp only [Act.put, List.setIfInBounds_toArray, List.set_cons_zero, List.set_cons_succ])
    refine wpAnyH_take (i := 4) (oi := { dst := some 12, op := Op.call { callee := Callee.builtin Builtin.len, args := #[Operand.tmp 11], argTypes := #[22] }, type := 3, pos := "image.go:30", after := #[{ on := 3, ground := Ground.data }], guard := none }) (v := ?_) rfl (by kernel_rfl) (by kernel_rfl) (by kernel_rfl) (fun _ _ _ h => h) (Or.inl ⟨by rfl, ?_⟩) (by assumption) ?_
    rotate_left
    · intro w hSw; (try dsimp only at hSw); go_simp <;> (with_reducible rfl)
    (try simp only [Act.put, List.setIfInBounds_toArray, List.set_cons_zero, List.set_cons_succ])
    refine wpAnyH_take (i := 6) (oi := { dst := some 14, op := Op.fieldAddr 26 (Operand.tmp 1) 1, type := 0, pos := "image.go:30", after := #[], guard := none }) (v := ?_) rfl (by kernel_rfl) (by kernel_rfl) (by kernel_rfl) (fun _ _ _ h => h) (Or.inl ⟨by rfl, ?_⟩) (by assumption) ?_
    rotate_left
    · intro w hSw; (try dsimp only at hSw); go_simp <;> (with_reducible rfl)
    (try simp only [Act.put, List.setIfInBounds_toArray, List.set_cons_zero, List.set_cons_succ])
    refine wpAnyH_take (i := 7) (oi := { dst := some 15, op := Op.load 22 (Operand.tmp 14), type := 22, pos := "image.go:30", after := #[{ on := 6, ground := Ground.data }], guard := none }) (v := ?_) rfl (by kernel_rfl) (by kernel_rfl) (by kernel_rfl) (fun _ _ _ h => h) (Or.inl ⟨by rfl, ?_⟩) (by assumption) ?_
    rotate_left
    · intro w hSw; (try dsimp only at hSw); go_simp <;> (with_reducible rfl)
    (try simp only [Act.put, List.setIfInBounds_toArray, List.set_cons_zero, List.set_cons_succ])
    refine wpAnyH_take (i := 8) (oi := { dst := some 16, op := Op.call { callee := Callee.builtin Builtin.len, args := #[Operand.tmp 15], argTypes := #[22] }, type := 3, pos := "image.go:30", after := #[{ on := 7, ground := Ground.data }], guard := none }) (v := ?_) rfl (by kernel_rfl) (by kernel_rfl) (by kernel_rfl) (fun _ _ _ h => h) (Or.inl ⟨by rfl, ?_⟩) (by assumption) ?_
    rotate_left
    · intro w hSw; (try dsimp only at hSw); go_simp <;> (with_reducible rfl)
    (try simp only [Act.put, List.setIfInBounds_toArray, List.set_cons_zero, List.set_cons_succ])
    refine wpAnyH_take (i := 10) (oi := { dst := some 18, op := Op.fieldAddr 26 (Operand.tmp 1) 0, type := 0, pos := "image.go:30", after := #[], guard := none }) (v := ?_) rfl (by kernel_rfl) (by kernel_rfl) (by kernel_rfl) (fun _ _ _ h => h) (Or.inl ⟨by rfl, ?_⟩) (by assumption) ?_
    rotate_left
    · intro w hSw; (try dsimp only at hSw); go_simp <;> (with_reducible rfl)
    (try simp only [Act.put, List.setIfInBounds_toArray, List.set_cons_zero, List.set_cons_succ])
    refine wpAnyH_take (i := 11) (oi := { dst := some 19, op := Op.load 22 (Operand.tmp 18), type := 22, pos := "image.go:30", after := #[{ on := 10, ground := Ground.data }], guard := none }) (v := ?_) rfl (by kernel_rfl) (by kernel_rfl) (by kernel_rfl) (fun _ _ _ h => h) (Or.inl ⟨by rfl, ?_⟩) (by assumption) ?_
    rotate_left
    · intro w hSw; (try dsimp only at hSw); go_simp <;> (with_reducible rfl)
    (try simp only [Act.put, List.setIfInBounds_toArray, List.set_cons_zero, List.set_cons_succ])
    refine wpAnyH_take (i := 12) (oi := { dst := some 20, op := Op.fieldAddr 26 (Operand.tmp 1) 1, type := 0, pos := "image.go:30", after := #[], guard := none }) (v := ?_) rfl (by kernel_rfl) (by kernel_rfl) (by kernel_rfl) (fun _ _ _ h => h) (Or.inl ⟨by rfl, ?_⟩) (by assumption) ?_
    rotate_left
    · intro w hSw; (try dsimp only at hSw); go_simp <;> (with_reducible rfl)
    (try simp only [Act.put, List.setIfInBounds_toArray, List.set_cons_zero, List.set_cons_succ])
    refine wpAnyH_take (i := 13) (oi := { dst := some 21, op := Op.load 22 (Operand.tmp 20), type := 22, pos := "image.go:30", after := #[{ on := 12, ground := Ground.data }], guard := none }) (v := ?_) rfl (by kernel_rfl) (by kernel_rfl) (by kernel_rfl) (fun _ _ _ h => h) (Or.inl ⟨by rfl, ?_⟩) (by assumption) ?_
    rotate_left
    · intro w hSw; (try dsimp only at hSw); go_simp <;> (with_reducible rfl)
    (try simp only [Act.put, List.setIfInBounds_toArray, List.set_cons_zero, List.set_cons_succ])
    refine wpAnyH_ready (rs := [0, 5]) (by kernel_rfl) (by simp) ?_
    refine AllReadyH.cons (o := { dst := some 8, op := Op.buildSlice 22 4 #[(0, Operand.const (Value.int IntKind.u8 86)), (1, Operand.const (Value.int IntKind.u8 51)), (2, Operand.const (Value.int IntKind.u8 50)), (3, Operand.const (Value.int IntKind.u8 49))], type := 22, pos := "image.go:30", after := #[], guard := none }) rfl (fun K hK => ?_) ?_
    · go_simp
      refine hK.out _ _ ?_ (fun hHeld => ?_)
      · (try dsimp only)
        refine box_s NB2.out ?_
        (repeat' first | (with_reducible assumption) | (with_reducible exact Below.refl _ _) | (with_reducible refine bel_dr ?_) | (with_reducible refine bel_al ?_ _) | (with_reducible refine bel_then ?_ (by with_reducible assumption)))
      clear hK K
      (try simp only [Act.put, List.setIfInBounds_toArray, List.set_cons_zero, List.set_cons_succ])
      refine wpAnyH_ready (rs := [1, 5]) (by kernel_rfl) (by simp) ?_
      refine AllReadyH.cons (o := { dst := some 9, op := Op.convert 22 22 (Operand.tmp 8), type := 22, pos := "image.go:30", after := #[{ on := 0, ground := Ground.data }], guard := none }) rfl (fun K hK => ?_) ?_
      · go_simp
        refine hK.out _ _ ?_ (fun hHeld => ?_)
        · (try dsimp only)
          refine box_s NB2.out ?_
          (repeat' first | (with_reducible assumption) | (with_reducible exact Below.refl _ _) | (with_reducible refine bel_dr ?_) | (with_reducible refine bel_al ?_ _) | (with_reducible refine bel_then ?_ (by with_reducible assumption)))
        clear hK K
        (try simp only [Act.put, List.setIfInBounds_toArray, List.set_cons_zero, List.set_cons_succ])
        refine wpAnyH_ready (rs := [5]) (by kernel_rfl) (by simp) ?_
        refine AllReadyH.cons (o := { dst := some 13, op := Op.call { callee := Callee.value (Operand.func 16), args := #[Operand.tmp 12], argTypes := #[3] }, type := 22, pos := "image.go:30", after := #[{ on := 4, ground := Ground.data }], guard := none }) rfl (fun K hK => ?_) ?_
        · go_simp
          (with_reducible refine Calls.mono (L1.out _) ?_); rintro e w13 ⟨g13, rfl, h13, hb13⟩
          go_wp2_with fail
          refine hK.out _ _ ?_ (fun hHeld => ?_)
          · (try dsimp only)
            refine box_s NB2.out ?_
            (repeat' first | (with_reducible assumption) | (with_reducible exact Below.refl _ _) | (with_reducible refine bel_dr ?_) | (with_reducible refine bel_al ?_ _) | (with_reducible refine bel_then ?_ (by with_reducible assumption)))
          clear hK K
          (try simp only [Act.put, List.setIfInBounds_toArray, List.set_cons_zero, List.set_cons_succ])
          refine wpAnyH_ready (rs := [9]) (by kernel_rfl) (by simp) ?_
          refine AllReadyH.cons (o := { dst := some 17, op := Op.call { callee := Callee.value (Operand.func 16), args := #[Operand.tmp 16], argTypes := #[3] }, type := 22, pos := "image.go:30", after := #[{ on := 8, ground := Ground.data }, { on := 5, ground := Ground.chain }], guard := none }) rfl (fun K hK => ?_) ?_
          · go_simp
            (with_reducible refine Calls.mono (L2.out _) ?_); rintro e w17 ⟨g17, rfl, h17, hb17⟩
            go_wp2_with fail
            refine hK.out _ _ ?_ (fun hHeld => ?_)
            · (try dsimp only)
              refine box_s NB2.out ?_
              (repeat' first | (with_reducible assumption) | (with_reducible exact Below.refl _ _) | (with_reducible refine bel_dr ?_) | (with_reducible refine bel_al ?_ _) | (with_reducible refine bel_then ?_ (by with_reducible assumption)))
            clear hK K
            (try simp only [Act.put, List.setIfInBounds_toArray, List.set_cons_zero, List.set_cons_succ])
            refine wpAnyH_ready (rs := [14]) (by kernel_rfl) (by simp) ?_
            refine AllReadyH.cons (o := { dst := some 22, op := Op.buildSlice 49 5 #[(0, Operand.tmp 9), (1, Operand.tmp 13), (2, Operand.tmp 17), (3, Operand.tmp 19), (4, Operand.tmp 21)], type := 49, pos := "image.go:30", after := #[{ on := 1, ground := Ground.data }, { on := 5, ground := Ground.data }, { on := 9, ground := Ground.data }, { on := 11, ground := Ground.data }, { on := 13, ground := Ground.data }], guard := none }) rfl (fun K hK => ?_) ?_
            · go_simp
              refine hK.out _ _ ?_ (fun hHeld => ?_)
              · (try dsimp only)
                refine box_s NB2.out ?_
                (repeat' first | (with_reducible assumption) | (with_reducible exact Below.refl _ _) | (with_reducible refine bel_dr ?_) | (with_reducible refine bel_al ?_ _) | (with_reducible refine bel_then ?_ (by with_reducible assumption)))
              clear hK K
              (try simp only [Act.put, List.setIfInBounds_toArray, List.set_cons_zero, List.set_cons_succ])
              refine wpAnyH_ready (rs := [15]) (by kernel_rfl) (by simp) ?_
              refine AllReadyH.cons (o := { dst := some 23, op := Op.call { callee := Callee.value (Operand.func 15), args := #[Operand.tmp 22], argTypes := #[49] }, type := 22, pos := "image.go:30", after := #[{ on := 14, ground := Ground.data }, { on := 9, ground := Ground.chain }], guard := none }) rfl (fun K hK => ?_) ?_
              · go_simp
                (with_reducible refine Calls.mono (J.out _ _ _ _ _ (HasB.newAt _ _ _ _ (by simp)) ?_ ?_ ?_ ?_ ?_) ?_)
                · (repeat' first | (with_reducible assumption) | ((with_reducible refine row_head _ _ _ _ ?_); (first | (with_reducible rfl) | (simp; done))) | (with_reducible refine RowAt.al ?_ _) | (with_reducible refine RowAt.dr ?_) | (with_reducible refine KeepR.row (by with_reducible assumption) ?_) | (with_reducible refine RowAt.below ?_ (by with_reducible assumption)))
                · (repeat' first | (with_reducible assumption) | ((with_reducible refine row_head _ _ _ _ ?_); (first | (with_reducible rfl) | (simp; done))) | (with_reducible refine RowAt.al ?_ _) | (with_reducible refine RowAt.dr ?_) | (with_reducible refine KeepR.row (by with_reducible assumption) ?_) | (with_reducible refine RowAt.below ?_ (by with_reducible assumption)))
                · (repeat' first | (with_reducible assumption) | ((with_reducible refine row_head _ _ _ _ ?_); (first | (with_reducible rfl) | (simp; done))) | (with_reducible refine RowAt.al ?_ _) | (with_reducible refine RowAt.dr ?_) | (with_reducible refine KeepR.row (by with_reducible assumption) ?_) | (with_reducible refine RowAt.below ?_ (by with_reducible assumption)))
                · (repeat' first | (with_reducible assumption) | ((with_reducible refine row_head _ _ _ _ ?_); (first | (with_reducible rfl) | (simp; done))) | (with_reducible refine RowAt.al ?_ _) | (with_reducible refine RowAt.dr ?_) | (with_reducible refine KeepR.row (by with_reducible assumption) ?_) | (with_reducible refine RowAt.below ?_ (by with_reducible assumption)))
                · (repeat' first | (with_reducible assumption) | ((with_reducible refine row_head _ _ _ _ ?_); (first | (with_reducible rfl) | (simp; done))) | (with_reducible refine RowAt.al ?_ _) | (with_reducible refine RowAt.dr ?_) | (with_reducible refine KeepR.row (by with_reducible assumption) ?_) | (with_reducible refine RowAt.below ?_ (by with_reducible assumption)))
                rintro e w' ⟨B5, cb5, rfl, own5, hb⟩
                go_wp2_with fail
                refine hK.out _ _ ?_ (fun hHeld => ?_)
                · (try dsimp only)
                  refine box_s NB2.out ?_
                  (repeat' first | (with_reducible assumption) | (with_reducible exact Below.refl _ _) | (with_reducible refine bel_dr ?_) | (with_reducible refine bel_al ?_ _) | (with_reducible refine bel_then ?_ (by with_reducible assumption)))
                clear hK K
                (try simp only [Act.put, List.setIfInBounds_toArray, List.set_cons_zero, List.set_cons_succ])
                refine wpAnyH_take (i := 16) (oi := { dst := some 4, op := Op.assign (Operand.tmp 23), type := 22, pos := "image.go:30", after := #[{ on := 15, ground := Ground.data }, { on := 15, ground := Ground.chain }, { on := 0, ground := Ground.phase }, { on := 1, ground := Ground.phase }, { on := 2, ground := Ground.phase }, { on := 3, ground := Ground.phase }, { on := 4, ground := Ground.phase }, { on := 5, ground := Ground.phase }, { on := 6, ground := Ground.phase }, { on := 7, ground := Ground.phase }, { on := 8, ground := Ground.phase }, { on := 9, ground := Ground.phase }, { on := 10, ground := Ground.phase }, { on := 11, ground := Ground.phase }, { on := 12, ground := Ground.phase }, { on := 13, ground := Ground.phase }, { on := 14, ground := Ground.phase }, { on := 15, ground := Ground.phase }], guard := none }) (v := ?_) rfl (by kernel_rfl) (by kernel_rfl) (by kernel_rfl) (fun _ _ _ h => h) (Or.inl ⟨by rfl, ?_⟩) (by assumption) ?_
                rotate_left
                · intro w hSw; (try dsimp only at hSw); go_simp <;> (with_reducible rfl)
                (try simp only [Act.put, List.setIfInBounds_toArray, List.set_cons_zero, List.set_cons_succ])
                refine wpAnyH_done (by kernel_rfl) ?_ _
                refine NoPanic.normal ?_
                have OW5 := Lib.hid (own5.mono (Below.size (show Below w2.heap.size w2 _ by (repeat' first | (with_reducible assumption) | (with_reducible exact Below.refl _ _) | (with_reducible refine bel_dr ?_) | (with_reducible refine bel_al ?_ _) | (with_reducible refine bel_then ?_ (by with_reducible assumption))))))
                have BL5 : Hid (Below w2.heap.size w2 w') := Lib.hid (by (repeat' first | (with_reducible assumption) | (with_reducible exact Below.refl _ _) | (with_reducible refine bel_dr ?_) | (with_reducible refine bel_al ?_ _) | (with_reducible refine bel_then ?_ (by with_reducible assumption))))
                clear own5
                go_wp2_with fail
                go_meet
                exact ⟨B5, cb5, rfl, OW5.out, BL5.out⟩
              exact AllReadyH.nil
            exact AllReadyH.nil
          exact AllReadyH.nil
        exact AllReadyH.nil
      refine AllReadyH.cons (o := { dst := some 13, op := Op.call { callee := Callee.value (Operand.func 16), args := #[Operand.tmp 12], argTypes := #[3] }, type := 22, pos := "image.go:30", after := #[{ on := 4, ground := Ground.data }], guard := none }) rfl (fun K hK => ?_) ?_
      · go_simp
        (with_reducible refine Calls.mono (L1.out _) ?_); rintro e w13 ⟨g13, rfl, h13, hb13⟩
        go_wp2_with fail
        obtain ⟨W9, cv9, h9r, h9b⟩ := mark_p (W0 := w2) (w := w13) (g := w2.heap.size) (by (repeat' first | (with_reducible assumption) | ((with_reducible refine HasB.newAt _ _ _ _ ?_); (simp; done)) | (with_reducible refine HasB.al ?_ _) | (with_reducible refine HasB.dr ?_) | (with_reducible refine HasB.below ?_ (by with_reducible assumption)))) (by (repeat' first | (with_reducible assumption) | (with_reducible exact Below.refl _ _) | (with_reducible refine bel_dr ?_) | (with_reducible refine bel_al ?_ _) | (with_reducible refine bel_then ?_ (by with_reducible assumption)))) (by exact Nat.le_refl _)
        refine hK.out _ _ ?_ (fun hHeld => ?_)
        · (try dsimp only)
          refine box_s NB2.out ?_
          (repeat' first | (with_reducible assumption) | (with_reducible exact Below.refl _ _) | (with_reducible refine bel_dr ?_) | (with_reducible refine bel_al ?_ _) | (with_reducible refine bel_then ?_ (by with_reducible assumption)))
        clear hK K
        (try simp only [Act.put, List.setIfInBounds_toArray, List.set_cons_zero, List.set_cons_succ])
        refine wpAnyH_ready (rs := [1, 9]) (by kernel_rfl) (by simp) ?_
        refine AllReadyH.cons (o := { dst := some 9, op := Op.convert 22 22 (Operand.tmp 8), type := 22, pos := "image.go:30", after := #[{ on := 0, ground := Ground.data }], guard := none }) rfl (fun K hK => ?_) ?_
        · go_simp
          refine hK.out _ _ ?_ (fun hHeld => ?_)
          · (try dsimp only)
            refine box_s NB2.out ?_
            (repeat' first | (with_reducible assumption) | (with_reducible exact Below.refl _ _) | (with_reducible refine bel_dr ?_) | (with_reducible refine bel_al ?_ _) | (with_reducible refine bel_then ?_ (by with_reducible assumption)))
          clear hK K
          (try simp only [Act.put, List.setIfInBounds_toArray, List.set_cons_zero, List.set_cons_succ])
          refine wpAnyH_ready (rs := [9]) (by kernel_rfl) (by simp) ?_
          refine AllReadyH.cons (o := { dst := some 17, op := Op.call { callee := Callee.value (Operand.func 16), args := #[Operand.tmp 16], argTypes := #[3] }, type := 22, pos := "image.go:30", after := #[{ on := 8, ground := Ground.data }, { on := 5, ground := Ground.chain }], guard := none }) rfl (fun K hK => ?_) ?_
          · go_simp
            (with_reducible refine Calls.mono (L2.out _) ?_); rintro e w17 ⟨g17, rfl, h17, hb17⟩
            go_wp2_with fail
            refine hK.out _ _ ?_ (fun hHeld => ?_)
            · (try dsimp only)
              refine box_s NB2.out ?_
              (repeat' first | (with_reducible assumption) | (with_reducible exact Below.refl _ _) | (with_reducible refine bel_dr ?_) | (with_reducible refine bel_al ?_ _) | (with_reducible refine bel_then ?_ (by with_reducible assumption)))
            clear hK K
            (try simp only [Act.put, List.setIfInBounds_toArray, List.set_cons_zero, List.set_cons_succ])
            refine wpAnyH_ready (rs := [14]) (by kernel_rfl) (by simp) ?_
            refine AllReadyH.cons (o := { dst := some 22, op := Op.buildSlice 49 5 #[(0, Operand.tmp 9), (1, Operand.tmp 13), (2, Operand.tmp 17), (3, Operand.tmp 19), (4, Operand.tmp 21)], type := 49, pos := "image.go:30", after := #[{ on := 1, ground := Ground.data }, { on := 5, ground := Ground.data }, { on := 9, ground := Ground.data }, { on := 11, ground := Ground.data }, { on := 13, ground := Ground.data }], guard := none }) rfl (fun K hK => ?_) ?_
            · go_simp
              refine hK.out _ _ ?_ (fun hHeld => ?_)
              · (try dsimp only)
                refine box_s NB2.out ?_
                (repeat' first | (with_reducible assumption) | (with_reducible exact Below.refl _ _) | (with_reducible refine bel_dr ?_) | (with_reducible refine bel_al ?_ _) | (with_reducible refine bel_then ?_ (by with_reducible assumption)))
              clear hK K
              (try simp only [Act.put, List.setIfInBounds_toArray, List.set_cons_zero, List.set_cons_succ])
              refine wpAnyH_ready (rs := [15]) (by kernel_rfl) (by simp) ?_
              refine AllReadyH.cons (o := { dst := some 23, op := Op.call { callee := Callee.value (Operand.func 15), args := #[Operand.tmp 22], argTypes := #[49] }, type := 22, pos := "image.go:30", after := #[{ on := 14, ground := Ground.data }, { on := 9, ground := Ground.chain }], guard := none }) rfl (fun K hK => ?_) ?_
              · go_simp
                (with_reducible refine Calls.mono (J.out _ _ _ _ _ (HasB.newAt _ _ _ _ (by simp)) ?_ ?_ ?_ ?_ ?_) ?_)
                · (repeat' first | (with_reducible assumption) | ((with_reducible refine row_head _ _ _ _ ?_); (first | (with_reducible rfl) | (simp; done))) | (with_reducible refine RowAt.al ?_ _) | (with_reducible refine RowAt.dr ?_) | (with_reducible refine KeepR.row (by with_reducible assumption) ?_) | (with_reducible refine RowAt.below ?_ (by with_reducible assumption)))
                · (repeat' first | (with_reducible assumption) | ((with_reducible refine row_head _ _ _ _ ?_); (first | (with_reducible rfl) | (simp; done))) | (with_reducible refine RowAt.al ?_ _) | (with_reducible refine RowAt.dr ?_) | (with_reducible refine KeepR.row (by with_reducible assumption) ?_) | (with_reducible refine RowAt.below ?_ (by with_reducible assumption)))
                · (repeat' first | (with_reducible assumption) | ((with_reducible refine row_head _ _ _ _ ?_); (first | (with_reducible rfl) | (simp; done))) | (with_reducible refine RowAt.al ?_ _) | (with_reducible refine RowAt.dr ?_) | (with_reducible refine KeepR.row (by with_reducible assumption) ?_) | (with_reducible refine RowAt.below ?_ (by with_reducible assumption)))
                · (repeat' first | (with_reducible assumption) | ((with_reducible refine row_head _ _ _ _ ?_); (first | (with_reducible rfl) | (simp; done))) | (with_reducible refine RowAt.al ?_ _) | (with_reducible refine RowAt.dr ?_) | (with_reducible refine KeepR.row (by with_reducible assumption) ?_) | (with_reducible refine RowAt.below ?_ (by with_reducible assumption)))
                · (repeat' first | (with_reducible assumption) | ((with_reducible refine row_head _ _ _ _ ?_); (first | (with_reducible rfl) | (simp; done))) | (with_reducible refine RowAt.al ?_ _) | (with_reducible refine RowAt.dr ?_) | (with_reducible refine KeepR.row (by with_reducible assumption) ?_) | (with_reducible refine RowAt.below ?_ (by with_reducible assumption)))
                rintro e w' ⟨B5, cb5, rfl, own5, hb⟩
                go_wp2_with fail
                refine hK.out _ _ ?_ (fun hHeld => ?_)
                · (try dsimp only)
                  refine box_s NB2.out ?_
                  (repeat' first | (with_reducible assumption) | (with_reducible exact Below.refl _ _) | (with_reducible refine bel_dr ?_) | (with_reducible refine bel_al ?_ _) | (with_reducible refine bel_then ?_ (by with_reducible assumption)))
                clear hK K
                (try simp only [Act.put, List.setIfInBounds_toArray, List.set_cons_zero, List.set_cons_succ])
                refine wpAnyH_take (i := 16) (oi := { dst := some 4, op := Op.assign (Operand.tmp 23), type := 22, pos := "image.go:30", after := #[{ on := 15, ground := Ground.data }, { on := 15, ground := Ground.chain }, { on := 0, ground := Ground.phase }, { on := 1, ground := Ground.phase }, { on := 2, ground := Ground.phase }, { on := 3, ground := Ground.phase }, { on := 4, ground := Ground.phase }, { on := 5, ground := Ground.phase }, { on := 6, ground := Ground.phase }, { on := 7, ground := Ground.phase }, { on := 8, ground := Ground.phase }, { on := 9, ground := Ground.phase }, { on := 10, ground := Ground.phase }, { on := 11, ground := Ground.phase }, { on := 12, ground := Ground.phase }, { on := 13, ground := Ground.phase }, { on := 14, ground := Ground.phase }, { on := 15, ground := Ground.phase }], guard := none }) (v := ?_) rfl (by kernel_rfl) (by kernel_rfl) (by kernel_rfl) (fun _ _ _ h => h) (Or.inl ⟨by rfl, ?_⟩) (by assumption) ?_
                rotate_left
                · intro w hSw; (try dsimp only at hSw); go_simp <;> (with_reducible rfl)
                (try simp only [Act.put, List.setIfInBounds_toArray, List.set_cons_zero, List.set_cons_succ])
                refine wpAnyH_done (by kernel_rfl) ?_ _
                refine NoPanic.normal ?_
                have OW5 := Lib.hid (own5.mono (Below.size (show Below w2.heap.size w2 _ by (repeat' first | (with_reducible assumption) | (with_reducible exact Below.refl _ _) | (with_reducible refine bel_dr ?_) | (with_reducible refine bel_al ?_ _) | (with_reducible refine bel_then ?_ (by with_reducible assumption))))))
                have BL5 : Hid (Below w2.heap.size w2 w') := Lib.hid (by (repeat' first | (with_reducible assumption) | (with_reducible exact Below.refl _ _) | (with_reducible refine bel_dr ?_) | (with_reducible refine bel_al ?_ _) | (with_reducible refine bel_then ?_ (by with_reducible assumption))))
                clear own5
                go_wp2_with fail
                go_meet
                exact ⟨B5, cb5, rfl, OW5.out, BL5.out⟩
              exact AllReadyH.nil
            exact AllReadyH.nil
          exact AllReadyH.nil
        refine AllReadyH.cons (o := { dst := some 17, op := Op.call { callee := Callee.value (Operand.func 16), args := #[Operand.tmp 16], argTypes := #[3] }, type := 22, pos := "image.go:30", after := #[{ on := 8, ground := Ground.data }, { on := 5, ground := Ground.chain }], guard := none }) rfl (fun K hK => ?_) ?_
        · go_simp
          (with_reducible refine Calls.mono (L2.out _) ?_); rintro e w17 ⟨g17, rfl, h17, hb17⟩
          go_wp2_with fail
          obtain ⟨W9, cv9, h9r, h9b⟩ := mark_p (W0 := w2) (w := w17) (g := w2.heap.size) (by (repeat' first | (with_reducible assumption) | ((with_reducible refine HasB.newAt _ _ _ _ ?_); (simp; done)) | (with_reducible refine HasB.al ?_ _) | (with_reducible refine HasB.dr ?_) | (with_reducible refine HasB.below ?_ (by with_reducible assumption)))) (by (repeat' first | (with_reducible assumption) | (with_reducible exact Below.refl _ _) | (with_reducible refine bel_dr ?_) | (with_reducible refine bel_al ?_ _) | (with_reducible refine bel_then ?_ (by with_reducible assumption)))) (by exact Nat.le_refl _)
          refine hK.out _ _ ?_ (fun hHeld => ?_)
          · (try dsimp only)
            refine box_s NB2.out ?_
            (repeat' first | (with_reducible assumption) | (with_reducible exact Below.refl _ _) | (with_reducible refine bel_dr ?_) | (with_reducible refine bel_al ?_ _) | (with_reducible refine bel_then ?_ (by with_reducible assumption)))
          clear hK K
          (try simp only [Act.put, List.setIfInBounds_toArray, List.set_cons_zero, List.set_cons_succ])
          refine wpAnyH_ready (rs := [1]) (by kernel_rfl) (by simp) ?_
          refine AllReadyH.cons (o := { dst := some 9, op := Op.convert 22 22 (Operand.tmp 8), type := 22, pos := "image.go:30", after := #[{ on := 0, ground := Ground.data }], guard := none }) rfl (fun K hK => ?_) ?_
          · go_simp
            refine hK.out _ _ ?_ (fun hHeld => ?_)
            · (try dsimp only)
              refine box_s NB2.out ?_
              (repeat' first | (with_reducible assumption) | (with_reducible exact Below.refl _ _) | (with_reducible refine bel_dr ?_) | (with_reducible refine bel_al ?_ _) | (with_reducible refine bel_then ?_ (by with_reducible assumption)))
            clear hK K
            (try simp only [Act.put, List.setIfInBounds_toArray, List.set_cons_zero, List.set_cons_succ])
            refine wpAnyH_ready (rs := [14]) (by kernel_rfl) (by simp) ?_
            refine AllReadyH.cons (o := { dst := some 22, op := Op.buildSlice 49 5 #[(0, Operand.tmp 9), (1, Operand.tmp 13), (2, Operand.tmp 17), (3, Operand.tmp 19), (4, Operand.tmp 21)], type := 49, pos := "image.go:30", after := #[{ on := 1, ground := Ground.data }, { on := 5, ground := Ground.data }, { on := 9, ground := Ground.data }, { on := 11, ground := Ground.data }, { on := 13, ground := Ground.data }], guard := none }) rfl (fun K hK => ?_) ?_
            · go_simp
              refine hK.out _ _ ?_ (fun hHeld => ?_)
              · (try dsimp only)
                refine box_s NB2.out ?_
                (repeat' first | (with_reducible assumption) | (with_reducible exact Below.refl _ _) | (with_reducible refine bel_dr ?_) | (with_reducible refine bel_al ?_ _) | (with_reducible refine bel_then ?_ (by with_reducible assumption)))
              clear hK K
              (try simp only [Act.put, List.setIfInBounds_toArray, List.set_cons_zero, List.set_cons_succ])
              refine wpAnyH_ready (rs := [15]) (by kernel_rfl) (by simp) ?_
              refine AllReadyH.cons (o := { dst := some 23, op := Op.call { callee := Callee.value (Operand.func 15), args := #[Operand.tmp 22], argTypes := #[49] }, type := 22, pos := "image.go:30", after := #[{ on := 14, ground := Ground.data }, { on := 9, ground := Ground.chain }], guard := none }) rfl (fun K hK => ?_) ?_
              · go_simp
                (with_reducible refine Calls.mono (J.out _ _ _ _ _ (HasB.newAt _ _ _ _ (by simp)) ?_ ?_ ?_ ?_ ?_) ?_)
                · (repeat' first | (with_reducible assumption) | ((with_reducible refine row_head _ _ _ _ ?_); (first | (with_reducible rfl) | (simp; done))) | (with_reducible refine RowAt.al ?_ _) | (with_reducible refine RowAt.dr ?_) | (with_reducible refine KeepR.row (by with_reducible assumption) ?_) | (with_reducible refine RowAt.below ?_ (by with_reducible assumption)))
                · (repeat' first | (with_reducible assumption) | ((with_reducible refine row_head _ _ _ _ ?_); (first | (with_reducible rfl) | (simp; done))) | (with_reducible refine RowAt.al ?_ _) | (with_reducible refine RowAt.dr ?_) | (with_reducible refine KeepR.row (by with_reducible assumption) ?_) | (with_reducible refine RowAt.below ?_ (by with_reducible assumption)))
                · (repeat' first | (with_reducible assumption) | ((with_reducible refine row_head _ _ _ _ ?_); (first | (with_reducible rfl) | (simp; done))) | (with_reducible refine RowAt.al ?_ _) | (with_reducible refine RowAt.dr ?_) | (with_reducible refine KeepR.row (by with_reducible assumption) ?_) | (with_reducible refine RowAt.below ?_ (by with_reducible assumption)))
                · (repeat' first | (with_reducible assumption) | ((with_reducible refine row_head _ _ _ _ ?_); (first | (with_reducible rfl) | (simp; done))) | (with_reducible refine RowAt.al ?_ _) | (with_reducible refine RowAt.dr ?_) | (with_reducible refine KeepR.row (by with_reducible assumption) ?_) | (with_reducible refine RowAt.below ?_ (by with_reducible assumption)))
                · (repeat' first | (with_reducible assumption) | ((with_reducible refine row_head _ _ _ _ ?_); (first | (with_reducible rfl) | (simp; done))) | (with_reducible refine RowAt.al ?_ _) | (with_reducible refine RowAt.dr ?_) | (with_reducible refine KeepR.row (by with_reducible assumption) ?_) | (with_reducible refine RowAt.below ?_ (by with_reducible assumption)))
                rintro e w' ⟨B5, cb5, rfl, own5, hb⟩
                go_wp2_with fail
                refine hK.out _ _ ?_ (fun hHeld => ?_)
                · (try dsimp only)
                  refine box_s NB2.out ?_
                  (repeat' first | (with_reducible assumption) | (with_reducible exact Below.refl _ _) | (with_reducible refine bel_dr ?_) | (with_reducible refine bel_al ?_ _) | (with_reducible refine bel_then ?_ (by with_reducible assumption)))
                clear hK K
                (try simp only [Act.put, List.setIfInBounds_toArray, List.set_cons_zero, List.set_cons_succ])
                refine wpAnyH_take (i := 16) (oi := { dst := some 4, op := Op.assign (Operand.tmp 23), type := 22, pos := "image.go:30", after := #[{ on := 15, ground := Ground.data }, { on := 15, ground := Ground.chain }, { on := 0, ground := Ground.phase }, { on := 1, ground := Ground.phase }, { on := 2, ground := Ground.phase }, { on := 3, ground := Ground.phase }, { on := 4, ground := Ground.phase }, { on := 5, ground := Ground.phase }, { on := 6, ground := Ground.phase }, { on := 7, ground := Ground.phase }, { on := 8, ground := Ground.phase }, { on := 9, ground := Ground.phase }, { on := 10, ground := Ground.phase }, { on := 11, ground := Ground.phase }, { on := 12, ground := Ground.phase }, { on := 13, ground := Ground.phase }, { on := 14, ground := Ground.phase }, { on := 15, ground := Ground.phase }], guard := none }) (v := ?_) rfl (by kernel_rfl) (by kernel_rfl) (by kernel_rfl) (fun _ _ _ h => h) (Or.inl ⟨by rfl, ?_⟩) (by assumption) ?_
                rotate_left
                · intro w hSw; (try dsimp only at hSw); go_simp <;> (with_reducible rfl)
                (try simp only [Act.put, List.setIfInBounds_toArray, List.set_cons_zero, List.set_cons_succ])
                refine wpAnyH_done (by kernel_rfl) ?_ _
                refine NoPanic.normal ?_
                have OW5 := Lib.hid (own5.mono (Below.size (show Below w2.heap.size w2 _ by (repeat' first | (with_reducible assumption) | (with_reducible exact Below.refl _ _) | (with_reducible refine bel_dr ?_) | (with_reducible refine bel_al ?_ _) | (with_reducible refine bel_then ?_ (by with_reducible assumption))))))
                have BL5 : Hid (Below w2.heap.size w2 w') := Lib.hid (by (repeat' first | (with_reducible assumption) | (with_reducible exact Below.refl _ _) | (with_reducible refine bel_dr ?_) | (with_reducible refine bel_al ?_ _) | (with_reducible refine bel_then ?_ (by with_reducible assumption))))
                clear own5
                go_wp2_with fail
                go_meet
                exact ⟨B5, cb5, rfl, OW5.out, BL5.out⟩
              exact AllReadyH.nil
            exact AllReadyH.nil
          exact AllReadyH.nil
        exact AllReadyH.nil
      exact AllReadyH.nil
    refine AllReadyH.cons (o := { dst := some 13, op := Op.call { callee := Callee.value (Operand.func 16), args := #[Operand.tmp 12], argTypes := #[3] }, type := 22, pos := "image.go:30", after := #[{ on := 4, ground := Ground.data }], guard := none }) rfl (fun K hK => ?_) ?_
    · go_simp
      (with_reducible refine Calls.mono (L1.out _) ?_); rintro e w13 ⟨g13, rfl, h13, hb13⟩
      go_wp2_with fail
      refine hK.out _ _ ?_ (fun hHeld => ?_)
      · (try dsimp only)
        refine box_s NB2.out ?_
        (repeat' first | (with_reducible assumption) | (with_reducible exact Below.refl _ _) | (with_reducible refine bel_dr ?_) | (with_reducible refine bel_al ?_ _) | (with_reducible refine bel_then ?_ (by with_reducible assumption)))
      clear hK K
      (try simp only [Act.put, List.setIfInBounds_toArray, List.set_cons_zero, List.set_cons_succ])
      refine wpAnyH_ready (rs := [0, 9]) (by kernel_rfl) (by simp) ?_
      refine AllReadyH.cons (o := { dst := some 8, op := Op.buildSlice 22 4 #[(0, Operand.const (Value.int IntKind.u8 86)), (1, Operand.const (Value.int IntKind.u8 51)), (2, Operand.const (Value.int IntKind.u8 50)), (3, Operand.const (Value.int IntKind.u8 49))], type := 22, pos := "image.go:30", after := #[], guard := none }) rfl (fun K hK => ?_) ?_
      · go_simp
        refine hK.out _ _ ?_ (fun hHeld => ?_)
        · (try dsimp only)
          refine box_s NB2.out ?_
          (repeat' first | (with_reducible assumption) | (with_reducible exact Below.refl _ _) | (with_reducible refine bel_dr ?_) | (with_reducible refine bel_al ?_ _) | (with_reducible refine bel_then ?_ (by with_reducible assumption)))
        clear hK K
        (try simp only [Act.put, List.setIfInBounds_toArray, List.set_cons_zero, List.set_cons_succ])
        refine wpAnyH_ready (rs := [1, 9]) (by kernel_rfl) (by simp) ?_
        refine AllReadyH.cons (o := { dst := some 9, op := Op.convert 22 22 (Operand.tmp 8), type := 22, pos := "image.go:30", after := #[{ on := 0, ground := Ground.data }], guard := none }) rfl (fun K hK => ?_) ?_
        · go_simp
          refine hK.out _ _ ?_ (fun hHeld => ?_)
          · (try dsimp only)
            refine box_s NB2.out ?_
            (repeat' first | (with_reducible assumption) | (with_reducible exact Below.refl _ _) | (with_reducible refine bel_dr ?_) | (with_reducible refine bel_al ?_ _) | (with_reducible refine bel_then ?_ (by with_reducible assumption)))
          clear hK K
          (try simp only [Act.put, List.setIfInBounds_toArray, List.set_cons_zero, List.set_cons_succ])
          refine wpAnyH_ready (rs := [9]) (by kernel_rfl) (by simp) ?_
          refine AllReadyH.cons (o := { dst := some 17, op := Op.call { callee := Callee.value (Operand.func 16), args := #[Operand.tmp 16], argTypes := #[3] }, type := 22, pos := "image.go:30", after := #[{ on := 8, ground := Ground.data }, { on := 5, ground := Ground.chain }], guard := none }) rfl (fun K hK => ?_) ?_
          · go_simp
            (with_reducible refine Calls.mono (L2.out _) ?_); rintro e w17 ⟨g17, rfl, h17, hb17⟩
            go_wp2_with fail
            refine hK.out _ _ ?_ (fun hHeld => ?_)
            · (try dsimp only)
              refine box_s NB2.out ?_
              (repeat' first | (with_reducible assumption) | (with_reducible exact Below.refl _ _) | (with_reducible refine bel_dr ?_) | (with_reducible refine bel_al ?_ _) | (with_reducible refine bel_then ?_ (by with_reducible assumption)))
            clear hK K
            (try simp only [Act.put, List.setIfInBounds_toArray, List.set_cons_zero, List.set_cons_succ])
            refine wpAnyH_ready (rs := [14]) (by kernel_rfl) (by simp) ?_
            refine AllReadyH.cons (o := { dst := some 22, op := Op.buildSlice 49 5 #[(0, Operand.tmp 9), (1, Operand.tmp 13), (2, Operand.tmp 17), (3, Operand.tmp 19), (4, Operand.tmp 21)], type := 49, pos := "image.go:30", after := #[{ on := 1, ground := Ground.data }, { on := 5, ground := Ground.data }, { on := 9, ground := Ground.data }, { on := 11, ground := Ground.data }, { on := 13, ground := Ground.data }], guard := none }) rfl (fun K hK => ?_) ?_
            · go_simp
              refine hK.out _ _ ?_ (fun hHeld => ?_)
              · (try dsimp only)
                refine box_s NB2.out ?_
                (repeat' first | (with_reducible assumption) | (with_reducible exact Below.refl _ _) | (with_reducible refine bel_dr ?_) | (with_reducible refine bel_al ?_ _) | (with_reducible refine bel_then ?_ (by with_reducible assumption)))
              clear hK K
              (try simp only [Act.put, List.setIfInBounds_toArray, List.set_cons_zero, List.set_cons_succ])
              refine wpAnyH_ready (rs := [15]) (by kernel_rfl) (by simp) ?_
              refine AllReadyH.cons (o := { dst := some 23, op := Op.call { callee := Callee.value (Operand.func 15), args := #[Operand.tmp 22], argTypes := #[49] }, type := 22, pos := "image.go:30", after := #[{ on := 14, ground := Ground.data }, { on := 9, ground := Ground.chain }], guard := none }) rfl (fun K hK => ?_) ?_
              · go_simp
                (with_reducible refine Calls.mono (J.out _ _ _ _ _ (HasB.newAt _ _ _ _ (by simp)) ?_ ?_ ?_ ?_ ?_) ?_)
                · (repeat' first | (with_reducible assumption) | ((with_reducible refine row_head _ _ _ _ ?_); (first | (with_reducible rfl) | (simp; done))) | (with_reducible refine RowAt.al ?_ _) | (with_reducible refine RowAt.dr ?_) | (with_reducible refine KeepR.row (by with_reducible assumption) ?_) | (with_reducible refine RowAt.below ?_ (by with_reducible assumption)))
                · (repeat' first | (with_reducible assumption) | ((with_reducible refine row_head _ _ _ _ ?_); (first | (with_reducible rfl) | (simp; done))) | (with_reducible refine RowAt.al ?_ _) | (with_reducible refine RowAt.dr ?_) | (with_reducible refine KeepR.row (by with_reducible assumption) ?_) | (with_reducible refine RowAt.below ?_ (by with_reducible assumption)))
                · (repeat' first | (with_reducible assumption) | ((with_reducible refine row_head _ _ _ _ ?_); (first | (with_reducible rfl) | (simp; done))) | (with_reducible refine RowAt.al ?_ _) | (with_reducible refine RowAt.dr ?_) | (with_reducible refine KeepR.row (by with_reducible assumption) ?_) | (with_reducible refine RowAt.below ?_ (by with_reducible assumption)))
                · (repeat' first | (with_reducible assumption) | ((with_reducible refine row_head _ _ _ _ ?_); (first | (with_reducible rfl) | (simp; done))) | (with_reducible refine RowAt.al ?_ _) | (with_reducible refine RowAt.dr ?_) | (with_reducible refine KeepR.row (by with_reducible assumption) ?_) | (with_reducible refine RowAt.below ?_ (by with_reducible assumption)))
                · (repeat' first | (with_reducible assumption) | ((with_reducible refine row_head _ _ _ _ ?_); (first | (with_reducible rfl) | (simp; done))) | (with_reducible refine RowAt.al ?_ _) | (with_reducible refine RowAt.dr ?_) | (with_reducible refine KeepR.row (by with_reducible assumption) ?_) | (with_reducible refine RowAt.below ?_ (by with_reducible assumption)))
                rintro e w' ⟨B5, cb5, rfl, own5, hb⟩
                go_wp2_with fail
                refine hK.out _ _ ?_ (fun hHeld => ?_)
                · (try dsimp only)
                  refine box_s NB2.out ?_
                  (repeat' first | (with_reducible assumption) | (with_reducible exact Below.refl _ _) | (with_reducible refine bel_dr ?_) | (with_reducible refine bel_al ?_ _) | (with_reducible refine bel_then ?_ (by with_reducible assumption)))
                clear hK K
                (try simp only [Act.put, List.setIfInBounds_toArray, List.set_cons_zero, List.set_cons_succ])
                refine wpAnyH_take (i := 16) (oi := { dst := some 4, op := Op.assign (Operand.tmp 23), type := 22, pos := "image.go:30", after := #[{ on := 15, ground := Ground.data }, { on := 15, ground := Ground.chain }, { on := 0, ground := Ground.phase }, { on := 1, ground := Ground.phase }, { on := 2, ground := Ground.phase }, { on := 3, ground := Ground.phase }, { on := 4, ground := Ground.phase }, { on := 5, ground := Ground.phase }, { on := 6, ground := Ground.phase }, { on := 7, ground := Ground.phase }, { on := 8, ground := Ground.phase }, { on := 9, ground := Ground.phase }, { on := 10, ground := Ground.phase }, { on := 11, ground := Ground.phase }, { on := 12, ground := Ground.phase }, { on := 13, ground := Ground.phase }, { on := 14, ground := Ground.phase }, { on := 15, ground := Ground.phase }], guard := none }) (v := ?_) rfl (by kernel_rfl) (by kernel_rfl) (by kernel_rfl) (fun _ _ _ h => h) (Or.inl ⟨by rfl, ?_⟩) (by assumption) ?_
                rotate_left
                · intro w hSw; (try dsimp only at hSw); go_simp <;> (with_reducible rfl)
                (try simp only [Act.put, List.setIfInBounds_toArray, List.set_cons_zero, List.set_cons_succ])
                refine wpAnyH_done (by kernel_rfl) ?_ _
                refine NoPanic.normal ?_
                have OW5 := Lib.hid (own5.mono (Below.size (show Below w2.heap.size w2 _ by (repeat' first | (with_reducible assumption) | (with_reducible exact Below.refl _ _) | (with_reducible refine bel_dr ?_) | (with_reducible refine bel_al ?_ _) | (with_reducible refine bel_then ?_ (by with_reducible assumption))))))
                have BL5 : Hid (Below w2.heap.size w2 w') := Lib.hid (by (repeat' first | (with_reducible assumption) | (with_reducible exact Below.refl _ _) | (with_reducible refine bel_dr ?_) | (with_reducible refine bel_al ?_ _) | (with_reducible refine bel_then ?_ (by with_reducible assumption))))
                clear own5
                go_wp2_with fail
                go_meet
                exact ⟨B5, cb5, rfl, OW5.out, BL5.out⟩
              exact AllReadyH.nil
            exact AllReadyH.nil
          exact AllReadyH.nil
        refine AllReadyH.cons (o := { dst := some 17, op := Op.call { callee := Callee.value (Operand.func 16), args := #[Operand.tmp 16], argTypes := #[3] }, type := 22, pos := "image.go:30", after := #[{ on := 8, ground := Ground.data }, { on := 5, ground := Ground.chain }], guard := none }) rfl (fun K hK => ?_) ?_
        · go_simp
          (with_reducible refine Calls.mono (L2.out _) ?_); rintro e w17 ⟨g17, rfl, h17, hb17⟩
          go_wp2_with fail
          obtain ⟨W9, cv9, h9r, h9b⟩ := mark_p (W0 := w2) (w := w17) (g := w13.heap.size) (by (repeat' first | (with_reducible assumption) | ((with_reducible refine HasB.newAt _ _ _ _ ?_); (simp; done)) | (with_reducible refine HasB.al ?_ _) | (with_reducible refine HasB.dr ?_) | (with_reducible refine HasB.below ?_ (by with_reducible assumption)))) (by (repeat' first | (with_reducible assumption) | (with_reducible exact Below.refl _ _) | (with_reducible refine bel_dr ?_) | (with_reducible refine bel_al ?_ _) | (with_reducible refine bel_then ?_ (by with_reducible assumption)))) (by exact Below.size (show Below w2.heap.size w2 w13 by (repeat' first | (with_reducible assumption) | (with_reducible exact Below.refl _ _) | (with_reducible refine bel_dr ?_) | (with_reducible refine bel_al ?_ _) | (with_reducible refine bel_then ?_ (by with_reducible assumption)))))
          refine hK.out _ _ ?_ (fun hHeld => ?_)
          · (try dsimp only)
            refine box_s NB2.out ?_
            (repeat' first | (with_reducible assumption) | (with_reducible exact Below.refl _ _) | (with_reducible refine bel_dr ?_) | (with_reducible refine bel_al ?_ _) | (with_reducible refine bel_then ?_ (by with_reducible assumption)))
          clear hK K
          (try simp only [Act.put, List.setIfInBounds_toArray, List.set_cons_zero, List.set_cons_succ])
          refine wpAnyH_ready (rs := [1]) (by kernel_rfl) (by simp) ?_
          refine AllReadyH.cons (o := { dst := some 9, op := Op.convert 22 22 (Operand.tmp 8), type := 22, pos := "image.go:30", after := #[{ on := 0, ground := Ground.data }], guard := none }) rfl (fun K hK => ?_) ?_
          · go_simp
            refine hK.out _ _ ?_ (fun hHeld => ?_)
            · (try dsimp only)
              refine box_s NB2.out ?_
              (repeat' first | (with_reducible assumption) | (with_reducible exact Below.refl _ _) | (with_reducible refine bel_dr ?_) | (with_reducible refine bel_al ?_ _) | (with_reducible refine bel_then ?_ (by with_reducible assumption)))
            clear hK K
            (try simp only [Act.put, List.setIfInBounds_toArray, List.set_cons_zero, List.set_cons_succ])
            refine wpAnyH_ready (rs := [14]) (by kernel_rfl) (by simp) ?_
            refine AllReadyH.cons (o := { dst := some 22, op := Op.buildSlice 49 5 #[(0, Operand.tmp 9), (1, Operand.tmp 13), (2, Operand.tmp 17), (3, Operand.tmp 19), (4, Operand.tmp 21)], type := 49, pos := "image.go:30", after := #[{ on := 1, ground := Ground.data }, { on := 5, ground := Ground.data }, { on := 9, ground := Ground.data }, { on := 11, ground := Ground.data }, { on := 13, ground := Ground.data }], guard := none }) rfl (fun K hK => ?_) ?_
            · go_simp
              refine hK.out _ _ ?_ (fun hHeld => ?_)
              · (try dsimp only)
                refine box_s NB2.out ?_
                (repeat' first | (with_reducible assumption) | (with_reducible exact Below.refl _ _) | (with_reducible refine bel_dr ?_) | (with_reducible refine bel_al ?_ _) | (with_reducible refine bel_then ?_ (by with_reducible assumption)))
              clear hK K
              (try simp only [Act.put, List.setIfInBounds_toArray, List.set_cons_zero, List.set_cons_succ])
              refine wpAnyH_ready (rs := [15]) (by kernel_rfl) (by simp) ?_
              refine AllReadyH.cons (o := { dst := some 23, op := Op.call { callee := Callee.value (Operand.func 15), args := #[Operand.tmp 22], argTypes := #[49] }, type := 22, pos := "image.go:30", after := #[{ on := 14, ground := Ground.data }, { on := 9, ground := Ground.chain }], guard := none }) rfl (fun K hK => ?_) ?_
              · go_simp
                (with_reducible refine Calls.mono (J.out _ _ _ _ _ (HasB.newAt _ _ _ _ (by simp)) ?_ ?_ ?_ ?_ ?_) ?_)
                · (repeat' first | (with_reducible assumption) | ((with_reducible refine row_head _ _ _ _ ?_); (first | (with_reducible rfl) | (simp; done))) | (with_reducible refine RowAt.al ?_ _) | (with_reducible refine RowAt.dr ?_) | (with_reducible refine KeepR.row (by with_reducible assumption) ?_) | (with_reducible refine RowAt.below ?_ (by with_reducible assumption)))
                · (repeat' first | (with_reducible assumption) | ((with_reducible refine row_head _ _ _ _ ?_); (first | (with_reducible rfl) | (simp; done))) | (with_reducible refine RowAt.al ?_ _) | (with_reducible refine RowAt.dr ?_) | (with_reducible refine KeepR.row (by with_reducible assumption) ?_) | (with_reducible refine RowAt.below ?_ (by with_reducible assumption)))
                · (repeat' first | (with_reducible assumption) | ((with_reducible refine row_head _ _ _ _ ?_); (first | (with_reducible rfl) | (simp; done))) | (with_reducible refine RowAt.al ?_ _) | (with_reducible refine RowAt.dr ?_) | (with_reducible refine KeepR.row (by with_reducible assumption) ?_) | (with_reducible refine RowAt.below ?_ (by with_reducible assumption)))
                · (repeat' first | (with_reducible assumption) | ((with_reducible refine row_head _ _ _ _ ?_); (first | (with_reducible rfl) | (simp; done))) | (with_reducible refine RowAt.al ?_ _) | (with_reducible refine RowAt.dr ?_) | (with_reducible refine KeepR.row (by with_reducible assumption) ?_) | (with_reducible refine RowAt.below ?_ (by with_reducible assumption)))
                · (repeat' first | (with_reducible assumption) | ((with_reducible refine row_head _ _ _ _ ?_); (first | (with_reducible rfl) | (simp; done))) | (with_reducible refine RowAt.al ?_ _) | (with_reducible refine RowAt.dr ?_) | (with_reducible refine KeepR.row (by with_reducible assumption) ?_) | (with_reducible refine RowAt.below ?_ (by with_reducible assumption)))
                rintro e w' ⟨B5, cb5, rfl, own5, hb⟩
                go_wp2_with fail
                refine hK.out _ _ ?_ (fun hHeld => ?_)
                · (try dsimp only)
                  refine box_s NB2.out ?_
                  (repeat' first | (with_reducible assumption) | (with_reducible exact Below.refl _ _) | (with_reducible refine bel_dr ?_) | (with_reducible refine bel_al ?_ _) | (with_reducible refine bel_then ?_ (by with_reducible assumption)))
                clear hK K
                (try simp only [Act.put, List.setIfInBounds_toArray, List.set_cons_zero, List.set_cons_succ])
                refine wpAnyH_take (i := 16) (oi := { dst := some 4, op := Op.assign (Operand.tmp 23), type := 22, pos := "image.go:30", after := #[{ on := 15, ground := Ground.data }, { on := 15, ground := Ground.chain }, { on := 0, ground := Ground.phase }, { on := 1, ground := Ground.phase }, { on := 2, ground := Ground.phase }, { on := 3, ground := Ground.phase }, { on := 4, ground := Ground.phase }, { on := 5, ground := Ground.phase }, { on := 6, ground := Ground.phase }, { on := 7, ground := Ground.phase }, { on := 8, ground := Ground.phase }, { on := 9, ground := Ground.phase }, { on := 10, ground := Ground.phase }, { on := 11, ground := Ground.phase }, { on := 12, ground := Ground.phase }, { on := 13, ground := Ground.phase }, { on := 14, ground := Ground.phase }, { on := 15, ground := Ground.phase }], guard := none }) (v := ?_) rfl (by kernel_rfl) (by kernel_rfl) (by kernel_rfl) (fun _ _ _ h => h) (Or.inl ⟨by rfl, ?_⟩) (by assumption) ?_
                rotate_left
                · intro w hSw; (try dsimp only at hSw); go_simp <;> (with_reducible rfl)
                (try simp only [Act.put, List.setIfInBounds_toArray, List.set_cons_zero, List.set_cons_succ])
                refine wpAnyH_done (by kernel_rfl) ?_ _
                refine NoPanic.normal ?_
                have OW5 := Lib.hid (own5.mono (Below.size (show Below w2.heap.size w2 _ by (repeat' first | (with_reducible assumption) | (with_reducible exact Below.refl _ _) | (with_reducible refine bel_dr ?_) | (with_reducible refine bel_al ?_ _) | (with_reducible refine bel_then ?_ (by with_reducible assumption))))))
                have BL5 : Hid (Below w2.heap.size w2 w') := Lib.hid (by (repeat' first | (with_reducible assumption) | (with_reducible exact Below.refl _ _) | (with_reducible refine bel_dr ?_) | (with_reducible refine bel_al ?_ _) | (with_reducible refine bel_then ?_ (by with_reducible assumption))))
                clear own5
                go_wp2_with fail
                go_meet
                exact ⟨B5, cb5, rfl, OW5.out, BL5.out⟩
              exact AllReadyH.nil
            exact AllReadyH.nil
          exact AllReadyH.nil
        exact AllReadyH.nil
      refine AllReadyH.cons (o := { dst := some 17, op := Op.call { callee := Callee.value (Operand.func 16), args := #[Operand.tmp 16], argTypes := #[3] }, type := 22, pos := "image.go:30", after := #[{ on := 8, ground := Ground.data }, { on := 5, ground := Ground.chain }], guard := none }) rfl (fun K hK => ?_) ?_
      · go_simp
        (with_reducible refine Calls.mono (L2.out _) ?_); rintro e w17 ⟨g17, rfl, h17, hb17⟩
        go_wp2_with fail
        refine hK.out _ _ ?_ (fun hHeld => ?_)
        · (try dsimp only)
          refine box_s NB2.out ?_
          (repeat' first | (with_reducible assumption) | (with_reducible exact Below.refl _ _) | (with_reducible refine bel_dr ?_) | (with_reducible refine bel_al ?_ _) | (with_reducible refine bel_then ?_ (by with_reducible assumption)))
        clear hK K
        (try simp only [Act.put, List.setIfInBounds_toArray, List.set_cons_zero, List.set_cons_succ])
        refine wpAnyH_ready (rs := [0]) (by kernel_rfl) (by simp) ?_
        refine AllReadyH.cons (o := { dst := some 8, op := Op.buildSlice 22 4 #[(0, Operand.const (Value.int IntKind.u8 86)), (1, Operand.const (Value.int IntKind.u8 51)), (2, Operand.const (Value.int IntKind.u8 50)), (3, Operand.const (Value.int IntKind.u8 49))], type := 22, pos := "image.go:30", after := #[], guard := none }) rfl (fun K hK => ?_) ?_
        · go_simp
          refine hK.out _ _ ?_ (fun hHeld => ?_)
          · (try dsimp only)
            refine box_s NB2.out ?_
            (repeat' first | (with_reducible assumption) | (with_reducible exact Below.refl _ _) | (with_reducible refine bel_dr ?_) | (with_reducible refine bel_al ?_ _) | (with_reducible refine bel_then ?_ (by with_reducible assumption)))
          clear hK K
          (try simp only [Act.put, List.setIfInBounds_toArray, List.set_cons_zero, List.set_cons_succ])
          refine wpAnyH_ready (rs := [1]) (by kernel_rfl) (by simp) ?_
          refine AllReadyH.cons (o := { dst := some 9, op := Op.convert 22 22 (Operand.tmp 8), type := 22, pos := "image.go:30", after := #[{ on := 0, ground := Ground.data }], guard := none }) rfl (fun K hK => ?_) ?_
          · go_simp
            refine hK.out _ _ ?_ (fun hHeld => ?_)
            · (try dsimp only)
              refine box_s NB2.out ?_
              (repeat' first | (with_reducible assumption) | (with_reducible exact Below.refl _ _) | (with_reducible refine bel_dr ?_) | (with_reducible refine bel_al ?_ _) | (with_reducible refine bel_then ?_ (by with_reducible assumption)))
            clear hK K
            (try simp only [Act.put, List.setIfInBounds_toArray, List.set_cons_zero, List.set_cons_succ])
            refine wpAnyH_ready (rs := [14]) (by kernel_rfl) (by simp) ?_
            refine AllReadyH.cons (o := { dst := some 22, op := Op.buildSlice 49 5 #[(0, Operand.tmp 9), (1, Operand.tmp 13), (2, Operand.tmp 17), (3, Operand.tmp 19), (4, Operand.tmp 21)], type := 49, pos := "image.go:30", after := #[{ on := 1, ground := Ground.data }, { on := 5, ground := Ground.data }, { on := 9, ground := Ground.data }, { on := 11, ground := Ground.data }, { on := 13, ground := Ground.data }], guard := none }) rfl (fun K hK => ?_) ?_
            · go_simp
              refine hK.out _ _ ?_ (fun hHeld => ?_)
              · (try dsimp only)
                refine box_s NB2.out ?_
                (repeat' first | (with_reducible assumption) | (with_reducible exact Below.refl _ _) | (with_reducible refine bel_dr ?_) | (with_reducible refine bel_al ?_ _) | (with_reducible refine bel_then ?_ (by with_reducible assumption)))
              clear hK K
              (try simp only [Act.put, List.setIfInBounds_toArray, List.set_cons_zero, List.set_cons_succ])
              refine wpAnyH_ready (rs := [15]) (by kernel_rfl) (by simp) ?_
              refine AllReadyH.cons (o := { dst := some 23, op := Op.call { callee := Callee.value (Operand.func 15), args := #[Operand.tmp 22], argTypes := #[49] }, type := 22, pos := "image.go:30", after := #[{ on := 14, ground := Ground.data }, { on := 9, ground := Ground.chain }], guard := none }) rfl (fun K hK => ?_) ?_
              · go_simp
                (with_reducible refine Calls.mono (J.out _ _ _ _ _ (HasB.newAt _ _ _ _ (by simp)) ?_ ?_ ?_ ?_ ?_) ?_)
                · (repeat' first | (with_reducible assumption) | ((with_reducible refine row_head _ _ _ _ ?_); (first | (with_reducible rfl) | (simp; done))) | (with_reducible refine RowAt.al ?_ _) | (with_reducible refine RowAt.dr ?_) | (with_reducible refine KeepR.row (by with_reducible assumption) ?_) | (with_reducible refine RowAt.below ?_ (by with_reducible assumption)))
                · (repeat' first | (with_reducible assumption) | ((with_reducible refine row_head _ _ _ _ ?_); (first | (with_reducible rfl) | (simp; done))) | (with_reducible refine RowAt.al ?_ _) | (with_reducible refine RowAt.dr ?_) | (with_reducible refine KeepR.row (by with_reducible assumption) ?_) | (with_reducible refine RowAt.below ?_ (by with_reducible assumption)))
                · (repeat' first | (with_reducible assumption) | ((with_reducible refine row_head _ _ _ _ ?_); (first | (with_reducible rfl) | (simp; done))) | (with_reducible refine RowAt.al ?_ _) | (with_reducible refine RowAt.dr ?_) | (with_reducible refine KeepR.row (by with_reducible assumption) ?_) | (with_reducible refine RowAt.below ?_ (by with_reducible assumption)))
                · (repeat' first | (with_reducible assumption) | ((with_reducible refine row_head _ _ _ _ ?_); (first | (with_reducible rfl) | (simp; done))) | (with_reducible refine RowAt.al ?_ _) | (with_reducible refine RowAt.dr ?_) | (with_reducible refine KeepR.row (by with_reducible assumption) ?_) | (with_reducible refine RowAt.below ?_ (by with_reducible assumption)))
                · (repeat' first | (with_reducible assumption) | ((with_reducible refine row_head _ _ _ _ ?_); (first | (with_reducible rfl) | (simp; done))) | (with_reducible refine RowAt.al ?_ _) | (with_reducible refine RowAt.dr ?_) | (with_reducible refine KeepR.row (by with_reducible assumption) ?_) | (with_reducible refine RowAt.below ?_ (by with_reducible assumption)))
                rintro e w' ⟨B5, cb5, rfl, own5, hb⟩
                go_wp2_with fail
                refine hK.out _ _ ?_ (fun hHeld => ?_)
                · (try dsimp only)
                  refine box_s NB2.out ?_
                  (repeat' first | (with_reducible assumption) | (with_reducible exact Below.refl _ _) | (with_reducible refine bel_dr ?_) | (with_reducible refine bel_al ?_ _) | (with_reducible refine bel_then ?_ (by with_reducible assumption)))
                clear hK K
                (try simp only [Act.put, List.setIfInBounds_toArray, List.set_cons_zero, List.set_cons_succ])
                refine wpAnyH_take (i := 16) (oi := { dst := some 4, op := Op.assign (Operand.tmp 23), type := 22, pos := "image.go:30", after := #[{ on := 15, ground := Ground.data }, { on := 15, ground := Ground.chain }, { on := 0, ground := Ground.phase }, { on := 1, ground := Ground.phase }, { on := 2, ground := Ground.phase }, { on := 3, ground := Ground.phase }, { on := 4, ground := Ground.phase }, { on := 5, ground := Ground.phase }, { on := 6, ground := Ground.phase }, { on := 7, ground := Ground.phase }, { on := 8, ground := Ground.phase }, { on := 9, ground := Ground.phase }, { on := 10, ground := Ground.phase }, { on := 11, ground := Ground.phase }, { on := 12, ground := Ground.phase }, { on := 13, ground := Ground.phase }, { on := 14, ground := Ground.phase }, { on := 15, ground := Ground.phase }], guard := none }) (v := ?_) rfl (by kernel_rfl) (by kernel_rfl) (by kernel_rfl) (fun _ _ _ h => h) (Or.inl ⟨by rfl, ?_⟩) (by assumption) ?_
                rotate_left
                · intro w hSw; (try dsimp only at hSw); go_simp <;> (with_reducible rfl)
                (try simp only [Act.put, List.setIfInBounds_toArray, List.set_cons_zero, List.set_cons_succ])
                refine wpAnyH_done (by kernel_rfl) ?_ _
                refine NoPanic.normal ?_
                have OW5 := Lib.hid (own5.mono (Below.size (show Below w2.heap.size w2 _ by (repeat' first | (with_reducible assumption) | (with_reducible exact Below.refl _ _) | (with_reducible refine bel_dr ?_) | (with_reducible refine bel_al ?_ _) | (with_reducible refine bel_then ?_ (by with_reducible assumption))))))
                have BL5 : Hid (Below w2.heap.size w2 w') := Lib.hid (by (repeat' first | (with_reducible assumption) | (with_reducible exact Below.refl _ _) | (with_reducible refine bel_dr ?_) | (with_reducible refine bel_al ?_ _) | (with_reducible refine bel_then ?_ (by with_reducible assumption))))
                clear own5
                go_wp2_with fail
                go_meet
                exact ⟨B5, cb5, rfl, OW5.out, BL5.out⟩
              exact AllReadyH.nil
            exact AllReadyH.nil
          exact AllReadyH.nil
        exact AllReadyH.nil
      exact AllReadyH.nil
    exact AllReadyH.nil
  case rest =>
    obtain ⟨A5, c5, rfl, o5, b5⟩ := hcut
    have OW5 := Lib.hid o5
    have HB5 := Lib.hid (HB2.out.trans (b5.mono HB2.out.size))
    have hbl : (bodyL C D).length = 8 + c + d := by rw [bodyL_len, hc, hd]
    have HBL := Lib.hid hbl
    have J2 := Lib.hid (fun (cb : Nat) (B : Option Addr) => joined_two A5 B (8 + c + d) 4 c5 cb (bodyL C D) (sumL (bodyL C D)) hbl rfl (by have := H1.out; have := H2.out; omega) (by decide))
    have E2 : Hid (8 + c + d + 4 = 12 + c + d) := Lib.hid (by omega)
    rw [E2.out] at J2
    clear o5 b5 rA2 rB2 kc kd hbl
    go_wp2_with fail
    refine (sum_bytes _ _ _ _ HBL.out _ OW5.out.row).mono ?_; rintro e w6 ⟨g6, c6, rfl, r6, hb6⟩
    have OW6 := Lib.hid (OW5.out.below hb6)
    have R6 := Lib.hid r6
    have HB6 := Lib.hid (bel_then HB5.out hb6)
    clear r6 hb6
    go_wp2_with fail
    refine (J2.out _ _ _ _ (HasB.newAt _ _ _ _ (by simp)) (OW6.out.row.al _) (R6.out.al _)).mono ?_; rintro e w7 ⟨A7, c7, rfl, o7, hb7⟩
    have OW7 := Lib.hid (o7.mono (Below.size (bel_al HB6.out _)))
    have HB7 := Lib.hid (bel_then (bel_al HB6.out _) hb7)
    clear o7 hb7
    go_wp2_with fail
    go_ret2
    exact ⟨A7, c7, rfl, OW7.out, HB7.out⟩
end Go.Proofs.Ytokibkemolmgcaa.Mm
