/- The example of parse; what the statements lean on. -/
import Derived.Test.YtkacplcilkogpaaGreatDoorQShwNode
import Derived.Test.YtkacplcilkogpaaGreatDoorQShB
import Derived.Test.YtkacplcilkogpaaGreatDoorQShA
namespace Go.Proofs.YtkacplcilkogpaaGreatDoor.Mm
open Go.ChangeShapes Go.WideShapes Go.ChangeAt Go.RowKit
set_option linter.unusedVariables false
set_option linter.unusedSimpArgs false
set_option maxRecDepth 10000

/-- a declaration's words -/
def decS (x : Dc) : List Bs := if x.2 = -1 then [[118, 97, 114], x.1, [59]] else [[97, 114, 114], x.1, [91], digB x.2.toNat, [93], [59]]
theorem w3_new (w : World) (a b c : Bs) : ∃ w1, w.alloc (.cells #[.string (strB a), .string (strB b), .string (strB c)] 9) = w1 ∧ Hid (HasB w1 w.heap.size 9 (([a, b, c] : List Bs).map fun t => .string (strB t))) ∧ Hid (Below w.heap.size w w1) := ⟨_, rfl, Lib.hid (HasB.new w _ _), Lib.hid (bel_al (Below.refl _ _) _)⟩
theorem w6_new (w : World) (a b c d e f : Bs) : ∃ w1, w.alloc (.cells #[.string (strB a), .string (strB b), .string (strB c), .string (strB d), .string (strB e), .string (strB f)] 9) = w1 ∧ Hid (HasB w1 w.heap.size 9 (([a, b, c, d, e, f] : List Bs).map fun t => .string (strB t))) ∧ Hid (Below w.heap.size w w1) := ⟨_, rfl, Lib.hid (HasB.new w _ _), Lib.hid (bel_al (Below.refl _ _) _)⟩
set_option maxHeartbeats 8000000 in
theorem decl_any {B g : Nat} {w : World} {nv : Value} {left : Nat} {l : Bs} (x : Dc) (h : ShT B g w nv left l) (hE : EnvV w) (hx : x.2 = -1 ∨ (0 ≤ x.2 ∧ x.2 ≤ 4294967295)) (ht : x.1.length ≤ 1000) (hl : l.length ≤ 90000000) :
    Calls Tryz.prog 13 #[.pointer (some ⟨g, 0, none⟩), .agg (dcC x).toArray] w fun e w' => e = .returned (.tuple #[]) ∧ ShT B g w' nv left (sayB l (decS x)) ∧ ShF g w w' := by
  obtain ⟨xt, xv⟩ := x
  simp only at hx ht
  have ltg := h.lt
  obtain ⟨w1, e1, N1, B1⟩ : ∃ w1, w.alloc (.cells #[.string (strB xt), .int .i64 xv] 54) = w1 ∧ HasB w1 w.heap.size 54 [.string (strB xt), .int .i64 xv] ∧ Hid (Below w.heap.size w w1) := ⟨_, rfl, HasB.new w _ _, Lib.hid (bel_al (Below.refl _ _) _)⟩
  have c0 := N1.cell 0
  have c1 := N1.cell 1
  simp only [List.getElem?_cons_zero, List.getElem?_cons_succ] at c0 c1
  have HN := Lib.hid N1
  have S1 := Lib.hid (h.bel B1.out)
  have E1 := Lib.hid (hE.below B1.out)
  have F1 := Lib.hid (ShF.of B1.out (Nat.le_of_lt ltg))
  clear h hE N1
  unfold dcC decS
  simp only
  by_cases hv : xv = -1
  · subst hv
    rw [if_pos rfl]
    obtain ⟨w2, e2, Q2, B2⟩ := w3_new w1 [118, 97, 114] xt [59]
    have hj := S1.out.lt
    have CS := Lib.hid (say_any (S1.out.bel B2.out) [[118, 97, 114], xt, [59]] 3 rfl Q2.out (by omega) (by rw [say_len]; simp; omega) (by simp))
    have s1 : strB [118, 97, 114] = ⟨#[118, 97, 114]⟩ := rfl
    have s2 : strB [59] = ⟨#[59]⟩ := rfl
    rw [s1, s2] at e2
    clear s1 s2
    go_enter Tryz.func13, Tryz.ntmps13
    go_wp2_with fail
    refine (CS.out).mono ?_; rintro e w3 ⟨rfl, S3, F3⟩
    have FIN := Lib.hid (And.intro S3 ((F1.out.trans (ShF.of B2.out (Nat.le_of_lt S1.out.lt))).trans F3))
    clear S3 F3 CS
    go_wp2
    first | (refine bodyPost_ret (results_none rfl _ _ _) rfl ?_; exact ⟨rfl, FIN.out⟩) | (go_end0; exact ⟨rfl, FIN.out⟩)
  · rw [if_neg hv]
    have hx2 : 0 ≤ xv ∧ xv ≤ 4294967295 := by omega
    obtain ⟨u, rfl⟩ : ∃ u : Nat, xv = u := ⟨xv.toNat, by omega⟩
    have hul : u ≤ 4294967295 := by omega
    have hdl := Lib.hid (dig_le u hul)
    rw [Int.toNat_natCast]
    have CI := Lib.hid (itoa_any u hul w1.drew (E1.out.below (below_drewP (Below.refl _ w1))))
    have KS := Lib.hid (fun (w' : World) (b : Below w1.heap.size w1 w') => (show (fun w' => w'.cell? ⟨w.heap.size, 0, none⟩ = some (.string (strB xt)) ∧ w'.cell? ⟨w.heap.size, 1, none⟩ = some (.int .i64 (u : Int))) w' from ⟨(HN.out.below b).cell 0, (HN.out.below b).cell 1⟩))
    have BR := Lib.hid (below_drewP (Below.refl w1.heap.size w1))
    go_enter Tryz.func13, Tryz.ntmps13
    go_wp2_with fail
    refine wp_region_noPanic ?_
    refine wp_region_held_drew (S := (fun w' => w'.cell? ⟨w.heap.size, 0, none⟩ = some (.string (strB xt)) ∧ w'.cell? ⟨w.heap.size, 1, none⟩ = some (.int .i64 (u : Int)))) (by kernel_rfl) ?_ (fun hHeld => ?_)
    · (try dsimp only)
      first | exact KS.out _ BR.out
    refine wpAnyH_take (i := 0) (oi := { dst := some 12, op := Op.move (Operand.tmp 0), type := 46, pos := "show.go:36", after := #[], guard := none }) (v := ?_) rfl (by kernel_rfl) (by kernel_rfl) (by kernel_rfl) (fun _ _ _ h => h) (Or.inl ⟨by rfl, ?_⟩) (by assumption) ?_
    rotate_left
    · intro w hSw; (try dsimp only at hSw); go_simp <;> (with_reducible rfl)
    (try simp only [Act.put, List.setIfInBounds_toArray, List.set_cons_zero, List.set_cons_succ])
    refine wpAnyH_take (i := 1) (oi := { dst := some 13, op := Op.fieldAddr 54 (Operand.tmp 3) 0, type := 0, pos := "show.go:36", after := #[], guard := none }) (v := ?_) rfl (by kernel_rfl) (by kernel_rfl) (by kernel_rfl) (fun _ _ _ h => h) (Or.inl ⟨by rfl, ?_⟩) (by assumption) ?_
    rotate_left
    · intro w hSw; (try dsimp only at hSw); go_simp <;> (with_reducible rfl)
    (try simp only [Act.put, List.setIfInBounds_toArray, List.set_cons_zero, List.set_cons_succ])
    refine wpAnyH_take (i := 2) (oi := { dst := some 14, op := Op.load 9 (Operand.tmp 13), type := 9, pos := "show.go:36", after := #[{ on := 1, ground := Ground.data }], guard := none }) (v := ?_) rfl (by kernel_rfl) (by kernel_rfl) (by kernel_rfl) (fun _ _ _ h => h) (Or.inl ⟨by rfl, ?_⟩) (by assumption) ?_
    rotate_left
    · intro w hSw; (try dsimp only at hSw); go_simp <;> (with_reducible rfl)
    (try simp only [Act.put, List.setIfInBounds_toArray, List.set_cons_zero, List.set_cons_succ])
    refine wpAnyH_take (i := 3) (oi := { dst := some 15, op := Op.fieldAddr 54 (Operand.tmp 3) 1, type := 0, pos := "show.go:36", after := #[], guard := none }) (v := ?_) rfl (by kernel_rfl) (by kernel_rfl) (by kernel_rfl) (fun _ _ _ h => h) (Or.inl ⟨by rfl, ?_⟩) (by assumption) ?_
    rotate_left
    · intro w hSw; (try dsimp only at hSw); go_simp <;> (with_reducible rfl)
    (try simp only [Act.put, List.setIfInBounds_toArray, List.set_cons_zero, List.set_cons_succ])
    refine wpAnyH_take (i := 4) (oi := { dst := some 16, op := Op.load 3 (Operand.tmp 15), type := 3, pos := "show.go:36", after := #[{ on := 3, ground := Ground.data }], guard := none }) (v := ?_) rfl (by kernel_rfl) (by kernel_rfl) (by kernel_rfl) (fun _ _ _ h => h) (Or.inl ⟨by rfl, ?_⟩) (by assumption) ?_
    rotate_left
    · intro w hSw; (try dsimp only at hSw); go_simp <;> (with_reducible rfl)
    (try simp only [Act.put, List.setIfInBounds_toArray, List.set_cons_zero, List.set_cons_succ])
    refine wpAnyH_ready (rs := [5]) (by kernel_rfl) (by simp) ?_
    refine AllReadyH.cons (o := { dst := some 17, op := Op.call { callee := Callee.value (Operand.func 23), args := #[Operand.tmp 16], argTypes := #[3] }, type := 9, pos := "show.go:36", after := #[{ on := 4, ground := Ground.data }], guard := none }) rfl (fun K hK => ?_) ?_
    · go_simp
      (with_reducible refine (CI.out).mono ?_); rintro e w3 ⟨rfl, b3⟩
      go_wp2_with fail
      have b13 := Lib.hid (BR.out.trans (b3.mono (Nat.le_refl _)))
      have S3 := Lib.hid (S1.out.bel b13.out)
      obtain ⟨w4, e4, Q4, B4⟩ := w6_new w3 [97, 114, 114] xt [91] (digB u) [93] [59]
      have hj := S3.out.lt
      have CS := Lib.hid (say_any (S3.out.bel B4.out) [[97, 114, 114], xt, [91], digB u, [93], [59]] 6 rfl Q4.out (by omega) (by have := hdl.out; rw [say_len]; simp; omega) (by simp))
      have s1 : strB [97, 114, 114] = ⟨#[97, 114, 114]⟩ := rfl
      have s2 : strB [91] = ⟨#[91]⟩ := rfl
      have s3 : strB [93] = ⟨#[93]⟩ := rfl
      have s4 : strB [59] = ⟨#[59]⟩ := rfl
      rw [s1, s2, s3, s4] at e4
      have b14 := Lib.hid (b13.out.trans (B4.out.mono b13.out.size))
      clear b3 s1 s2 s3 s4
      refine hK.out _ _ ?_ (fun hHeld => ?_)
      · (try dsimp only)
        exact KS.out _ b13.out
      clear hK K
      (try simp only [Act.put, List.setIfInBounds_toArray, List.set_cons_zero, List.set_cons_succ])
      refine wpAnyH_ready (rs := [6]) (by kernel_rfl) (by simp) ?_
      refine AllReadyH.cons (o := { dst := some 18, op := Op.buildSlice 69 6 #[(0, Operand.const (Value.string { data := #[97, 114, 114] })), (1, Operand.tmp 14), (2, Operand.const (Value.string { data := #[91] })), (3, Operand.tmp 17), (4, Operand.const (Value.string { data := #[93] })), (5, Operand.const (Value.string { data := #[59] }))], type := 69, pos := "show.go:36", after := #[{ on := 2, ground := Ground.data }, { on := 5, ground := Ground.data }], guard := none }) rfl (fun K hK => ?_) ?_
      · go_simp
        refine hK.out _ _ ?_ (fun hHeld => ?_)
        · (try dsimp only)
          exact KS.out _ b14.out
        clear hK K
        (try simp only [Act.put, List.setIfInBounds_toArray, List.set_cons_zero, List.set_cons_succ])
        refine wpAnyH_ready (rs := [7]) (by kernel_rfl) (by simp) ?_
        refine AllReadyH.cons (o := { dst := some 19, op := Op.call { callee := Callee.value (Operand.func 22), args := #[Operand.tmp 12, Operand.tmp 18], argTypes := #[46, 69] }, type := 0, pos := "show.go:36", after := #[{ on := 0, ground := Ground.data }, { on := 6, ground := Ground.data }, { on := 5, ground := Ground.chain }], guard := none }) rfl (fun K hK => ?_) ?_
        · go_simp
          (with_reducible refine (CS.out).mono ?_); rintro e w5 ⟨rfl, S5, F5⟩
          go_wp2_with fail
          have H5 := Lib.hid (F5.has _ _ _ (by decide) (by omega) (HN.out.below b14.out))
          have FIN := Lib.hid (And.intro S5 ((F1.out.trans (ShF.of b14.out (Nat.le_of_lt S1.out.lt))).trans F5))
          refine hK.out _ _ ?_ (fun hHeld => ?_)
          · (try dsimp only)
            exact ⟨H5.out.cell 0, H5.out.cell 1⟩
          clear hK K
          (try simp only [Act.put, List.setIfInBounds_toArray, List.set_cons_zero, List.set_cons_succ])
          refine wpAnyH_done (by kernel_rfl) ?_ _
          refine NoPanic.normal ?_
          go_wp2
          first | (refine bodyPost_ret (results_none rfl _ _ _) rfl ?_; exact ⟨rfl, FIN.out⟩) | (go_end0; exact ⟨rfl, FIN.out⟩)
        exact AllReadyH.nil
      exact AllReadyH.nil
    exact AllReadyH.nil
def dc0 : Dc := ([], 0)
theorem flatD_get (D : List Dc) : ∀ i, i < D.length → ∀ j, j < 2 → (D.flatMap dcC)[i * 2 + j]? = (dcC (D.getD i dc0))[j]? := by
  induction D with
  | nil => intro i h; simp at h
  | cons x r ih =>
    intro i hi j hj
    have hl : (dcC x).length = 2 := rfl
    simp only [List.flatMap_cons]
    cases i with
    | zero => rw [Nat.zero_mul, Nat.zero_add, List.getElem?_append_left (by omega)]; rfl
    | succ i =>
      rw [List.getElem?_append_right (by omega), hl, show (i + 1) * 2 + j - 2 = i * 2 + j by omega, ih i (by simpa using hi) j hj]
      rfl
/-- a tree whose nodes' lists are whosever they are -/
structure TreeW (w : World) (dv : Value) (D : List Dc) (nv : Value) (N : List (NdR × Value)) : Prop where
  decls : w.ownsRow 0 54 2 dv D.length (D.flatMap dcC)
  nodes : w.ownsRow 0 35 7 nv N.length (N.flatMap ndP)
  lists : ∀ p ∈ N, LsW w p
theorem TreeW.below {w w' : World} {dv nv : Value} {D : List Dc} {N : List (NdR × Value)} (t : TreeW w dv D nv N) (b : Below w.heap.size w w') : TreeW w' dv D nv N :=
  ⟨own_belowP t.decls b, own_belowP t.nodes b, fun p hp => (t.lists p hp).below b⟩
theorem treeW_of {w : World} {dv nv : Value} {D : List Dc} {N : List (NdR × Value)} (t : TreeAt w dv D nv N) : TreeW w dv D nv N := ⟨t.decls, t.nodes, fun p hp => lsW_of (t.lists p hp)⟩
theorem TreeW.decl {w : World} {dv nv : Value} {D : List Dc} {N : List (NdR × Value)} (t : TreeW w dv D nv N) {i : Nat} (hi : i < D.length) : ∃ x cap, dv = .slice (some x) D.length cap ∧ w.cell? (x.add (i * 2)) = some (.string (strB (D.getD i dc0).1)) ∧ w.cell? ⟨(x.add (i * 2)).block, (x.add (i * 2)).off + 1, none⟩ = some (.int .i64 (D.getD i dc0).2) := by
  have hc := t.decls
  rcases hc.2 with ⟨_, hz⟩ | ⟨b, cap, cur, rfl, _⟩
  · omega
  · refine ⟨⟨b, 0, none⟩, cap, rfl, ?_, ?_⟩
    · have := hc.cells (g := b) rfl (i * 2 + 0) (.string (strB (D.getD i dc0).1)) (by rw [flatD_get D i hi 0 (by omega)]; rfl)
      rw [addr0P] at this ⊢
      exact this
    · have := hc.cells (g := b) rfl (i * 2 + 1) (.int .i64 (D.getD i dc0).2) (by rw [flatD_get D i hi 1 (by omega)]; rfl)
      rw [addr0P] at this ⊢
      exact this
def showB (D : List Dc) (G : List NdR) (b : Int) : Bs := Lib.trimPrefix (nodeS G G.length b G.length true (1000, declS [] D)).2 [32]
theorem declS_snoc (l : Bs) (D : List Dc) (x : Dc) : declS l (D ++ [x]) = sayB (declS l D) (decS x) := by unfold declS decS; rw [List.foldl_append]; rfl
def DcOk (x : Dc) : Prop := (x.2 = -1 ∨ (0 ≤ x.2 ∧ x.2 ≤ 4294967295)) ∧ x.1.length ≤ 1000
theorem decS_len {x : Dc} (h : DcOk x) (l : Bs) : (sayB l (decS x)).length ≤ l.length + 1100 := by
  obtain ⟨xt, xv⟩ := x
  obtain ⟨h1, h2⟩ := h
  simp only at h1 h2
  unfold decS
  simp only
  split
  · rw [say_len]; simp; omega
  · have := dig_le xv.toNat (by omega)
    rw [say_len]; simp; omega
theorem declS_len : ∀ (D : List Dc) (l : Bs), (∀ x ∈ D, DcOk x) → (declS l D).length ≤ l.length + 1100 * D.length
  | [], l, _ => by simp [declS]
  | x :: r, l, h => by
    have h1 := decS_len (h x List.mem_cons_self) l
    have h2 := declS_len r (sayB l (decS x)) (fun y hy => h y (List.mem_cons_of_mem _ hy))
    have e : declS l (x :: r) = declS (sayB l (decS x)) r := rfl
    rw [e, List.length_cons]
    omega
theorem sh_new (w : World) (dv nv : Value) (b : Int) : ∃ w1 w2, w.alloc (.cells #[dv, nv, .int .i64 b] 26) = w1 ∧ w1.alloc (.cells #[nv, .int .i64 1000, .pointer none, .slice none 0 0] 52) = w2 ∧
    Hid (HasB w1 w.heap.size 26 [dv, nv, .int .i64 b]) ∧ Hid (HasB w2 w.heap.size 26 [dv, nv, .int .i64 b]) ∧ Hid (ShT (w1.heap.size + 1) w1.heap.size w2 nv 1000 []) ∧ Hid (Below w.heap.size w w2) ∧ w.heap.size < w1.heap.size := by
  have h1 := HasB.new w 26 [dv, nv, .int .i64 b]
  have b1 := bel_al (Below.refl _ w) (.cells #[dv, nv, .int .i64 b] 26)
  have hs : w.heap.size < (w.alloc (.cells #[dv, nv, .int .i64 b] 26)).heap.size := by simp
  generalize w.alloc (.cells #[dv, nv, .int .i64 b] 26) = w1 at *
  have h2 := HasB.new w1 52 [nv, .int .i64 1000, .pointer none, .slice none 0 0]
  have b2 := bel_al (Below.refl _ w1) (.cells #[nv, .int .i64 1000, .pointer none, .slice none 0 0] 52)
  have hs2 : w1.heap.size + 1 ≤ (w1.alloc (.cells #[nv, .int .i64 1000, .pointer none, .slice none 0 0] 52)).heap.size := by simp
  exact ⟨w1, _, rfl, rfl, Lib.hid h1, Lib.hid (h1.below b2), Lib.hid ⟨_, _, by omega, hs2, h2, .inl rfl, World.ownsRow_nil _ _ _ _⟩, Lib.hid (bel_then b1 b2), hs⟩
theorem dl_st (w : World) (c0 c1 : Value) : ∃ wa w', w.alloc (.cells #[.string ⟨#[]⟩, .int .i64 0] 54) = wa ∧ (wa.setCell ⟨w.heap.size, 0, none⟩ c0).setCell ⟨w.heap.size, 1, none⟩ c1 = w' ∧
    Hid (HasB wa w.heap.size 54 [.string ⟨#[]⟩, .int .i64 0]) ∧ Hid (HasB w' w.heap.size 54 [c0, c1]) ∧ Hid (Below w.heap.size w w') :=
  ⟨_, _, rfl, rfl, Lib.hid (HasB.new w _ _), Lib.hid (has_set (has_set (HasB.new w _ _) 0 c0) 1 c1), Lib.hid (((bel_al (Below.refl _ _) _).setCell (p := ⟨w.heap.size, 0, none⟩) (Nat.le_refl _) c0).setCell (p := ⟨w.heap.size, 1, none⟩) (Nat.le_refl _) c1)⟩
set_option maxHeartbeats 16000000 in
theorem show_anyW {w : World} {dv nv : Value} {D : List Dc} {N : List (NdR × Value)} (b : Int) (M : Nat) (T : TreeW w dv D nv N) (hE : EnvV w) (hM : FewN M (N.map Prod.fst)) (hK : KM M * 1000 ≤ 80000000) (hN : N.length ≤ 100000) (hD : D.length ≤ 5000) (hd : ∀ x ∈ D, DcOk x) :
    Calls Tryz.prog 10 #[treeV dv nv b] w fun e w' => e = .returned (.string (strB (showB D (N.map Prod.fst) b))) ∧ Below w.heap.size w w' := by
  obtain ⟨A, ca, rfl⟩ := sl_form T.decls
  obtain ⟨AN, cb, rfl⟩ := sl_form T.nodes
  have hmN : (N.map Prod.fst).length = N.length := by simp
  have hShow : Hid (showB D (N.map Prod.fst) b = Lib.trimPrefix (nodeS (N.map Prod.fst) N.length b N.length true (1000, declS [] D)).2 [32]) := Lib.hid (by unfold showB; rw [hmN])
  rw [hShow.out]
  clear hShow hmN
  obtain ⟨RES, hRES⟩ : ∃ RES, Hid (strB (Lib.trimPrefix (nodeS (N.map Prod.fst) N.length b N.length true (1000, declS [] D)).2 [32]) = RES) := ⟨_, Lib.hid rfl⟩
  rw [hRES.out]
  obtain ⟨w1, w2, e1, e2, H1, H2, S2, B2, hsz⟩ := sh_new w (.slice A D.length ca) (.slice AN N.length cb) b
  have c1 := H1.out.cell 1
  have d0 := H2.out.cell 0
  simp only [List.getElem?_cons_zero, List.getElem?_cons_succ] at c1 d0
  have HT := Lib.hid T
  have HE := Lib.hid hE
  have ND := Lib.hid (nod_any (B := w1.heap.size + 1) (g := w1.heap.size) (nv := .slice AN N.length cb) hM hN N.length)
  have LB := Lib.hid (fun i => declS_len (D.take i) [] (fun x hx => hd x (List.mem_of_mem_take hx)))
  have HD := Lib.hid hd
  have HW := Lib.hid (fun (wz : World) (F : ShF w1.heap.size w2 wz) => (B2.out.trans (F.below.mono (Nat.le_of_lt hsz)) : Below w.heap.size w wz))
  have hg1 : w1.heap.size < w2.heap.size := S2.out.lt
  clear T hE hd hM
  unfold treeV
  go_enter Tryz.func10, Tryz.ntmps10
  go_wp2
  go_loopw [13] (fun v wz => ∃ i : Nat, v = .int .i64 i ∧ i ≤ D.length ∧ Hid (ShT (w1.heap.size + 1) w1.heap.size wz (.slice AN N.length cb) 1000 (declS [] (D.take i))) ∧ Hid (ShF w1.heap.size w2 wz)) (fun v _ => D.length - (intOf v).toNat)
  case atStart => exact ⟨0, rfl, Nat.zero_le _, Lib.hid S2.out, Lib.hid (ShF.refl _ _)⟩
  case round =>
    obtain ⟨i, rfl, hi, GS, GF⟩ := hrel
    rcases Nat.lt_or_ge i D.length with hil | hig
    · have hiz : (i : Int) < (D.length : Int) := by omega
      have hBz := Lib.hid (HW.out _ GF.out)
      obtain ⟨x, cap2, hx2, k0, k1⟩ := (HT.out.below hBz.out).decl hil
      injection hx2 with hA2 _ hcp2
      subst hcp2
      subst hA2
      have htk : D.take (i + 1) = D.take i ++ [D.getD i dc0] := by rw [List.take_add_one]; simp [List.getD, hil]
      have hok : DcOk (D.getD i dc0) := HD.out _ (by simp [List.getD, hil])
      have hnx : Hid (declS [] (D.take (i + 1)) = sayB (declS [] (D.take i)) (decS (D.getD i dc0))) := Lib.hid (by rw [htk, declS_snoc])
      have hlb := LB.out i
      have htl : (D.take i).length ≤ 5000 := by rw [List.length_take]; omega
      generalize D.getD i dc0 = y at *
      obtain ⟨yt, yv⟩ := y
      simp only at k0 k1
      have hgz := GS.out.lt
      obtain ⟨wa, w4, ea, e4, Z4, H4, B4⟩ := dl_st wr (.string (strB yt)) (.int .i64 yv)
      have z0 := Z4.out.cell 0
      have z1 := Z4.out.cell 1
      have y0 := Z4.out.frozen 0
      have y1 := Z4.out.frozen 1
      have n0 := H4.out.cell 0
      have n1 := H4.out.cell 1
      simp only [List.getElem?_cons_zero, List.getElem?_cons_succ] at z0 z1 n0 n1
      have CD := Lib.hid (decl_any (yt, yv) (GS.out.bel B4.out) ((HE.out.below hBz.out).below B4.out) hok.1 hok.2 (by simp only [List.length_nil] at hlb; omega))
      simp only [dcC] at CD
      clear htk hok hlb htl
      go_wp2_with fail
      refine (CD.out).mono ?_; rintro e w5 ⟨rfl, S5, F5⟩
      have FIN := Lib.hid (And.intro (show ShT (w1.heap.size + 1) w1.heap.size w5 (.slice AN N.length cb) 1000 (declS [] (D.take (i + 1))) by rw [hnx.out]; exact S5) ((GF.out.trans (ShF.of B4.out (Nat.le_of_lt hgz))).trans F5))
      clear S5 F5 CD
      go_wp2
      first | exact ⟨⟨i + 1, by simp, by omega, Lib.hid FIN.out.1, Lib.hid FIN.out.2⟩, by first | (simp only [intOf]; omega) | (simp [intOf]; omega)⟩ | exact ⟨_, ⟨⟨i + 1, by simp, by omega, Lib.hid FIN.out.1, Lib.hid FIN.out.2⟩, by first | (simp only [intOf]; omega) | (simp [intOf]; omega)⟩⟩
    · obtain rfl : i = D.length := by omega
      have hBz := Lib.hid (HW.out _ GF.out)
      have hlb := LB.out D.length
      rw [List.take_length] at hlb GS
      have HTz := Lib.hid (GF.out.has _ _ _ (by decide) (by omega) H2.out)
      have d1 := HTz.out.cell 1
      have d2 := HTz.out.cell 2
      simp only [List.getElem?_cons_zero, List.getElem?_cons_succ] at d1 d2
      have CN := Lib.hid (ND.out b N.length true 1000 (declS [] D) wr GS.out ⟨w, Nat.le_of_lt hsz, HE.out, HT.out.nodes, HT.out.lists, hBz.out⟩ (Nat.le_refl _) (Nat.le_refl _) (Nat.le_refl _) (by simp only [List.length_nil] at hlb; omega))
      simp only [fvN, if_true] at CN
      clear hlb
      generalize nodeS (N.map Prod.fst) N.length b N.length true (1000, declS [] D) = R at *
      go_wp2_with fail
      refine (CN.out).mono ?_; rintro e w6 ⟨rfl, S6, F6⟩
      have CS := Lib.hid (str_any S6)
      have hb6 := Lib.hid (HW.out _ (GF.out.trans F6))
      clear S6 F6 CN
      go_wp2_with fail
      refine (CS.out).mono ?_; rintro e w7 ⟨rfl, b7⟩
      have hb7 := Lib.hid (hb6.out.trans (b7.mono (Nat.le_of_lt hsz)))
      have CT := Lib.hid (trim_any (strB R.2) w7)
      have e9 : (strB R.2).data.toList = R.2 := by simp [strB]
      rw [e9, hRES.out] at CT
      clear b7 CS e9
      go_wp2_with fail
      refine (CT.out).mono ?_; rintro e w8 ⟨rfl, rfl⟩
      clear CT
      go_wp2
      first | (go_ret; exact ⟨rfl, hb7.out⟩) | (refine ⟨rfl, _, results_tmp rfl _ _ _, ?_⟩; exact ⟨rfl, hb7.out⟩) | exact ⟨rfl, _, results_tmp rfl _ _ _, hb7.out⟩
theorem show_any {w : World} {dv nv : Value} {D : List Dc} {N : List (NdR × Value)} (b : Int) (M : Nat) (T : TreeAt w dv D nv N) (hE : EnvV w) (hM : FewN M (N.map Prod.fst)) (hK : KM M * 1000 ≤ 80000000) (hN : N.length ≤ 100000) (hD : D.length ≤ 5000) (hd : ∀ x ∈ D, DcOk x) :
    Calls Tryz.prog 10 #[treeV dv nv b] w fun e w' => e = .returned (.string (strB (showB D (N.map Prod.fst) b))) ∧ Below w.heap.size w w' :=
  show_anyW b M (treeW_of T) hE hM hK hN hD hd
theorem declS_gap : ∀ (D : List Dc) (l : Bs), declS l D = l ++ gapsL [32] (shD D)
  | [], l => by simp [declS, shD, gapsL]
  | x :: r, l => by
    have e : declS l (x :: r) = declS (sayB l (decS x)) r := rfl
    rw [e, declS_gap r, shD_cons, gaps_app, ← List.append_assoc]
    congr 1
    unfold decS sayB
    split <;> simp [gapsL, kyW, nmW, sgW, nbW]
theorem trim_gap (ws : List Pc) : Lib.trimPrefix (gapsL [32] ws) [32] = txtW ws := by
  cases ws with
  | nil => rfl
  | cons p r =>
    rw [gaps_cons]
    simp [Lib.trimPrefix, Lib.hasPrefix]
def Fw (m : Nat) (r : NdR) : Prop := r.t.length ≤ 10 ∧ r.l.length ≤ m ∧ 0 ≤ r.v ∧ r.v ≤ 4294967295
theorem Fw.mono {m m' : Nat} {r : NdR} (h : Fw m r) (hm : m ≤ m') : Fw m' r := ⟨h.1, Nat.le_trans h.2.1 hm, h.2.2⟩
theorem lst_len : ∀ (b : Nd) (n : Nat), okN 3 b → (lst n b).length + 1 ≤ cnt b := by
  intro b
  induction b with
  | nil => intro n h; simp [lst, cnt]
  | snoc b s ihb ihs =>
    intro n h
    have := ihb n h.1
    have := cnt_pos s
    have hc : cnt (b.snoc s) = cnt b + cnt s := rfl
    simp only [lst, List.length_append, List.length_cons, List.length_nil]
    omega
  | _ => intro n h; exact h.elim
theorem few_blk {n : Nat} {b : Nd} (h : okN 3 b) : Fw (cnt b) ⟨13, -1, -1, -1, [], 0, lst n b⟩ := ⟨by simp, by have := lst_len b n h; simp only; omega, by simp, by simp⟩
theorem few_fl : ∀ (x : Nd) (n : Nat), (okN 1 x ∨ okN 2 x ∨ okN 3 x) → ∀ r ∈ fl n x, Fw (cnt x) r := by
  intro x
  induction x with
  | num v =>
    intro n h r hr
    have h : 0 ≤ v ∧ v ≤ 4294967295 := by rcases h with h | h | h <;> first | exact h | exact h.elim
    obtain rfl := List.mem_singleton.1 hr
    exact ⟨by simp, by simp, h.1, h.2⟩
  | var t =>
    intro n h r hr
    have h : WordOk (110, t, 0) := by rcases h with h | h | h <;> first | exact h | exact h.elim
    obtain rfl := List.mem_singleton.1 hr
    exact ⟨h.top, by simp, by simp, by simp⟩
  | inp =>
    intro n h r hr
    obtain rfl := List.mem_singleton.1 hr
    exact ⟨by simp, by simp, by simp, by simp⟩
  | nil => intro n h r hr; cases hr
  | get t a iha =>
    intro n h r hr
    have h : WordOk (110, t, 0) ∧ okN 1 a := by rcases h with h | h | h <;> first | exact h | exact h.elim
    rcases List.mem_append.1 hr with hr | hr
    · exact (iha n (.inl h.2) r hr).mono (by simp only [cnt] <;> omega)
    · obtain rfl := List.mem_singleton.1 hr
      exact ⟨h.1.top, by simp, by simp, by simp⟩
  | neg a iha =>
    intro n h r hr
    have h : okN 1 a := by rcases h with h | h | h <;> first | exact h | exact h.elim
    rcases List.mem_append.1 hr with hr | hr
    · exact (iha n (.inl h) r hr).mono (by simp only [cnt] <;> omega)
    · obtain rfl := List.mem_singleton.1 hr
      exact ⟨by simp, by simp, by simp, by simp⟩
  | set t a iha =>
    intro n h r hr
    have h : WordOk (110, t, 0) ∧ okN 1 a := by rcases h with h | h | h <;> first | exact h | exact h.elim
    rcases List.mem_append.1 hr with hr | hr
    · exact (iha n (.inl h.2) r hr).mono (by simp only [cnt] <;> omega)
    · obtain rfl := List.mem_singleton.1 hr
      exact ⟨h.1.top, by simp, by simp, by simp⟩
  | out a iha =>
    intro n h r hr
    have h : okN 1 a := by rcases h with h | h | h <;> first | exact h | exact h.elim
    rcases List.mem_append.1 hr with hr | hr
    · exact (iha n (.inl h) r hr).mono (by simp only [cnt] <;> omega)
    · obtain rfl := List.mem_singleton.1 hr
      exact ⟨by simp, by simp, by simp, by simp⟩
  | exi a iha =>
    intro n h r hr
    have h : okN 1 a := by rcases h with h | h | h <;> first | exact h | exact h.elim
    rcases List.mem_append.1 hr with hr | hr
    · exact (iha n (.inl h) r hr).mono (by simp only [cnt] <;> omega)
    · obtain rfl := List.mem_singleton.1 hr
      exact ⟨by simp, by simp, by simp, by simp⟩
  | bin o a b iha ihb =>
    intro n h r hr
    have h : (o = 3 ∨ o = 4 ∨ o = 5 ∨ o = 6 ∨ o = 7 ∨ o = 13 ∨ o = 14) ∧ okN 1 a ∧ okN 1 b := by rcases h with h | h | h <;> first | exact h | exact h.elim
    rcases List.mem_append.1 hr with hr | hr
    · rcases List.mem_append.1 hr with hr | hr
      · exact (iha n (.inl h.2.1) r hr).mono (by simp only [cnt] <;> omega)
      · exact (ihb (n + cnt a) (.inl h.2.2) r hr).mono (by simp only [cnt] <;> omega)
    · obtain rfl := List.mem_singleton.1 hr
      exact ⟨by simp, by simp, by have := h.1; simp only; omega, by have := h.1; simp only; omega⟩
  | put t a b iha ihb =>
    intro n h r hr
    have h : WordOk (110, t, 0) ∧ okN 1 a ∧ okN 1 b := by rcases h with h | h | h <;> first | exact h | exact h.elim
    rcases List.mem_append.1 hr with hr | hr
    · rcases List.mem_append.1 hr with hr | hr
      · exact (iha n (.inl h.2.1) r hr).mono (by simp only [cnt] <;> omega)
      · exact (ihb (n + cnt a) (.inl h.2.2) r hr).mono (by simp only [cnt] <;> omega)
    · obtain rfl := List.mem_singleton.1 hr
      exact ⟨h.1.top, by simp, by simp, by simp⟩
  | ife a b iha ihb =>
    intro n h r hr
    have h : okN 1 a ∧ okN 3 b := by rcases h with h | h | h <;> first | exact h | exact h.elim
    rcases List.mem_append.1 hr with hr | hr
    · rcases List.mem_append.1 hr with hr | hr
      · exact (iha n (.inl h.1) r hr).mono (by simp only [cnt] <;> omega)
      · rcases List.mem_append.1 hr with hr | hr
        · exact (ihb (n + cnt a) (.inr (.inr h.2)) r hr).mono (by simp only [cnt] <;> omega)
        · obtain rfl := List.mem_singleton.1 hr
          exact (few_blk h.2).mono (by simp only [cnt] <;> omega)
    · obtain rfl := List.mem_singleton.1 hr
      exact ⟨by simp, by simp, by simp, by simp⟩
  | whi a b iha ihb =>
    intro n h r hr
    have h : okN 1 a ∧ okN 3 b := by rcases h with h | h | h <;> first | exact h | exact h.elim
    rcases List.mem_append.1 hr with hr | hr
    · rcases List.mem_append.1 hr with hr | hr
      · exact (iha n (.inl h.1) r hr).mono (by simp only [cnt] <;> omega)
      · rcases List.mem_append.1 hr with hr | hr
        · exact (ihb (n + cnt a) (.inr (.inr h.2)) r hr).mono (by simp only [cnt] <;> omega)
        · obtain rfl := List.mem_singleton.1 hr
          exact (few_blk h.2).mono (by simp only [cnt] <;> omega)
    · obtain rfl := List.mem_singleton.1 hr
      exact ⟨by simp, by simp, by simp, by simp⟩
  | ifel a b c iha ihb ihc =>
    intro n h r hr
    have h : okN 1 a ∧ okN 3 b ∧ okN 3 c := by rcases h with h | h | h <;> first | exact h | exact h.elim
    rcases List.mem_append.1 hr with hr | hr
    · rcases List.mem_append.1 hr with hr | hr
      · rcases List.mem_append.1 hr with hr | hr
        · exact (iha n (.inl h.1) r hr).mono (by simp only [cnt] <;> omega)
        · rcases List.mem_append.1 hr with hr | hr
          · exact (ihb (n + cnt a) (.inr (.inr h.2.1)) r hr).mono (by simp only [cnt] <;> omega)
          · obtain rfl := List.mem_singleton.1 hr
            exact (few_blk h.2.1).mono (by simp only [cnt] <;> omega)
      · rcases List.mem_append.1 hr with hr | hr
        · exact (ihc (n + cnt a + cnt b) (.inr (.inr h.2.2)) r hr).mono (by simp only [cnt] <;> omega)
        · obtain rfl := List.mem_singleton.1 hr
          exact (few_blk h.2.2).mono (by simp only [cnt] <;> omega)
    · obtain rfl := List.mem_singleton.1 hr
      exact ⟨by simp, by simp, by simp, by simp⟩
  | snoc b s ihb ihs =>
    intro n h r hr
    have h : okN 3 b ∧ okN 2 s := by rcases h with h | h | h <;> first | exact h | exact h.elim
    rcases List.mem_append.1 hr with hr | hr
    · exact (ihb n (.inr (.inr h.1)) r hr).mono (by simp only [cnt] <;> omega)
    · exact (ihs (n + (cnt b - 1)) (.inr (.inl h.2)) r hr).mono (by simp only [cnt] <;> omega)
theorem few_flB {b : Nd} (h : okN 3 b) (hc : cnt b ≤ 1000) : FewN 1000 (flB 0 b) := by
  intro r hr
  have key : Fw (cnt b) r := by
    rcases List.mem_append.1 hr with hr | hr
    · exact few_fl b 0 (.inr (.inr h)) r hr
    · obtain rfl := List.mem_singleton.1 hr
      exact few_blk h
  exact ⟨by have := key.1; omega, by have := key.2.1; omega, key.2.2⟩
theorem KM_1000 : KM 1000 * 1000 ≤ 80000000 := by decide
/-- what is shown of a program -/
theorem showB_P {D : List Dc} {b : Nd} (hb : okN 3 b) (hc : cnt b ≤ 1000) : showB D (flB 0 b) (rt 0 b) = txtW (shP D b) := by
  unfold showB
  have hl := flB_len 0 hb
  have e := show_flB hb (1000, declS [] D) hc
  rw [hl] at e ⊢
  rw [e, declS_gap, List.nil_append]
  simp only
  rw [← gaps_app]
  exact trim_gap _
theorem dc_len : ∀ (n : Nat) (ws : List Pc), ws.length ≤ n → ∀ (D D' : List Dc) (r : List Pc), dcE D ws = .ok (D', r) → D'.length + r.length ≤ D.length + ws.length := by
  intro n
  induction n with
  | zero =>
    intro ws hn D D' r h
    obtain rfl : ws = [] := List.eq_nil_of_length_eq_zero (by omega)
    rw [dcE_no ⟨rfl, rfl⟩] at h
    injection h with h; injection h with h1 h2
    subst h1 h2
    simp
  | succ n ih =>
    intro ws hn D D' r h
    rw [dcE_eq] at h
    split at h
    · obtain ⟨p1, r1, e1, h1, h2⟩ := nmP_ok h
      obtain ⟨p2, r2, rfl, h3, h4⟩ := must_ok h2
      have e := congrArg List.length e1
      rw [List.length_tail] at e
      simp only [List.length_cons] at e
      have := ih r2 (by omega) _ _ _ h4
      simp only [List.length_append, List.length_cons, List.length_nil] at this
      omega
    · split at h
      · obtain ⟨p1, r1, e1, h1, h2⟩ := nmP_ok h
        obtain ⟨p2, r2, rfl, h3, h4⟩ := must_ok h2
        obtain ⟨p3, r3, rfl, h5, h6⟩ := nbP_ok h4
        obtain ⟨p4, r4, rfl, h7, h8⟩ := must_ok h6
        obtain ⟨p5, r5, rfl, h9, h10⟩ := must_ok h8
        have e := congrArg List.length e1
        rw [List.length_tail] at e
        simp only [List.length_cons] at e
        have := ih r5 (by omega) _ _ _ h10
        simp only [List.length_append, List.length_cons, List.length_nil] at this
        omega
      · injection h with h; injection h with h1 h2
        subst h1 h2
        omega
/-- what has been read -/
structure Good (ws : List Pc) (D : List Dc) (b : Nd) (d : Nat) : Prop where
  words : ∀ p ∈ ws, WordOk p
  prg : prg ws = .ok (D, b, d)
  okD : okD D
  okB : okN 3 b
  small : bigD D = false
  deep : d ≤ 100
  few : cnt b ≤ 1000
  dfew : D.length ≤ 4000
theorem parE_ok {l : Bs} {D : List Dc} {b : Nd} (h : parE l = .ok (D, b)) : ∃ ws d, readE l = .ok ws ∧ readL l = .ok ws ∧ Good ws D b d := by
  unfold parE at h
  cases hr : readE l with
  | error y => rw [hr] at h; cases h
  | ok ws =>
    rw [hr] at h
    simp only at h
    cases hp : Mm.prg ws with
    | error k => rw [hp] at h; cases h
    | ok y =>
      obtain ⟨D', b', d⟩ := y
      rw [hp] at h
      simp only at h
      split at h
      · cases h
      · rename_i hb
        injection h with h; injection h with h1 h2
        subst h1 h2
        have hl := readL_few hr
        have hrl : readL l = .ok ws := by
          unfold readE at hr
          split at hr
          · cases hr
          · cases hx : readL l with
            | error k => rw [hx] at hr; cases hr
            | ok ps => rw [hx] at hr; injection hr with hr; rw [hr]
        have hw := read_words hrl
        obtain ⟨k1, k2⟩ := prg_kd hw hp
        simp only [bigP, Bool.or_eq_true, decide_eq_true_eq, not_or, Bool.not_eq_true] at hb
        obtain ⟨r, h1, h2⟩ := prg_ok hp
        have hd := dc_len _ ws (Nat.le_refl _) _ _ _ h1
        simp only [List.length_nil] at hd
        exact ⟨ws, d, rfl, hrl, hw, hp, k1, k2, hb.1.1, by omega, by omega, by omega⟩
theorem Good.dc {ws : List Pc} {D : List Dc} {b : Nd} {d : Nat} (g : Good ws D b d) : ∀ x ∈ D, DcOk x := fun x hx => ⟨(g.okD x hx).2, by have h1 := (g.okD x hx).1.top; have h2 : x.1.length ≤ 10 := h1; omega⟩
/-- Show of what has been read -/
theorem show_P {w : World} {dv nv : Value} {D : List Dc} {N : List (NdR × Value)} {b : Nd} {ws : List Pc} {d : Nat} (g : Good ws D b d) (T : TreeAt w dv D nv N) (hE : EnvV w) (hN : N.map Prod.fst = flB 0 b) (hc : N.length = cnt b) :
    Calls Tryz.prog 10 #[treeV dv nv (rt 0 b)] w fun e w' => e = .returned (.string (strB (txtW (shP D b)))) ∧ Below w.heap.size w w' := by
  have h := show_any (rt 0 b) 1000 T hE (by rw [hN]; exact few_flB g.okB g.few) KM_1000 (by have := g.few; omega) (by have := g.dfew; omega) g.dc
  rw [hN, showB_P g.okB g.few] at h
  exact h
def EnvP (w : World) : Prop := ErrV w ∧ EnvV w
theorem EnvP.below {w w' : World} (h : EnvP w) (b : Below w.heap.size w w') : EnvP w' := ⟨h.1.below b, h.2.below b⟩
def exL : Bs := [118, 97, 114, 32, 97, 59, 32, 97, 32, 61, 32, 49, 32, 43, 32, 50, 32, 42, 32, 51, 59]
def exD : List Dc := [([97], -1)]
def exN : Nd := .snoc .nil (.set [97] (.bin 3 (.num 1) (.bin 5 (.num 2) (.num 3))))
theorem ex_par : parE exL = .ok (exD, exN) := by kernel_rfl
theorem ex_txt : txtW (shP exD exN) = [118, 97, 114, 32, 97, 32, 59, 32, 97, 32, 61, 32, 40, 32, 49, 32, 43, 32, 40, 32, 50, 32, 42, 32, 51, 32, 41, 32, 41, 32, 59] := by kernel_rfl
theorem tl_st (w : World) (c0 c1 c2 : Value) : ∃ wa w', w.alloc (.cells #[.slice none 0 0, .slice none 0 0, .int .i64 0] 26) = wa ∧ ((wa.setCell ⟨w.heap.size, 0, none⟩ c0).setCell ⟨w.heap.size, 1, none⟩ c1).setCell ⟨w.heap.size, 2, none⟩ c2 = w' ∧
    Hid (HasB wa w.heap.size 26 [.slice none 0 0, .slice none 0 0, .int .i64 0]) ∧ Hid (HasB w' w.heap.size 26 [c0, c1, c2]) ∧ Hid (Below w.heap.size w w') :=
  ⟨_, _, rfl, rfl, Lib.hid (HasB.new w _ _), Lib.hid (has_set (has_set (has_set (HasB.new w _ _) 0 c0) 1 c1) 2 c2), Lib.hid ((((bel_al (Below.refl _ _) _).setCell (p := ⟨w.heap.size, 0, none⟩) (Nat.le_refl _) c0).setCell (p := ⟨w.heap.size, 1, none⟩) (Nat.le_refl _) c1).setCell (p := ⟨w.heap.size, 2, none⟩) (Nat.le_refl _) c2)⟩
set_option maxHeartbeats 4000000 in
theorem awake_any (w : World) (hE : EnvP w) : Calls Tryz.prog 8 #[] w fun e w' => e = .returned (.bool true) ∧ Below w.heap.size w w' := by
  have C := parse_any ⟨#[118, 97, 114, 32, 97, 59, 32, 97, 32, 61, 32, 49, 32, 43, 32, 50, 32, 42, 32, 51, 59]⟩ (by decide) w hE.1 hE.2.sg
  obtain ⟨ws, d, _, _, G⟩ := parE_ok ex_par
  have HG := Lib.hid G
  unfold ParP at C
  rw [show (⟨#[118, 97, 114, 32, 97, 59, 32, 97, 32, 61, 32, 49, 32, 43, 32, 50, 32, 42, 32, 51, 59]⟩ : ByteArray).data.toList = exL from rfl, ex_par] at C
  simp only at C
  replace C := Lib.hid C
  have HE := Lib.hid hE
  clear hE G
  go_enter Tryz.func8, Tryz.ntmps8
  go_wp2_with fail
  refine C.out.mono ?_; rintro e w1 ⟨A, B, ca, cb, N, rfl, T, hN, hc, hb⟩
  have HT := Lib.hid T
  have B1 := Lib.hid hb
  have hND := Lib.hid hN
  have hNC := Lib.hid hc
  obtain ⟨wa, w2, ea, e2, HZ, H2, B2⟩ := tl_st w1 (.slice A exD.length ca) (.slice B N.length cb) (.int .i64 (rt 0 exN))
  have z0 := HZ.out.cell 0
  have z1 := HZ.out.cell 1
  have z2 := HZ.out.cell 2
  have y0 := HZ.out.frozen 0
  have y1 := HZ.out.frozen 1
  have y2 := HZ.out.frozen 2
  have n0 := H2.out.cell 0
  have n1 := H2.out.cell 1
  have n2 := H2.out.cell 2
  simp only [List.getElem?_cons_zero, List.getElem?_cons_succ] at z0 z1 z2 n0 n1 n2
  have B12 := Lib.hid (bel_then B1.out B2.out)
  have CS := Lib.hid (show_P HG.out (HT.out.below B2.out) ((HE.out.below B1.out).below B2.out).2 hND.out hNC.out)
  rw [ex_txt, show strB [118, 97, 114, 32, 97, 32, 59, 32, 97, 32, 61, 32, 40, 32, 49, 32, 43, 32, 40, 32, 50, 32, 42, 32, 51, 32, 41, 32, 41, 32, 59] = ⟨#[118, 97, 114, 32, 97, 32, 59, 32, 97, 32, 61, 32, 40, 32, 49, 32, 43, 32, 40, 32, 50, 32, 42, 32, 51, 32, 41, 32, 41, 32, 59]⟩ from rfl] at CS
  clear T hb hN hc C
  unfold treeV at *
  go_wp2_with fail
  refine (CS.out).mono ?_; rintro e w3 ⟨rfl, hb3⟩
  have B3 := Lib.hid (bel_then B12.out hb3)
  clear hb3 CS
  go_wp2
  go_ret
  exact ⟨by rfl, B3.out⟩
end Go.Proofs.YtkacplcilkogpaaGreatDoor.Mm
