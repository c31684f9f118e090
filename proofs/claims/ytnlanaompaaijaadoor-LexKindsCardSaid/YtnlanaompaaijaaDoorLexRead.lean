/- Words of a text: the program's Read. -/
import Derived.Test.YtnlanaompaaijaaDoorLexWord
import Derived.Test.YtnlanaompaaijaaDoorJumps
import Derived.WalkMore
namespace Go.Proofs.YtnlanaompaaijaaDoor.Mm
open Go.ChangeShapes Go.WideShapes Go.ChangeAt Go.RowKit
set_option linter.unusedVariables false

def accE (L : List Pc) (k : Nat) (r : Except Nat (List Pc)) : Except Nat (List Pc) := match r with | .ok ps => .ok (L ++ ps) | .error j => .error (k + j)
theorem acc_gap (L : List Pc) (k : Nat) (r : Except Nat (List Pc)) : accE L k (shE 1 r) = accE L (k + 1) r := by cases r <;> simp [accE, shE, Nat.add_assoc]
theorem acc_word (L : List Pc) (k : Nat) (p : Pc) (r : Except Nat (List Pc)) : accE L k (consE p r) = accE (L ++ [p]) (k + p.2.1.length) r := by cases r <;> simp [accE, consE, Nat.add_assoc]
/-- k bytes are read, L are their words -/
structure RdS (l : Bs) (k : Nat) (L : List Pc) : Prop where
  le : k ≤ l.length
  eq : readL l = accE L k (readL (l.drop k))
  ok : ∀ p ∈ L, WordOk p
  few : L.length ≤ k
theorem rdS_0 (l : Bs) : RdS l 0 [] := ⟨Nat.zero_le _, by simp only [List.drop_zero]; cases readL l <;> simp [accE], fun p hp => by simp at hp, Nat.le_refl _⟩
theorem drop_cons' {l : Bs} {k : Nat} (h : k < l.length) : l.drop k = l[k] :: l.drop (k + 1) := List.drop_eq_getElem_cons h
theorem tell_head {l : Bs} {k : Nat} (h : k < l.length) : tell l k = cls l[k] := by rw [tell_lt h]; simp [List.getD, h]
theorem rdS_end {l : Bs} {L : List Pc} (r : RdS l l.length L) : readL l = .ok L := by
  have := r.eq
  rw [List.drop_length, read_nil] at this
  simpa [accE] using this
theorem rdS_gap {l : Bs} {k : Nat} {L : List Pc} (r : RdS l k L) (h : k < l.length) (ht : tell l k = 4) : RdS l (k + 1) L := by
  refine ⟨h, ?_, r.ok, by have := r.few; omega⟩
  rw [r.eq, drop_cons' h, read_gap (by rw [← tell_head h]; exact ht), acc_gap]
theorem rdS_no {l : Bs} {k : Nat} {L : List Pc} (r : RdS l k L) (h : k < l.length) (ht : tell l k ≠ 4) (hw : wordL (l.drop k) = none) : readL l = .error k := by
  rw [r.eq]
  rw [drop_cons' h] at hw ⊢
  rw [read_none (by rw [← tell_head h]; exact ht) hw]; rfl
theorem rdS_word {l : Bs} {k : Nat} {L : List Pc} (r : RdS l k L) (h : k < l.length) (ht : tell l k ≠ 4) {p : Pc} (hw : wordL (l.drop k) = some p) : RdS l (k + p.2.1.length) (L ++ [p]) ∧ WordOk p ∧ 0 < p.2.1.length := by
  obtain ⟨ok, _, hle⟩ := word_ok hw
  have hp := word_pos hw
  rw [List.length_drop] at hle
  refine ⟨⟨by omega, ?_, fun q hq => ?_, by have := r.few; simp; omega⟩, ok, hp⟩
  · rw [r.eq]
    have hw' := hw
    rw [drop_cons' h] at hw'
    conv => lhs; rw [drop_cons' h]
    rw [read_some (by rw [← tell_head h]; exact ht) hw', acc_word, ← drop_cons' h, List.drop_drop]
  · rcases List.mem_append.1 hq with hq | hq
    · exact r.ok q hq
    · simp at hq; subst hq; exact ok

/-- what Read answers -/
def readE (l : Bs) : Except (Nat × Int) (List Pc) := if 4000 < l.length then .error (0, 4) else match readL l with | .ok ps => .ok ps | .error k => .error (k, 2)
def ReadP (w : World) (l : Bs) (e : Ending) (w' : World) : Prop :=
  match readE l with
  | .ok ps => ∃ A cap, e = .returned (.tuple #[.slice A ps.length cap, .int .i64 0, .int .i64 0]) ∧ PcRow w' A cap ps ∧ Below w.heap.size w w'
  | .error (k, x) => e = .returned (.tuple #[.slice none 0 0, .int .i64 k, .int .i64 x]) ∧ Below w.heap.size w w'

theorem has_set {w : World} {g : Nat} {t : TypeId} {cs : List Value} (h : HasB w g t cs) (i : Nat) (u : Value) : HasB (w.setCell ⟨g, i, none⟩ u) g t (cs.set i u) := by
  unfold HasB at h ⊢
  simp [World.setCell, Array.getElem?_modify, h]
theorem HasB.grown {w w' : World} {r : Option Nat} {j : Nat} {t : TypeId} {cs : List Value} (h : HasB w j t cs) (b : w.grownBy w' r) (hj : some j ≠ r) : HasB w' j t cs := (b.block j h.lt hj).trans h
/-- a word laid into a block of its own -/
theorem rd_put (w1 : World) (a b c : Value) : ∃ W2, w1.alloc (.cells #[a, b, c] 29) = W2 ∧ HasB W2 w1.heap.size 29 [a, b, c] ∧ Below w1.heap.size w1 W2 ∧ W2.heap.size = w1.heap.size + 1 :=
  ⟨_, rfl, HasB.new _ _ _, bel_al (Below.refl _ _) _, by simp⟩

set_option maxHeartbeats 2000000 in
theorem read_any (s : ByteArray) (hs : s.size ≤ 100000) (w : World) (hE : ErrV w) : Calls Tryd.prog 8 #[.string s] w (ReadP w s.data.toList) := by
  by_cases hbig : 4000 < s.size
  · have hv : Hid (readE s.data.toList = .error (0, 4)) := Lib.hid (by unfold readE; rw [if_pos (by rw [size_list]; exact hbig)])
    have h4 : (4000 : Int) < s.size := by omega
    go_enter Tryd.func8, Tryd.ntmps8
    go_wp2_with fail
    go_step3
    go_wp2
    rw [Exit.noGoto_ret]
    go_ret3
    unfold ReadP
    rw [hv.out]
    exact ⟨rfl, Below.refl _ _⟩
  · have h4 : (s.size : Int) ≤ 4000 := by omega
    have hsL : s.data.toList.length = s.size := size_list s
    have hv : Hid (readE s.data.toList = match readL s.data.toList with | .ok ps => .ok ps | .error k => .error (k, 2)) := Lib.hid (by unfold readE; rw [if_neg (by omega)])
    have CT := Lib.hid (teller_any s w)
    have X0 := HasB.new w 9 [.string s]
    have B0 := bel_al (Below.refl _ w) (.cells #[.string s] 9)
    have E0 := Lib.hid (hE.below B0)
    replace X0 := Lib.hid X0
    replace B0 := Lib.hid B0
    have Z0 : Hid ((w.alloc (.cells #[.string s] 9)).heap.size = w.heap.size + 1) := Lib.hid (by simp)
    go_enter Tryd.func8, Tryd.ntmps8
    go_wp2_with fail
    refine wp_scope_once 0 (fun a' wr => ∃ (k n cap : Nat) (A : Option Addr) (L : List Pc) (t8 t9 t10 t11 t12 t13 t14 t15 t16 t17 t18 t19 t20 t21 t22 t23 t24 t25 t26 t27 t28 t29 t30 t31 t32 t33 t34 t35 t36 t37 t38 t39 t40 t41 t42 t43 : Value), a' = { tmps := #[.string s, undef, .slice none 0 0, .int .i64 0, .int .i64 0, telF w.heap.size, .slice A n cap, .int .i64 k, t8, t9, t10, t11, t12, t13, t14, t15, t16, t17, t18, t19, t20, t21, t22, t23, t24, t25, t26, t27, t28, t29, t30, t31, t32, t33, t34, t35, t36, t37, t38, t39, t40, t41, t42, t43], defers := [] } ∧
      Hid (RdS s.data.toList k L) ∧ k ≤ s.size ∧ Hid (L.length = n) ∧ Hid (wr.ownsRow (w.heap.size + 1) 29 3 (.slice A n cap) n (L.flatMap pcC)) ∧ Hid (PcRow wr A cap L) ∧ Hid (HasB wr w.heap.size 9 [.string s]) ∧ Hid (Below w.heap.size w wr) ∧ Hid (ErrV wr) ∧ w.heap.size + 1 ≤ wr.heap.size)
      (fun a' _ => s.size - (intOf (a'.tmps.getD 7 undef)).toNat) rfl ?_ ?_
    · intro PASS
      go_wp2_with fail
      refine (CT.out).mono ?_; rintro e w1 ⟨rfl, rfl⟩
      go_wp2_with fail
      go_step3
      rename_i Q9 K9 h9
      exact h9 _ _ (PASS _ _ ⟨0, 0, 0, none, [], _, _, _, _, _, _, _, _, _, _, _, _, _, _, _, _, _, _, _, _, _, _, _, _, _, _, _, _, _, _, _, _, _, _, _, _, rfl, Lib.hid (rdS_0 _), Nat.zero_le _, Lib.hid rfl, Lib.hid (World.ownsRow_nil _ _ _ _), Lib.hid (pcRow_nil _), X0, B0, E0, Nat.le_of_eq Z0.out.symm⟩)
    · rintro a' wr ⟨k, n, cap, A, L, x8, x9, x10, x11, x12, x13, x14, x15, x16, x17, x18, x19, x20, x21, x22, x23, x24, x25, x26, x27, x28, x29, x30, x31, x32, x33, x34, x35, x36, x37, x38, x39, x40, x41, x42, x43, rfl, HR, hk, HL, HO, HP, HX, HB, HE, hz⟩
      have CK := Lib.hid (tell_any s w.heap.size k wr HX.out)
      have hsp : k = s.size ∨ (k < s.size ∧ tell s.data.toList k = 4) ∨ (k < s.size ∧ tell s.data.toList k ≠ 4 ∧ tell s.data.toList k ≠ 5) := by
        rcases Nat.lt_or_ge k s.size with h | h
        · right
          have h5 : tell s.data.toList k ≠ 5 := by
            rw [tell_lt (by rw [size_list]; exact h)]
            have := cls_lt (s.data.toList.getD k 0)
            omega
          by_cases hh : tell s.data.toList k = 4
          · exact .inl ⟨h, hh⟩
          · exact .inr ⟨h, hh, h5⟩
        · left; omega
      unfold telF
      rcases hsp with rfl | ⟨hlt, ht⟩ | ⟨hlt, ht, ht5⟩
      · rw [tell_ge (by rw [size_list]; exact Nat.le_refl _)] at CK
        go_wp2_with fail
        refine (CK.out).mono ?_; rintro e w1 ⟨rfl, rfl⟩
        go_wp2_with fail
        simp only [Exit.jump]
        go_ret3
        have hr := rdS_end (by have := HR.out; rw [← hsL] at this; exact this)
        unfold ReadP
        rw [hv.out, hr]
        exact ⟨A, cap, by rw [HL.out]; rfl, HP.out, HB.out⟩
      · rw [ht] at CK
        have HR2 := Lib.hid (rdS_gap HR.out (by rw [hsL]; exact hlt) ht)
        go_wp2_with fail
        refine (CK.out).mono ?_; rintro e w1 ⟨rfl, rfl⟩
        go_wp2_with fail
        go_step3
        refine ⟨rfl, ⟨k + 1, n, cap, A, L, _, _, _, _, _, _, _, _, _, _, _, _, _, _, _, _, _, _, _, _, _, _, _, _, _, _, _, _, _, _, _, _, _, _, _, _, by first | rfl | (unfold telF; go_num), HR2, hlt, HL, HO, HP, HX, HB, HE, hz⟩, ?_⟩
        simp [intOf]
        omega
      · have CW := word_any s (by omega) w.heap.size k hlt wr HX.out HE.out
        have WN := Lib.hid (fun h => rdS_no HR.out (by rw [hsL]; exact hlt) ht h)
        have WS := Lib.hid (fun p h => rdS_word HR.out (by rw [hsL]; exact hlt) ht (p := p) h)
        generalize wordL (s.data.toList.drop k) = ow at *
        generalize tell s.data.toList k = q at *
        have q4 : (q == 4) = false := by simpa using ht
        have q5 : (q == 5) = false := by simpa using ht5
        clear ht ht5
        cases ow with
        | none =>
          replace CW := Lib.hid CW
          unfold telF at CW
          have HN := Lib.hid (WN.out rfl)
          clear WN WS
          simp only [optP, aggP, Option.getD_none, Option.isSome_none] at CW
          generalize pc0.1 = z0 at *
          generalize strB pc0.2.1 = z1 at *
          generalize pc0.2.2 = z2 at *
          go_wp2_with fail
          refine (CK.out).mono ?_; rintro e w1 ⟨rfl, rfl⟩
          go_wp2_with fail
          refine (CW.out).mono ?_; rintro e w1 ⟨rfl, hb⟩
          have B1 := Lib.hid (bel_then HB.out hb)
          clear hb
          go_wp2_with fail
          simp only [Exit.jump]
          go_ret3
          unfold ReadP
          rw [hv.out, HN.out]
          exact ⟨rfl, bel_al B1.out _⟩
        | some p =>
          obtain ⟨hr2, wok, hpos⟩ := WS.out p rfl
          have wsz : (strB p.2.1).size = p.2.1.length := strB_size _
          have wcs : ∀ (W : World) (T : TypeId), PcAt (W.alloc (.cells #[.int .u8 p.1, .string (strB p.2.1), .int .u32 p.2.2] T)) ⟨W.heap.size, 0, none⟩ p := fun W T => pcAt_new W p T
          have wlen : p.2.1.length ≤ 10 := wok.top
          replace HR2 := Lib.hid hr2
          have HW := Lib.hid wok
          have HRk := hr2.le
          have hfew := HR.out.few
          rw [hsL] at HRk
          clear hr2 wok WN WS
          simp only [optP, aggP, Option.getD_some, Option.isSome_some] at CW
          replace CW := Lib.hid CW
          unfold telF at CW
          have WC := Lib.hid wcs
          clear wcs
          generalize hT : strB p.2.1 = T at *
          have HT := Lib.hid hT
          clear hT
          generalize p.2.1.length = m at *
          generalize hk1 : p.1 = z0 at *
          generalize hk2 : p.2.2 = z2 at *
          clear hk1 hk2
          go_wp2_with fail
          refine (CK.out).mono ?_; rintro e w1 ⟨rfl, rfl⟩
          go_wp2_with fail
          refine (CW.out).mono ?_; rintro e w1 ⟨rfl, hb⟩
          have hz1 := hb.size
          obtain ⟨W2, eW2, X2, B2, S2⟩ := rd_put w1 (.int .u8 z0) (.string T) (.int .u32 z2)
          have d0 := X2.cell 0
          have d1 := X2.cell 1
          have d2 := X2.cell 2
          have f0 := X2.frozen 0
          have f1 := X2.frozen 1
          have f2 := X2.frozen 2
          simp only [List.getElem?_cons_zero, List.getElem?_cons_succ] at d0 d1 d2
          have XN := Lib.hid X2
          have BN := bel_then hb B2
          obtain ⟨W3, eW3, X3, B3, S3⟩ := rd_put W2 (.int .u8 z0) (.string T) (.int .u32 z2)
          have PN := WC.out W2 29
          rw [eW3, S2] at PN
          rw [S2] at X3
          have BN3 := bel_then BN B3
          have ON := own_belowP HO.out BN3
          have X3' := Lib.hid (XN.out.below B3)
          have PN := Lib.hid PN
          have ON := Lib.hid ON
          have BN3 := Lib.hid BN3
          have HLT := Lib.hid (HO.out.lt)
          have HZ := Lib.hid (And.intro S2 S3)
          clear hb X2 B2 CW CK X3 B3 S3 BN
          go_wp2_with (first
            | (at_builtin
               refine append_pc rfl (.tmp 35) (.tmp 37) rfl (w.heap.size + 1) (.slice A n cap) n L rfl ON.out HR.out.ok (w1.heap.size + 1) 1 p rfl PN.out HW.out (n + 1) rfl (by have := HL.out; omega) (by have := BN3.out.size; omega) ?_
               intro A6 c6 w6 own6 grow6 row6 bel6
               have O6 := Lib.hid own6
               have G6 := Lib.hid grow6
               have R6 := Lib.hid row6
               have B6 := Lib.hid bel6
               have X6 := X3'.out.grown grow6 (fun e => by have := (HLT.out _ e.symm).2; omega)
               have x1 := X6.cell 1
               simp only [List.getElem?_cons_zero, List.getElem?_cons_succ] at x1
               clear own6 grow6 row6 bel6 X6))
          have hz6 : w.heap.size + 1 ≤ w6.heap.size := by have := B6.out.size; have := BN3.out.size; omega
          have HX6 : Hid (HasB w6 w.heap.size 9 [.string s]) := Lib.hid ((HX.out.below BN3.out).same (B6.out.block _ (by omega)))
          have HB6 : Below w.heap.size w w6 := (bel_then HB.out BN3.out).trans (B6.out.mono (by omega))
          have HE6 := Lib.hid (hE.below HB6)
          have HL6 : Hid ((L ++ [p]).length = n + 1) := Lib.hid (by rw [List.length_append, HL.out]; rfl)
          have HB6 := Lib.hid HB6
          go_step3
          refine ⟨rfl, ⟨k + m, n + 1, c6, A6, L ++ [p], _, _, _, _, _, _, _, _, _, _, _, _, _, _, _, _, _, _, _, _, _, _, _, _, _, _, _, _, _, _, _, _, _, _, _, _, by first | rfl | (unfold telF; go_num), HR2, HRk, HL6, O6, R6, HX6, HB6, HE6, hz6⟩, ?_⟩
          simp [intOf]
          omega
end Go.Proofs.YtnlanaompaaijaaDoor.Mm
