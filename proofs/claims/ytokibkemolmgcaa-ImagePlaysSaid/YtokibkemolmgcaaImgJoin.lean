/- What the parts of package image answer: joined, length, sum, mayBe, Right, lengthAt. -/
import Derived.Test.YtokibkemolmgcaaImgMath
import Derived.Lib.ConvBytes
namespace Go.Proofs.Ytokibkemolmgcaa.Mm
open Go.ChangeShapes Go.WideShapes Go.ChangeAt Go.RowKit
set_option linter.unusedVariables false

/-- a part: a slice that reads as a list -/
structure Part where
  A : Option Addr
  cap : Nat
  L : List Int
def Part.v (p : Part) : Value := .slice p.A p.L.length p.cap
def flat (P : List Part) : List Int := P.flatMap Part.L
def Part.Ok (w : World) (p : Part) : Prop := RowAt w p.A p.cap p.L
theorem flat_take (P : List Part) (k : Nat) (h : k < P.length) : flat (P.take (k + 1)) = flat (P.take k) ++ P[k].L := by
  rw [List.take_succ_eq_append_getElem h]
  simp only [flat, List.flatMap_append, List.flatMap_cons, List.flatMap_nil, List.append_nil]
theorem flat_len (P : List Part) (k : Nat) : (flat (P.take k)).length ≤ (flat P).length := by
  conv => rhs; rw [← List.take_append_drop k P]
  simp only [flat, List.flatMap_append, List.length_append]
  omega
/-- the list of parts, in block g -/
structure Parts (w : World) (g : Nat) (P : List Part) : Prop where
  cells : HasB w g 22 (P.map Part.v)
  ok : ∀ p ∈ P, p.Ok w
theorem Parts.below {w w' : World} {g : Nat} {P : List Part} (h : Parts w g P) (b : Below w.heap.size w w') : Parts w' g P := ⟨h.cells.below b, fun p hp => RowAt.below (h.ok p hp) b⟩
theorem Parts.cell {w : World} {g : Nat} {P : List Part} (h : Parts w g P) (k : Nat) (hk : k < P.length) : w.cell? ⟨g, k, none⟩ = some (.slice P[k].A P[k].L.length P[k].cap) := by
  rw [h.cells.cell k]
  simp [List.getElem?_eq_getElem hk, Part.v]

/-- what joining answers -/
def JoinP (w : World) (L : List Int) (e : Ending) (w' : World) : Prop := ∃ A cap, e = .returned (.slice A L.length cap) ∧ Own w.heap.size w' A cap L ∧ Below w.heap.size w w'
def JoinRel (w : World) (P : List Part) (o i : Value) (w' : World) : Prop := ∃ (k : Nat) (A : Option Addr) (cap : Nat), k ≤ P.length ∧ i = .int .i64 k ∧ o = .slice A (flat (P.take k)).length cap ∧ Own w.heap.size w' A cap (flat (P.take k)) ∧ Below w.heap.size w w'

theorem make_0 (n : Nat) (h : n ≤ 1000000) (w : World) :
    ∃ w', (Instr.makeSlice 22 (.int .i64 0) (.int .i64 n)).run Try.prog w = .ok (.slice (some ⟨w.heap.size, 0, none⟩) 0 n) w' ∧ Own w.heap.size w' (some ⟨w.heap.size, 0, none⟩) n [] ∧ Below w.heap.size w w' := by
  have hi : ∃ i, Try.prog.info? 5 = some i ∧ i.zero = some (.int .u8 0) ∧ i.size = 1 ∧ i.bytes = 1 := by
    refine ⟨_, rfl, ?_, ?_, ?_⟩ <;> kernel_rfl
  obtain ⟨i, hi, hz, hs, hb⟩ := hi
  obtain ⟨w', hr, ho, hg⟩ := run_make_own (P := Try.prog) (w := w) w.heap.size 22 5 i (.int .u8 0) 1 Try.underlying22 hi hz hs .i64 .i64 n (by rw [hb]; omega) (by unfold maxLen; omega) (Nat.le_refl _)
  exact ⟨w', hr, ⟨ho, fun z hz => by simp at hz⟩, (Below.refl _ _).grown hg (Nat.le_refl _) (fun k hk => by cases hk)⟩

theorem joined_any (P : List Part) (g m : Nat) (w : World) (hm : m = P.length) (hP : Parts w g P) (hn : (flat P).length ≤ 100000) (hp : P.length ≤ 100) :
    Calls Try.prog 15 #[.slice (some ⟨g, 0, none⟩) m m] w (JoinP w (flat P)) := by
  subst hm
  have HP := Lib.hid hP
  clear hP
  have hp1 : ((P.length : Nat) : Int) ≤ 100 := by omega
  have FL := Lib.hid (flat_len P)
  have FT := Lib.hid (flat_take P)
  go_enter Try.func15, Try.ntmps15
  go_wp2_with fail
  go_loop [3, 5, 11] (fun s p i => ∃ k : Nat, k ≤ P.length ∧ i = .int .i64 k ∧ s = .int .i64 (flat (P.take k)).length) (fun _ _ i => P.length - (intOf i).toNat)
  case atStart => exact ⟨0, Nat.zero_le _, rfl, rfl⟩
  case round =>
    obtain ⟨k, hk, rfl, rfl⟩ := hrel
    by_cases hlt : k < P.length
    · have c0 := HP.out.cell k hlt
      have ft := FT.out k hlt
      have f1 := FL.out (k + 1)
      rw [ft, List.length_append] at f1
      have FN : Hid ((flat (P.take (k + 1))).length = (flat (P.take k)).length + P[k].L.length) := Lib.hid (by rw [ft, List.length_append])
      clear ft FT FL
      generalize (flat (P.take k)).length = s at *
      generalize P[k].L.length = n at *
      generalize P[k].A = A at *
      generalize P[k].cap = c at *
      go_wp2
      go_round
      case rel => exact ⟨k + 1, by omega, by go_num, by rw [FN.out]; rfl⟩
      case measure => simp [intOf]; omega
    · have : k = P.length := by omega
      subst this
      rw [List.take_length]
      obtain ⟨w1, mk, ho, hb⟩ := make_0 (flat P).length (by omega) w
      have OWN := Lib.hid ho
      have HB := Lib.hid hb
      clear ho hb
      go_wp2_with fail
      go_loopw [6, 8, 24] (fun o x i w' => JoinRel w P o i w') (fun _ _ i _ => P.length - (intOf i).toNat)
      case atStart => exact ⟨0, _, _, Nat.zero_le _, rfl, rfl, OWN.out, HB.out⟩
      case round =>
        obtain ⟨k, A, cp, hk, rfl, rfl, ho, hb⟩ := hrel
        by_cases hlt : k < P.length
        · have H1 := HP.out.below hb
          have c0 := H1.cell k hlt
          have r0 : RowAt wr P[k].A P[k].cap P[k].L := H1.ok P[k] (List.getElem_mem hlt)
          have R0 := Lib.hid r0
          have FN := Lib.hid (FT.out k hlt)
          have f1 := FL.out (k + 1)
          rw [FN.out, List.length_append] at f1
          have OW := Lib.hid ho
          have HBW := Lib.hid hb
          clear ho hb r0 H1 FT FL HP
          generalize P[k].L = M at *
          generalize P[k].A = B at *
          generalize P[k].cap = c at *
          generalize flat (P.take k) = L at *
          go_wp2_with (first
            | (at_builtin
               refine append_row rfl (.tmp 28) (.tmp 29) rfl w.heap.size (.slice A L.length cp) L.length L rfl OW.out.own OW.out.byte B M.length c M rfl rfl c R0.out (L.length + M.length) rfl (by omega) HBW.out.size ?_
               intro A2 c2 w2 own2 row2 bel2
               have OW2 := Lib.hid own2
               have R2 := Lib.hid row2
               have B2 := Lib.hid (HBW.out.trans bel2)
               clear own2 row2 bel2))
          go_roundw
          case rel => exact ⟨k + 1, _, _, by omega, by go_num, by rw [FN.out, List.length_append], ⟨by rw [FN.out, List.length_append]; exact OW2.out, by rw [FN.out]; exact R2.out.2.2.1⟩, B2.out⟩
          case measure => simp [intOf]; omega
        · have : k = P.length := by omega
          subst this
          rw [List.take_length] at ho ⊢
          go_wp2
          go_ret
          exact ⟨_, _, rfl, ho, hb⟩

theorem mayBe_any (n m : Int) (w : World) : Calls Try.prog 18 #[.int .i64 n, .int .i64 m] w fun e w' => e = .returned (.bool (rightB n m)) ∧ w = w' := by
  have R := Lib.hid (rightB_iff n m)
  by_cases h1 : 32 ≤ n
  · by_cases h2 : n ≤ 4096
    · have e : n.tmod 32 = n % 32 := by rw [Int.tmod_eq_emod_of_nonneg (by omega)]
      by_cases h3 : n % 32 = 0
      · have h3' : n.tmod 32 = 0 := by omega
        by_cases h4 : m ≤ 4096
        · have hv : rightB n m = true := R.out.2 ⟨h1, h2, h3, h4⟩
          go_enter Try.func18, Try.ntmps18
          go_wp2
          go_ret
          first | exact ⟨ret_bool hv.symm, rfl⟩ | exact ⟨rfl, rfl⟩
        · have hv : rightB n m = false := by rw [← Bool.not_eq_true, R.out]; omega
          go_enter Try.func18, Try.ntmps18
          go_wp2
          go_ret
          first | exact ⟨ret_bool hv.symm, rfl⟩ | exact ⟨rfl, rfl⟩
      · have h3' : (n.tmod 32 == 0) = false := by rw [e]; simp; exact h3
        have h3'' : (n % 32 == 0) = false := by simp; exact h3
        have hv : rightB n m = false := by rw [← Bool.not_eq_true, R.out]; omega
        go_enter Try.func18, Try.ntmps18
        go_wp2
        go_ret
        first | exact ⟨ret_bool hv.symm, rfl⟩ | exact ⟨rfl, rfl⟩
    · have hv : rightB n m = false := by rw [← Bool.not_eq_true, R.out]; omega
      go_enter Try.func18, Try.ntmps18
      go_wp2
      go_ret
      first | exact ⟨ret_bool hv.symm, rfl⟩ | exact ⟨rfl, rfl⟩
  · have hv : rightB n m = false := by rw [← Bool.not_eq_true, R.out]; omega
    go_enter Try.func18, Try.ntmps18
    go_wp2
    go_ret
    first | exact ⟨ret_bool hv.symm, rfl⟩ | exact ⟨rfl, rfl⟩

theorem Right_any (A B : Option Addr) (n m ca cb : Nat) (hn : n ≤ maxLen) (hm : m ≤ maxLen) (w : World) :
    Calls Try.prog 10 #[.agg #[.slice A n ca, .slice B m cb]] w fun e w' => e = .returned (.bool (rightB n m)) ∧ Below w.heap.size w w' := by
  unfold maxLen at hn hm
  have M := Lib.hid (mayBe_any n m)
  go_enter Try.func10, Try.ntmps10
  go_wp2_with fail
  refine (M.out _).mono ?_; rintro e w' ⟨rfl, rfl⟩
  go_wp2
  go_ret
  exact ⟨rfl, (Below.refl _ _).alloc (Nat.le_refl _) _⟩

theorem length_any (n : Nat) (hn : n ≤ 65535) (w : World) :
    Calls Try.prog 16 #[.int .i64 n] w fun e w' => e = .returned (.slice (some ⟨w.heap.size, 0, none⟩) 2 2) ∧ w' = w.alloc (.cells ((lenL n).map (Value.int .u8)).toArray 5) := by
  have e1 : ((n : Int) / 256) % 256 = (n : Int) / 256 := by omega
  go_enter Try.func16, Try.ntmps16
  go_wp2
  go_ret
  exact ⟨rfl, rfl⟩
theorem conv_bytes (w : World) (s : ByteArray) : (convert 9 22 (.string s)).run Try.prog w = .ok (.slice (some ⟨w.heap.size, 0, none⟩) s.size (grownCap w s.size 0 5)) (Lib.bytesWorld w 5 s) :=
  Lib.run_convert_string_bytes w 9 22 5 s Try.underlying9 Try.underlying22 Try.underlying5
theorem conv_below (w : World) (s : ByteArray) : Below w.heap.size w (Lib.bytesWorld w 5 s) :=
  ⟨rfl, rfl, rfl, by rw [Lib.bytesWorld_size]; omega, fun k hk => Lib.bytesWorld_at_old w 5 s k hk⟩
theorem bytes_row (w : World) (L : List Int) (hb : Bytes L) (hs : L.length ≤ 20000) : RowAt (Lib.bytesWorld w 5 (strOfNums L)) (some ⟨w.heap.size, 0, none⟩) (grownCap w L.length 0 5) L := by
  refine ⟨grownCap_ge _ _ _ _, grownCap_le_maxLen _ _ _ _ (by unfold maxLen; omega), hb, fun _ => ⟨_, rfl, by rw [Lib.bytesWorld_size]; exact Nat.lt_succ_self _, fun i hi => ?_⟩⟩
  have e : (⟨w.heap.size, 0, none⟩ : Addr).add i = ⟨w.heap.size, i, none⟩ := by unfold Addr.add; split <;> simp_all
  have hi' : i < (strOfNums L).size := by rw [strOfNums_size]; exact hi
  rw [e, Lib.bytesWorld_cell _ _ _ _ hi']
  have h2 := nums_get (strOfNums L) i hi'
  rw [nums_str L hb] at h2
  rw [h2]
  have hi2 : i < (strOfNums L).data.toList.length := by simpa using hi'
  simp only [List.getD, List.getElem?_eq_getElem hi2]
  rfl
/-- what the sum's bytes are answered as -/
def SumP (w : World) (L : List Int) (e : Ending) (w' : World) : Prop := ∃ g cap, e = .returned (.slice (some ⟨g, 0, none⟩) 4 cap) ∧ RowAt w' (some ⟨g, 0, none⟩) cap L ∧ Below w.heap.size w w'
theorem sum_bytes (A : Option Addr) (cap : Nat) (l : List Int) (n : Nat) (hn : l.length = n) (w : World) (r : RowAt w A cap l) :
    Calls Try.prog 17 #[.slice A n cap] w (SumP w (sumL l)) := by
  subst hn
  have C := Lib.hid (sum_any A cap l w r)
  have hq := fnvL_bd 2166136261 l (by decide) (by decide)
  have F := Lib.hid (four_any _ hq.1 hq.2)
  have e4 : (strOfNums (sumL l)).size = 4 := by rw [strOfNums_size]; rfl
  have E4 := Lib.hid e4
  clear r hq e4
  go_enter Try.func17, Try.ntmps17
  go_wp2_with fail
  refine C.out.mono ?_; rintro e w' ⟨rfl, rfl⟩
  go_wp2_with fail
  refine (F.out _).mono ?_; rintro e w1 ⟨rfl, hb⟩
  have hc := conv_bytes w1 (strOfNums (sumL l))
  rw [E4.out] at hc
  have HR := Lib.hid (bytes_row w1 (sumL l) (sumL_byte l) (by rw [sumL_len]; decide))
  have HB := Lib.hid (hb.trans ((conv_below w1 (strOfNums (sumL l))).mono hb.size))
  clear hb
  rw [show b4 (fnvL 2166136261 l) = sumL l from rfl]
  go_wp2
  go_ret
  exact ⟨_, _, rfl, HR.out, HB.out⟩
end Go.Proofs.Ytokibkemolmgcaa.Mm
