/- WholeSafe: a host of 16384 bytes, and the code of each of its sandboxes, as the statement keeps it. -/
import Derived.Test.YteefmjhemhlapaaGreatZHostCi
import Derived.Deep.Slices
import Derived.Deep.Fields
import Derived.Maps.AppendAt
namespace Go.Proofs.YteefmjhemhlapaaGreat.Mm
open Go.ChangeShapes Go.WideShapes Go.ChangeAt Go.RowKit
set_option linter.unusedVariables false
set_option linter.unusedSimpArgs false
set_option maxRecDepth 10000
set_option maxHeartbeats 4000000

def D8 : List Int := [1, 2, 3, 4, 5, 6, 7, 8]
structure LdOk (z : Nat) (h : Ho) (l : List Int) (size : Int) (k b hf : Nat) : Prop where
  e : imgE l = 0
  v : verE (codeI l) = 0
  k16 : k < 16
  no : h.m[k]? = some none
  rg : regB ((64 * z : Nat) : Int) ((b : Int), ((2 * hf : Nat) : Int)) = true
  ap : ∀ j s, h.has j s → s.b + 2 * s.hf + 64 ≤ b ∨ b + 2 * hf + 64 ≤ s.b
  c : (codeI l).length + 32 ≤ hf
  d : (dataL l).length ≤ hf
theorem img_ver {l : List Int} (h : imgE l = 0) : verE (codeI l) = 0 := by
  unfold imgE at h
  by_cases h0 : errL l = 0
  · rw [if_neg (by simp [h0])] at h; exact h
  · rw [if_pos h0] at h; exact absurd h h0
theorem ld_ok {z : Nat} {h : Ho} (H : HoZ z h) {l : List Int} {size : Int} (he : loadE z h (imgE l) (codeI l) (dataL l) size = 0) {k b hf : Nat} (hk : freeO h = some k) (hs : size = ((2 * hf : Nat) : Int)) (hb : takeV (regsU h) ((64 * z : Nat) : Int) size = (b : Int)) : LdOk z h l size k b hf := by
  obtain ⟨k', b', hf', q1, q2, q3, q4, q5, q6, q7, q8, q9, q10⟩ := load_ok H he
  rw [hk] at q1
  injection q1 with q1
  subst q1
  obtain rfl : hf = hf' := by omega
  obtain rfl : b = b' := by have := hb.symm.trans q3; omega
  exact ⟨q4, img_ver q4, q5, q6, q7, q8, q9, q10⟩
theorem code_bytes {l : List Int} (h : Bytes l) : Bytes (codeI l) := fun v hv => h v (List.mem_of_mem_drop (List.mem_of_mem_take hv))
theorem data_bytes {l : List Int} (h : Bytes l) : Bytes (dataL l) := fun v hv => h v (List.mem_of_mem_drop (List.mem_of_mem_take hv))
theorem LdOk.i {z n0 : Nat} {h : Ho} {l : List Int} {size : Int} {k b hf : Nat} (o : LdOk z h l size k b hf) (I : HoI z n0 h) (hz : z ≤ 1000) (hl : Bytes l) {rep : List Int} (hu : ∀ v ∈ rep, U32 v) (hr : rep.length ≤ 100000) : HoI z n0 (loadO h k b hf (codeI l) (dataL l) rep) :=
  I.load hz o.no o.rg o.ap (code_bytes hl) (data_bytes hl) o.v o.c o.d hu hr
def SlAt (w : World) (x : Addr) (A : Option Addr) (c : Nat) (l : List Int) : Prop := w.cell? x = some (.slice A l.length c) ∧ RowAt w A c l
def RowsB (w : World) (A : Option Addr) (n cap : Nat) : Prop := n ≤ cap ∧ cap ≤ maxLen ∧ (0 < n → ∃ x, A = some x ∧ x.block < w.heap.size ∧ ∀ i, i < n → ∃ B c l, SlAt w (x.add i) B c l)
theorem SlAt.below {w w' : World} {x : Addr} {A : Option Addr} {c : Nat} {l : List Int} (h : SlAt w x A c l) (b : Below w.heap.size w w') (hx : x.block < w.heap.size) : SlAt w' x A c l := ⟨(b.cell hx).trans h.1, h.2.below b⟩
structure Ac where
  d : Int
  c : Int
  g : Int
  i : Int
  n : Int
  A : Option Addr
  cap : Nat
  r : List Int
theorem rowsB_of {H : Type} {enc : TypeId × Value → H} {w : World} {base : Nat} {spare : Nat → Bool} {held : Bool} {a : Option Addr} {len cap : Nat} {d : DataW H} {ps : List MemPlace}
    (h : DataW.Trod enc Tryz.prog w base spare held 22 (.slice a len cap) d ps) : RowsB w a len cap := by
  obtain ⟨fuel, hf⟩ := h
  have k5 : Tryz.prog.cellsOf 5 = 1 := by kernel_rfl
  have k30 : Tryz.prog.cellsOf 39 = 1 := by kernel_rfl
  rcases Go.Deep.open_slice Tryz.underlying22 hf with ⟨hcs, _⟩ | ⟨x, len', cap', m, n, D, Pl, hcs, hb, hl, hm, hmm, _, hi⟩
  · simp [Value.cells] at hcs
    obtain ⟨rfl, rfl, rfl⟩ := hcs
    exact ⟨Nat.le_refl _, Nat.zero_le _, fun h => by omega⟩
  · simp [Value.cells] at hcs
    obtain ⟨rfl, rfl, rfl⟩ := hcs
    have hlm : len ≤ m := by rw [hmm]; split <;> omega
    rw [k30] at hi
    have key : ∀ i, i < len → ∃ B c l, SlAt w (x.add i) B c l := by
      intro i hil
      obtain ⟨cs', hc, ht⟩ := hi i (by omega)
      obtain ⟨_, hcl, hat⟩ := World.cells?_some hc
      match cs', hcl with
      | [y0], _ =>
        obtain ⟨A5, l5, c5, e5⟩ : ∃ A l c, y0 = .slice A l c := by
          rcases Go.Deep.open_slice Tryz.underlying39 ht with ⟨hq, _⟩ | ⟨x5, l5, c5, _, _, _, _, hq, _⟩
          · simp only [List.cons.injEq, and_true] at hq; exact ⟨_, _, _, hq⟩
          · simp only [List.cons.injEq, and_true] at hq; exact ⟨_, _, _, hq⟩
        subst e5
        have tr : DataW.Trod enc Tryz.prog w base spare held 39 (.slice A5 l5 c5) (D i) (Pl i) := ⟨n, by simpa [Value.cells] using ht⟩
        obtain ⟨bl, hbl, hrow⟩ := row_of Tryz.underlying39 Tryz.underlying5 k5 tr
        subst hbl
        have h0 := hat 0 (by decide)
        simp only [List.getElem?_cons_zero, Nat.mul_one] at h0
        have e00 : (x.add i).add 0 = x.add i := by simp [Addr.add]
        rw [e00] at h0
        exact ⟨A5, c5, bl, h0, hrow⟩
    refine ⟨hl, hm, fun hn => ⟨x, rfl, ?_, key⟩⟩
    obtain ⟨B, c, l, ht⟩ := key 0 hn
    have := block_of_cell ht.1
    rwa [block_add] at this
theorem goes14 (w : World) : Calls Tryz.prog 17 #[] w fun e w' => e = .returned (.bool true) ∧ Below w.heap.size w w' := by
  obtain ⟨W1, e1, R1, B1⟩ : ∃ W1, w.alloc (.cells #[.int .u8 97] 5 (1, 2)) = W1 ∧ RowAt W1 (some ⟨w.heap.size, 0, none⟩) 1 [97] ∧ Below w.heap.size w W1 :=
    ⟨_, rfl, ⟨Nat.le_refl _, by unfold maxLen; decide, by intro z hz; simp at hz; omega, fun _ => ⟨_, rfl, by simp, fun i hi => by
      have h0 : i = 0 := by simp at hi; omega
      subst h0
      have hh : (w.alloc (.cells #[.int .u8 97] 5 (1, 2))).heap[w.heap.size]? = some (.cells #[.int .u8 97] 5 (1, 2)) := by
        show (w.heap.push _)[w.heap.size]? = _
        rw [Array.getElem?_push, if_pos rfl]
      have ha : (⟨w.heap.size, 0, none⟩ : Addr).add 0 = ⟨w.heap.size, 0, none⟩ := rfl
      rw [ha]
      unfold World.cell?
      simp only [hh]
      rfl⟩⟩, bel_al (Below.refl _ _) _⟩
  have SU := Lib.hid (sum_any (some ⟨w.heap.size, 0, none⟩) 1 [97] W1 R1)
  rw [show fnvL 2166136261 [97] = 3826002220 from by decide] at SU
  have BB := Lib.hid B1
  have kc := Lib.run_convert_bytes_const (P := Tryz.prog) w 39 5 #[.int .u8 97] 1 1 Tryz.underlying39 Tryz.underlying5
  clear R1 B1
  go_enter Tryz.func17, Tryz.ntmps17
  go_wp2_with fail
  refine SU.out.mono ?_; rintro e w2 ⟨rfl, rfl⟩
  dsimp only
  go_wp2_with fail
  go_ret
  exact ⟨rfl, BB.out⟩
structure SafS (W : World) (hb ab n0 : Nat) (h : Ho) (F : Nat → Prop) (cs : List Value) (w : World) : Prop where
  ah : HAt w hb h F
  hi : HoI 256 n0 h
  fl : ∀ i, F i → W.heap.size ≤ i
  ar : HasB w ab 55 cs
  fa : ¬ F ab
  la : W.heap.size ≤ ab
  ln : cs.length = 16
  one : ∀ v ∈ cs, ∃ A n c, v = .slice A n c
  cd : ∀ k s, h.has k s → ∃ A c, cs[k]? = some (.slice A s.code.length c) ∧ RowAt w A c s.code ∧ (∀ a, A = some a → a.block < w.heap.size ∧ ¬ F a.block ∧ a.block ≠ ab)
  sz : ∀ k s, h.has k s → s.hf = 512
  bel : Below W.heap.size W w
section
variable {W w w' : World} {hb ab n0 : Nat} {h : Ho} {F : Nat → Prop} {cs : List Value}
theorem SafS.below (S : SafS W hb ab n0 h F cs w) (b : Below w.heap.size w w') : SafS W hb ab n0 h F cs w' :=
  ⟨S.ah.below b, S.hi, S.fl, S.ar.below b, S.fa, S.la, S.ln, S.one, fun k s hs => by
    obtain ⟨A, c, h1, h2, h3⟩ := S.cd k s hs
    exact ⟨A, c, h1, h2.below b, fun a ha => ⟨Nat.lt_of_lt_of_le (h3 a ha).1 b.size, (h3 a ha).2⟩⟩, S.sz, bel_then S.bel b⟩
theorem SafS.mono (S : SafS W hb ab n0 h F cs w) {n1 : Nat} (hn : n0 ≤ n1) : SafS W hb ab n1 h F cs w := ⟨S.ah, S.hi.mono hn, S.fl, S.ar, S.fa, S.la, S.ln, S.one, S.cd, S.sz, S.bel⟩
theorem SafS.step (S : SafS W hb ab n0 h F cs w) {n1 : Nat} {h2 : Ho} {F2 : Nat → Prop} (at2 : HAt w' hb h2 F2) (c : ChF F w w') (sb : SubF w F F2) (I : HoI 256 n1 h2)
    (hh : ∀ k s, h2.has k s → ∃ t, h.has k t ∧ t.code = s.code ∧ t.hf = s.hf) : SafS W hb ab n1 h2 F2 cs w' := by
  have lt := S.ar.lt
  refine ⟨at2, I, fun i hf => (sb i hf).elim (S.fl i) (fun h => Nat.le_trans S.bel.size h), S.ar.same (c.block ab lt S.fa), fun hf => (sb ab hf).elim S.fa (fun h => by omega), S.la, S.ln, S.one, fun k s hs => ?_, fun k s hs => by obtain ⟨t, ht, _, e⟩ := hh k s hs; rw [← e]; exact S.sz k t ht, Below.trans S.bel (c.below S.fl S.bel.size)⟩
  obtain ⟨t, ht, e, _⟩ := hh k s hs
  obtain ⟨A, cc, h1, h2, h3⟩ := S.cd k t ht
  rw [e] at h1 h2
  exact ⟨A, cc, h1, h2.chF c (.inr (fun a ha => (h3 a ha).2.1)), fun a ha => ⟨Nat.lt_of_lt_of_le (h3 a ha).1 c.size, fun hf => (sb _ hf).elim (h3 a ha).2.1 (fun h => by have := (h3 a ha).1; omega), (h3 a ha).2.2⟩⟩
theorem SafS.run (S : SafS W hb ab n0 h F cs w) (h0 : n0 ≤ 40000) {x : Int} {n : Nat} (hx : I64i x) (hn : n ≤ 20000) :
    Calls Tryz.prog 12 #[.pointer (some ⟨hb, 0, none⟩), .int .i64 x, .int .i64 (n : Int)] w fun e w' => ∃ v h2 F2, e = .returned v ∧ SafS W hb ab (n0 + n) h2 F2 cs w' := by
  refine (hRun w hb 256 n0 h F x n S.ah S.hi h0 hx hn).mono ?_
  rintro e w' (⟨k, t, rfl, ht, rfl, F2, at2, ch2, sb2⟩ | ⟨_, rfl, at2, b2⟩)
  · refine ⟨_, _, F2, rfl, S.step at2 ch2 sb2 (S.hi.run ht n).1 (fun j s hs => ?_)⟩
    rcases has_cases hs with ⟨rfl, hv⟩ | ⟨_, hs⟩
    · cases hv
      exact ⟨t, ht, rfl, rfl⟩
    · exact ⟨s, hs, rfl, rfl⟩
  · exact ⟨_, h, F, rfl, (S.below b2).mono (by omega)⟩
theorem SafS.load (S : SafS W hb ab n0 h F cs w) {R : Option Addr} {cap n : Nat} {l : List Int} (r : RowAt w R cap l) (hl : l.length = n) (hn : n ≤ 4200) :
    Calls Tryz.prog 9 #[.pointer (some ⟨hb, 0, none⟩), .slice R n cap, .int .i64 1024, .slice none 0 0] w fun e w' =>
      (∃ E, E ≠ 0 ∧ (imgE l ≠ 0 → E = imgE l) ∧ e = .returned (.tuple #[.int .i64 0, .int .i64 E]) ∧ SafS W hb ab n0 h F cs w') ∨
      (∃ (k : Nat) (F2 : Nat → Prop) (h2 : Ho), imgE l = 0 ∧ k < 16 ∧ e = .returned (.tuple #[.int .i64 (k : Int), .int .i64 0]) ∧ ChF F w w' ∧ SubF w F F2 ∧ HasB w' ab 55 cs ∧ Below W.heap.size W w' ∧
        ∀ A c w2, RowAt w2 A c (codeI l) → (∀ a, A = some a → a.block < w'.heap.size ∧ W.heap.size ≤ a.block ∧ ¬ F2 a.block ∧ a.block ≠ ab) → HasB w2 ab 55 (cs.set k (.slice A (codeI l).length c)) → Chg ab ab w' w2 →
          SafS W hb ab n0 h2 F2 (cs.set k (.slice A (codeI l).length c)) w2) := by
  refine (hLoad w hb 256 h F R cap n l 1024 none 0 0 [] S.ah S.hi.Z (by omega) (by omega) r hl hn (by decide) (kRow_nil _ w) rfl (by omega)).mono ?_
  rintro e w' (⟨hne, rfl, at2, b2⟩ | ⟨hE, k, b, hf, hk, hs, hb2, rfl, F2, at2, ch2, sb2⟩)
  · refine .inl ⟨_, hne, fun hi => ?_, rfl, S.below b2⟩
    unfold loadE
    rw [if_pos hi]
  · have OK := ld_ok S.hi.Z hE hk hs hb2
    have I2 := OK.i S.hi (by omega) r.2.2.1 (rep := []) (fun v hv => by cases hv) (by simp)
    have lt := S.ar.lt
    refine .inr ⟨k, F2, loadO h k b hf (codeI l) (dataL l) [], OK.e, OK.k16, rfl, ch2, sb2, S.ar.same (ch2.block ab lt S.fa), Below.trans S.bel (ch2.below S.fl S.bel.size), fun A c w2 rA hA hB ch => ?_⟩
    have fa2 : ¬ F2 ab := fun hf => (sb2 ab hf).elim S.fa (fun h => by omega)
    have fl2 : ∀ i, F2 i → W.heap.size ≤ i := fun i hf => (sb2 i hf).elim (S.fl i) (fun h => Nat.le_trans S.bel.size h)
    have same : ∀ i, i < w'.heap.size → i ≠ ab → w2.heap[i]? = w'.heap[i]? := fun i hi hne => ch.block i hi hne hne
    refine ⟨at2.same ch.size (fun i hf => same i (at2.lim i hf) (fun e => fa2 (e ▸ hf))), I2, fl2, hB, fa2, S.la, by rw [List.length_set]; exact S.ln, fun v hv => ?_, fun j t ht => ?_, fun j t ht => ?_, Below.trans (Below.trans S.bel (ch2.below S.fl S.bel.size)) (Below.ofNew ch (Nat.le_trans S.bel.size ch2.size) S.la)⟩
    · rcases List.mem_or_eq_of_mem_set hv with h | h
      · exact S.one v h
      · exact ⟨_, _, _, h⟩
    · rcases has_cases ht with ⟨rfl, hv⟩ | ⟨hj, ht⟩
      · cases hv
        exact ⟨A, c, List.getElem?_set_self (by rw [S.ln]; exact OK.k16), rA, fun a ha => ⟨Nat.lt_of_lt_of_le (hA a ha).1 ch.size, (hA a ha).2.2⟩⟩
      · obtain ⟨A', c', h1, h2, h3⟩ := S.cd j t ht
        refine ⟨A', c', by rw [List.getElem?_set_ne (Ne.symm hj)]; exact h1, ?_, fun a ha => ⟨Nat.lt_of_lt_of_le (Nat.lt_of_lt_of_le (h3 a ha).1 ch2.size) ch.size, fun hf => (sb2 _ hf).elim (h3 a ha).2.1 (fun h => by have := (h3 a ha).1; omega), (h3 a ha).2.2⟩⟩
        have h4 := h2.chF ch2 (.inr (fun a ha => (h3 a ha).2.1))
        exact h4.same ch.size (.inr (fun a ha => same _ (Nat.lt_of_lt_of_le (h3 a ha).1 ch2.size) (h3 a ha).2.2))
    · rcases has_cases ht with ⟨rfl, hv⟩ | ⟨hj, ht⟩
      · cases hv
        show hf = 512
        omega
      · exact S.sz j t ht
end
end Go.Proofs.YteefmjhemhlapaaGreat.Mm
