/- Two hosts side by side, one sandbox alike in both: what a call keeps. -/
import Derived.Test.YtjmbaiijmhkdpaaGreatAHostCi
import Derived.Deep.Slices
import Derived.Deep.Fields
import Derived.Maps.AppendAt
namespace Go.Proofs.YtjmbaiijmhkdpaaGreat.Mm
open Go.ChangeShapes Go.WideShapes Go.ChangeAt Go.RowKit
set_option linter.unusedVariables false
set_option linter.unusedSimpArgs false
set_option maxRecDepth 10000
set_option maxHeartbeats 4000000

def D8 : List Int := [1, 2, 3, 4, 5, 6, 7, 8]
theorem D8_b : Bytes D8 := by intro z hz; simp [D8] at hz; omega
theorem bytes14n (A : Option Addr) (ca c : Nat) (C : List Int) (hc : C.length = c) (h1 : c ≤ 4000) (w : World) (rA : RowAt w A ca C) :
    Calls Tryz.prog 13 #[.slice A c ca] w fun e w' => ∃ A' c', e = .returned (.slice A' (c + 20) c') ∧ RowAt w' A' c' (layL C D8) ∧ Below w.heap.size w w' ∧ (∀ a, A' = some a → w.heap.size ≤ a.block) := by
  obtain ⟨W1, e1, R1, B1, RA1⟩ : ∃ W1, w.alloc (.cells #[.int .u8 1, .int .u8 2, .int .u8 3, .int .u8 4, .int .u8 5, .int .u8 6, .int .u8 7, .int .u8 8] 5) = W1 ∧ RowAt W1 (some ⟨w.heap.size, 0, none⟩) 8 D8 ∧ Below w.heap.size w W1 ∧ RowAt W1 A ca C := by
    have b := bel_al (Below.refl w.heap.size w) (.cells #[.int .u8 1, .int .u8 2, .int .u8 3, .int .u8 4, .int .u8 5, .int .u8 6, .int .u8 7, .int .u8 8] 5)
    exact ⟨_, rfl, row_blk (l := D8) D8_b (by unfold maxLen; decide) (HasB.new w 5 (D8.map (Value.int .u8))), b, rA.below b⟩
  have LC := Lib.hid (rLay_any A (some ⟨w.heap.size, 0, none⟩) ca 8 C D8 c 8 hc rfl (by omega) (by omega) W1 RA1 R1)
  have hbL : Bytes (layL C D8) := layL_byte rA.2.2.1 D8_b (by omega) (by decide)
  have hlen : (layL C D8).length = c + 20 := by rw [layL_len, hc]; show 12 + c + 8 = _; omega
  have HBL := Lib.hid hbL
  have HLEN := Lib.hid hlen
  have BB := Lib.hid B1
  have H1 := Lib.hid h1
  clear R1 RA1 rA hc hbL hlen h1 B1
  go_enter Tryz.func13, Tryz.ntmps13
  go_wp2_with fail
  refine LC.out.mono ?_; rintro e w2 ⟨rfl, b2⟩
  have CV := conv_bytes w2 (strOfNums (layL C D8))
  rw [strOfNums_size, HLEN.out] at CV
  have R := bytes_row w2 (layL C D8) HBL.out (by rw [HLEN.out]; have := H1.out; omega)
  rw [HLEN.out] at R
  have B2 := Lib.hid (bel_then (bel_then BB.out b2) (conv_below w2 (strOfNums (layL C D8))))
  have RR := Lib.hid R
  have N2 := Lib.hid (Nat.le_trans BB.out.size b2.size)
  clear R b2
  generalize Lib.bytesWorld w2 5 (strOfNums (layL C D8)) = W3 at *
  go_wp2_with fail
  go_ret
  exact ⟨_, _, rfl, RR.out, B2.out, fun a ha => by cases ha; exact N2.out⟩
theorem bytes14 (A : Option Addr) (ca c : Nat) (C : List Int) (hc : C.length = c) (h1 : c ≤ 4000) (w : World) (rA : RowAt w A ca C) :
    Calls Tryz.prog 13 #[.slice A c ca] w fun e w' => ∃ A' c', e = .returned (.slice A' (c + 20) c') ∧ RowAt w' A' c' (layL C D8) ∧ Below w.heap.size w w' :=
  (bytes14n A ca c C hc h1 w rA).mono (fun e w' ⟨A', c', h1, h2, h3, _⟩ => ⟨A', c', h1, h2, h3⟩)
structure LdOk (z : Nat) (h : Ho) (l : List Int) (size : Int) (k b hf : Nat) : Prop where
  e : imgE l = 0
  v : verE (codeI l) = 0
  k16 : k < 16
  no : h.m[k]? = some none
  rg : regB ((64 * z : Nat) : Int) ((b : Int), ((2 * hf : Nat) : Int)) = true
  ap : ∀ j s, h.has j s → s.b + 2 * s.hf + 64 ≤ b ∨ b + 2 * hf + 64 ≤ s.b
  c : (codeI l).length + 32 ≤ hf
  d : (dataL l).length ≤ hf
theorem img_ver {l : List Int} (h : imgE l = 0) : verE (codeI l) = 0 := by
  unfold imgE at h
  by_cases h0 : errL l = 0
  · rw [if_neg (by simp [h0])] at h; exact h
  · rw [if_pos h0] at h; exact absurd h h0
theorem ld_ok {z : Nat} {h : Ho} (H : HoZ z h) {l : List Int} {size : Int} (he : loadE z h (imgE l) (codeI l) (dataL l) size = 0) {k b hf : Nat} (hk : freeO h = some k) (hs : size = ((2 * hf : Nat) : Int)) (hb : takeV (regsU h) ((64 * z : Nat) : Int) size = (b : Int)) : LdOk z h l size k b hf := by
  obtain ⟨k', b', hf', q1, q2, q3, q4, q5, q6, q7, q8, q9, q10⟩ := load_ok H he
  rw [hk] at q1
  injection q1 with q1
  subst q1
  obtain rfl : hf = hf' := by omega
  obtain rfl : b = b' := by have := hb.symm.trans q3; omega
  exact ⟨q4, img_ver q4, q5, q6, q7, q8, q9, q10⟩
theorem code_bytes {l : List Int} (h : Bytes l) : Bytes (codeI l) := fun v hv => h v (List.mem_of_mem_drop (List.mem_of_mem_take hv))
theorem data_bytes {l : List Int} (h : Bytes l) : Bytes (dataL l) := fun v hv => h v (List.mem_of_mem_drop (List.mem_of_mem_take hv))
theorem LdOk.z {z : Nat} {h : Ho} {l : List Int} {size : Int} {k b hf : Nat} (o : LdOk z h l size k b hf) (H : HoZ z h) (hl : Bytes l) (rep : List Int) : HoZ z (loadO h k b hf (codeI l) (dataL l) rep) :=
  H.load o.no o.rg o.ap (code_bytes hl) (data_bytes hl) (by have := o.c; omega) o.d
theorem LdOk.i {z n0 : Nat} {h : Ho} {l : List Int} {size : Int} {k b hf : Nat} (o : LdOk z h l size k b hf) (I : HoI z n0 h) (hz : z ≤ 1000) (hl : Bytes l) {rep : List Int} (hu : ∀ v ∈ rep, U32 v) (hr : rep.length ≤ 100000) : HoI z n0 (loadO h k b hf (codeI l) (dataL l) rep) :=
  I.load hz o.no o.rg o.ap (code_bytes hl) (data_bytes hl) o.v o.c o.d hu hr
theorem LdOk.has {z : Nat} {h : Ho} {l : List Int} {size : Int} {k b hf : Nat} (o : LdOk z h l size k b hf) (H : HoZ z h) (rep : List Int) : (loadO h k b hf (codeI l) (dataL l) rep).has k ⟨b, hf, codeI l, newX ((b : Int), ((2 * hf : Nat) : Int)) rep⟩ :=
  has_set_same (by have := H.ml; have := o.k16; omega) _
theorem img_32 : imgE (layL (List.replicate 32 0) []) = 0 := by
  rw [img_lay (by decide)]
  exact ver_halts 0
theorem load_first : loadE 16 (newO 16) (imgE (layL (List.replicate 32 0) [])) (codeI (layL (List.replicate 32 0) [])) (dataL (layL (List.replicate 32 0) [])) 128 = 0 := by
  have F := FullH.start 16 64
  have := F.loadE (by omega) (by decide) (by omega) (imgE (layL (List.replicate 32 0) [])) (codeI (layL (List.replicate 32 0) [])) (dataL (layL (List.replicate 32 0) [])) (by rw [lay_data]; simp)
  rw [show (128 : Int) = ((2 * 64 : Nat) : Int) from rfl, this, img_32, lay_code]
  simp
set_option maxHeartbeats 4000000 in
theorem awake14 (w : World) : Calls Tryz.prog 10 #[] w fun e w' => e = .returned (.bool true) ∧ Below w.heap.size w w' := by
  obtain ⟨W1, e1, R1, B1⟩ : ∃ W1, (Instr.makeSlice 39 (.int .i64 32) (.int .i64 32)).run Tryz.prog w = .ok (.slice (some ⟨w.heap.size, 0, none⟩) 32 32) W1 ∧ RowAt W1 (some ⟨w.heap.size, 0, none⟩) 32 (List.replicate 32 0) ∧ Below w.heap.size w W1 :=
    ⟨_, make_32 w, row_new32 w, bel_al (Below.refl _ _) _⟩
  have LC := Lib.hid (lay_yes (some ⟨w.heap.size, 0, none⟩) none 32 0 (List.replicate 32 0) [] 32 0 (by rw [List.length_replicate]) rfl (by omega) (by omega) W1 R1 (row_nil W1 none 0 (Nat.zero_le _)) (by decide))
  unfold LayY at LC
  have NC := Lib.hid (fun w' => hNew 16 (by omega) (by omega) w')
  have BB := Lib.hid B1
  have hlen : (layL (List.replicate 32 0) []).length = 44 := by rw [layL_len, List.length_replicate]; rfl
  have HLEN := Lib.hid hlen
  clear R1 B1 hlen
  have c1 : (((64 * 16 : Nat)) : Int) = 1024 := rfl
  rw [c1] at NC
  go_enter Tryz.func10, Tryz.ntmps10
  go_wp2_with fail
  refine LC.out.mono ?_; rintro e w2 ⟨A2, c2, rfl, o2, b2⟩
  have O2 := Lib.hid o2
  have B2 := Lib.hid (bel_then BB.out b2)
  clear o2 b2 LC e1
  dsimp only
  go_wp2_with fail
  refine (NC.out _).mono ?_; rintro e w3 ⟨hb, F, rfl, hat, hF, b3⟩
  have AT := Lib.hid hat
  have R3 := Lib.hid (O2.out.row.below b3)
  have B3 := Lib.hid (bel_then B2.out b3)
  have FF := Lib.hid (fun i (hi : F i) => Nat.le_trans B2.out.size (hF i hi))
  clear hat b3 hF O2
  obtain ⟨h0, hh0⟩ : ∃ h0, newO 16 = h0 := ⟨_, rfl⟩
  have HZ0 : HoZ 16 h0 := hh0 ▸ newO_z 16
  have FU0 : FullH 16 64 0 h0 := hh0 ▸ FullH.start 16 64
  have LF : loadE 16 h0 (imgE (layL (List.replicate 32 0) [])) (codeI (layL (List.replicate 32 0) [])) (dataL (layL (List.replicate 32 0) [])) 128 = 0 := hh0 ▸ load_first
  obtain ⟨l0, hl0⟩ : ∃ l0, layL (List.replicate 32 0) [] = l0 := ⟨_, rfl⟩
  have LB : Bytes l0 := hl0 ▸ layL_byte (C := List.replicate 32 0) (D := []) (fun x hx => by rw [List.eq_of_mem_replicate hx]; decide) (fun x hx => by cases hx) (by simp) (by simp)
  rw [hh0] at AT
  rw [hl0] at LF R3 HLEN
  have LD := Lib.hid (hLoad w3 hb 16 h0 F A2 c2 44 l0 128 none 0 0 [] AT.out HZ0 (by omega) (by omega) R3.out HLEN.out (by omega) (by decide) (kRow_nil _ w3) rfl (by omega))
  clear hh0 hl0
  dsimp only
  go_wp2_with fail
  refine LD.out.mono ?_; rintro e w4 hq
  rcases hq with ⟨hne, _⟩ | ⟨_, k, b, hf, hk, hs, hb2, rfl, F', at4, c4, sb4⟩
  · exact absurd LF hne
  · have ok := ld_ok HZ0 LF hk hs hb2
    have hk0 : k = 0 := by
      rw [FU0.free (by omega)] at hk
      injection hk with hk; exact hk.symm
    obtain rfl : hf = 64 := by omega
    have hb0 : b = (2 * 0 + 1) * (2 * 64) := by
      have := FU0.take (by decide) (by omega)
      rw [← hs, hb2] at this
      exact Int.ofNat.inj this
    subst hk0 hb0
    have HZ := ok.z HZ0 LB []
    have FU := FU0.next (code := codeI l0) (data := dataL l0) (rep := []) (by omega) (by decide) (by omega) (code_bytes LB) (data_bytes LB) (by have := ok.c; omega) ok.d
    have RW := FU.row (by omega) (by decide) (.inr (by omega))
    have B4 := Lib.hid (Below.trans B3.out (c4.below FF.out B3.out.size))
    have RC := Lib.hid (hRegs w4 hb 16 _ F' at4 HZ (by omega))
    have RL := Lib.hid (fun L (R : RegsL 16 _ L) => R.one RW)
    clear LD at4 c4 sb4 HZ FU RW ok hs hb2 hk HZ0 FU0 LF LB
    dsimp only
    go_wp2_with fail
    refine RC.out.mono ?_; rintro e w5 ⟨A, cap, L, rfl, rl, rr, rn, b5⟩
    have hL := RL.out L rl
    have hL2 : L = [(128, 128)] := by rw [hL]; rfl
    subst hL2
    obtain ⟨q, hq, hqb, hqc⟩ := rr.2.2.2 (by simp)
    subst hq
    have hc := hqc 0 (by simp)
    have c0 := hc.c0
    have c1 := hc.c1
    have e0 : q.add (0 * 2) = q := by unfold Addr.add; simp
    rw [e0] at c0 c1
    simp only [List.getD_cons_zero] at c0 c1
    have B5 := Lib.hid (bel_then B4.out b5)
    clear rl rr rn b5 hqc hc RC RL hL hqb
    dsimp only [List.length_cons, List.length_nil]
    go_wp2_with fail
    go_ret
    exact ⟨rfl, B5.out⟩
theorem row_lt' {w : World} {A : Option Addr} {cap : Nat} {l : List Int} (r : RowAt w A cap l) (h : 0 < l.length) {a : Addr} (ha : A = some a) : a.block < w.heap.size := by
  obtain ⟨p, hp, hb, _⟩ := r.2.2.2 (by intro e; rw [e] at h; simp at h)
  rw [ha] at hp
  cases hp
  exact hb
def SlAt (w : World) (x : Addr) (A : Option Addr) (c : Nat) (l : List Int) : Prop := w.cell? x = some (.slice A l.length c) ∧ RowAt w A c l
def RowsB (w : World) (A : Option Addr) (n cap : Nat) : Prop := n ≤ cap ∧ cap ≤ maxLen ∧ (0 < n → ∃ x, A = some x ∧ x.block < w.heap.size ∧ ∀ i, i < n → ∃ B c l, SlAt w (x.add i) B c l)
theorem SlAt.below {w w' : World} {x : Addr} {A : Option Addr} {c : Nat} {l : List Int} (h : SlAt w x A c l) (b : Below w.heap.size w w') (hx : x.block < w.heap.size) : SlAt w' x A c l := ⟨(b.cell hx).trans h.1, h.2.below b⟩
theorem RowsB.below {w w' : World} {A : Option Addr} {n cap : Nat} (h : RowsB w A n cap) (b : Below w.heap.size w w') : RowsB w' A n cap := by
  obtain ⟨h1, h2, h3⟩ := h
  refine ⟨h1, h2, fun hn => ?_⟩
  obtain ⟨x, hx, hb, hc⟩ := h3 hn
  refine ⟨x, hx, Nat.lt_of_lt_of_le hb b.size, fun i hi => ?_⟩
  obtain ⟨B, c, l, ht⟩ := hc i hi
  exact ⟨B, c, l, ht.below b (by rw [block_add]; exact hb)⟩
theorem SlAt.one {w : World} {x : Addr} {A A' : Option Addr} {c c' : Nat} {l l' : List Int} (h : SlAt w x A c l) (h' : SlAt w x A' c' l') : l.length = l'.length := by
  have h1 := h.1
  rw [h'.1] at h1
  injection h1 with h1
  injection h1 with _ h2
  exact h2.symm
structure Ac where
  d : Int
  c : Int
  g : Int
  i : Int
  n : Int
  A : Option Addr
  cap : Nat
  r : List Int
structure AcAt (w : World) (x : Addr) (t : Ac) : Prop where
  c0 : w.cell? x = some (.int .u8 t.d)
  c1 : w.cell? ⟨x.block, x.off + 1, none⟩ = some (.int .u8 t.c)
  c2 : w.cell? ⟨x.block, x.off + 2, none⟩ = some (.int .u8 t.g)
  c3 : w.cell? ⟨x.block, x.off + 3, none⟩ = some (.int .u8 t.i)
  c4 : w.cell? ⟨x.block, x.off + 4, none⟩ = some (.int .u8 t.n)
  c5 : w.cell? ⟨x.block, x.off + 5, none⟩ = some (.slice t.A t.r.length t.cap)
  d0 : 0 ≤ t.d ∧ t.d ≤ 255
  c0' : 0 ≤ t.c ∧ t.c ≤ 255
  g0 : 0 ≤ t.g ∧ t.g ≤ 255
  i0 : 0 ≤ t.i ∧ t.i ≤ 255
  n0 : 0 ≤ t.n ∧ t.n ≤ 255
  row : KRow .u32 w t.A t.cap t.r
def AcsAt (w : World) (A : Option Addr) (n cap : Nat) : Prop := n ≤ cap ∧ cap ≤ maxLen ∧ (0 < n → ∃ x, A = some x ∧ x.block < w.heap.size ∧ ∀ i, i < n → ∃ t, AcAt w (x.add (i * 6)) t)
theorem AcAt.below {w w' : World} {x : Addr} {t : Ac} (h : AcAt w x t) (b : Below w.heap.size w w') (hx : x.block < w.heap.size) : AcAt w' x t :=
  ⟨by rw [b.cell hx]; exact h.c0, (b.cell (p := ⟨x.block, x.off + 1, none⟩) hx).trans h.c1, (b.cell (p := ⟨x.block, x.off + 2, none⟩) hx).trans h.c2, (b.cell (p := ⟨x.block, x.off + 3, none⟩) hx).trans h.c3,
   (b.cell (p := ⟨x.block, x.off + 4, none⟩) hx).trans h.c4, (b.cell (p := ⟨x.block, x.off + 5, none⟩) hx).trans h.c5, h.d0, h.c0', h.g0, h.i0, h.n0, h.row.below b⟩
theorem AcsAt.below {w w' : World} {A : Option Addr} {n cap : Nat} (h : AcsAt w A n cap) (b : Below w.heap.size w w') : AcsAt w' A n cap := by
  obtain ⟨h1, h2, h3⟩ := h
  refine ⟨h1, h2, fun hn => ?_⟩
  obtain ⟨x, hx, hb, hc⟩ := h3 hn
  refine ⟨x, hx, Nat.lt_of_lt_of_le hb b.size, fun i hi => ?_⟩
  obtain ⟨t, ht⟩ := hc i hi
  exact ⟨t, ht.below b (by rw [block_add]; exact hb)⟩
theorem AcAt.one {w : World} {x : Addr} {t t' : Ac} (h : AcAt w x t) (h' : AcAt w x t') : t'.r.length = t.r.length := by
  have h1 := h.c5
  rw [h'.c5] at h1
  injection h1 with h1
  injection h1
theorem rowsB_of {H : Type} {enc : TypeId × Value → H} {w : World} {base : Nat} {spare : Nat → Bool} {held : Bool} {a : Option Addr} {len cap : Nat} {d : DataW H} {ps : List MemPlace}
    (h : DataW.Trod enc Tryz.prog w base spare held 22 (.slice a len cap) d ps) : RowsB w a len cap := by
  obtain ⟨fuel, hf⟩ := h
  have k5 : Tryz.prog.cellsOf 5 = 1 := by kernel_rfl
  have k30 : Tryz.prog.cellsOf 39 = 1 := by kernel_rfl
  rcases Go.Deep.open_slice Tryz.underlying22 hf with ⟨hcs, _⟩ | ⟨x, len', cap', m, n, D, Pl, hcs, hb, hl, hm, hmm, _, hi⟩
  · simp [Value.cells] at hcs
    obtain ⟨rfl, rfl, rfl⟩ := hcs
    exact ⟨Nat.le_refl _, Nat.zero_le _, fun h => by omega⟩
  · simp [Value.cells] at hcs
    obtain ⟨rfl, rfl, rfl⟩ := hcs
    have hlm : len ≤ m := by rw [hmm]; split <;> omega
    rw [k30] at hi
    have key : ∀ i, i < len → ∃ B c l, SlAt w (x.add i) B c l := by
      intro i hil
      obtain ⟨cs', hc, ht⟩ := hi i (by omega)
      obtain ⟨_, hcl, hat⟩ := World.cells?_some hc
      match cs', hcl with
      | [y0], _ =>
        obtain ⟨A5, l5, c5, e5⟩ : ∃ A l c, y0 = .slice A l c := by
          rcases Go.Deep.open_slice Tryz.underlying39 ht with ⟨hq, _⟩ | ⟨x5, l5, c5, _, _, _, _, hq, _⟩
          · simp only [List.cons.injEq, and_true] at hq; exact ⟨_, _, _, hq⟩
          · simp only [List.cons.injEq, and_true] at hq; exact ⟨_, _, _, hq⟩
        subst e5
        have tr : DataW.Trod enc Tryz.prog w base spare held 39 (.slice A5 l5 c5) (D i) (Pl i) := ⟨n, by simpa [Value.cells] using ht⟩
        obtain ⟨bl, hbl, hrow⟩ := row_of Tryz.underlying39 Tryz.underlying5 k5 tr
        subst hbl
        have h0 := hat 0 (by decide)
        simp only [List.getElem?_cons_zero, Nat.mul_one] at h0
        have e00 : (x.add i).add 0 = x.add i := by simp [Addr.add]
        rw [e00] at h0
        exact ⟨A5, c5, bl, h0, hrow⟩
    refine ⟨hl, hm, fun hn => ⟨x, rfl, ?_, key⟩⟩
    obtain ⟨B, c, l, ht⟩ := key 0 hn
    have := block_of_cell ht.1
    rwa [block_add] at this
set_option maxRecDepth 100000 in
theorem acs_of {H : Type} {enc : TypeId × Value → H} {w : World} {base : Nat} {spare : Nat → Bool} {held : Bool} {a : Option Addr} {len cap : Nat} {d : DataW H} {ps : List MemPlace}
    (h : DataW.Trod enc Tryz.prog w base spare held 23 (.slice a len cap) d ps) : AcsAt w a len cap := by
  obtain ⟨fuel, hf⟩ := h
  have hC : Tryz.prog.cellsOf 38 = 6 := by kernel_rfl
  have k5 : Tryz.prog.cellsOf 5 = 1 := by kernel_rfl
  have k30 : Tryz.prog.cellsOf 36 = 1 := by kernel_rfl
  rcases Go.Deep.open_slice Tryz.underlying23 hf with ⟨hcs, _⟩ | ⟨x, len', cap', m, n, D, Pl, hcs, hb, hl, hm, hmm, _, hi⟩
  · simp [Value.cells] at hcs
    obtain ⟨rfl, rfl, rfl⟩ := hcs
    exact ⟨Nat.le_refl _, Nat.zero_le _, fun h => by omega⟩
  · simp [Value.cells] at hcs
    obtain ⟨rfl, rfl, rfl⟩ := hcs
    have hlm : len ≤ m := by rw [hmm]; split <;> omega
    rw [hC] at hi
    have key : ∀ i, i < len → ∃ t, AcAt w (x.add (i * 6)) t := by
      intro i hil
      obtain ⟨cs', hc, ht⟩ := hi i (by omega)
      obtain ⟨_, hcl, hat⟩ := World.cells?_some hc
      obtain ⟨xs, n', _, _, _, _, hfs⟩ := DataW.trod_struct Tryz.underlying38 ht
      match cs', hcl with
      | [y0, y1, y2, y3, y4, y5], _ =>
        have f0 : DataW.trod enc Tryz.prog w base spare held n' 5 (([y0, y1, y2, y3, y4, y5].drop 0).take (Tryz.prog.cellsOf 5)) = xs[0]? := hfs 0 _ rfl
        have f1 : DataW.trod enc Tryz.prog w base spare held n' 5 (([y0, y1, y2, y3, y4, y5].drop 1).take (Tryz.prog.cellsOf 5)) = xs[1]? := hfs 1 _ rfl
        have f2 : DataW.trod enc Tryz.prog w base spare held n' 5 (([y0, y1, y2, y3, y4, y5].drop 2).take (Tryz.prog.cellsOf 5)) = xs[2]? := hfs 2 _ rfl
        have f3 : DataW.trod enc Tryz.prog w base spare held n' 5 (([y0, y1, y2, y3, y4, y5].drop 3).take (Tryz.prog.cellsOf 5)) = xs[3]? := hfs 3 _ rfl
        have f4 : DataW.trod enc Tryz.prog w base spare held n' 5 (([y0, y1, y2, y3, y4, y5].drop 4).take (Tryz.prog.cellsOf 5)) = xs[4]? := hfs 4 _ rfl
        have f5 : DataW.trod enc Tryz.prog w base spare held n' 36 (([y0, y1, y2, y3, y4, y5].drop 5).take (Tryz.prog.cellsOf 36)) = xs[5]? := hfs 5 _ rfl
        simp only [k5, k30, List.drop_zero, List.drop_succ_cons, List.take_succ_cons, List.take_zero] at f0 f1 f2 f3 f4 f5
        have some_of : ∀ j, j < 6 → ∃ y, xs[j]? = some y := fun j hj => ⟨xs[j]'(by simp_all), List.getElem?_eq_getElem _⟩
        obtain ⟨r0, q0⟩ := some_of 0 (by decide)
        obtain ⟨r1, q1⟩ := some_of 1 (by decide)
        obtain ⟨r2, q2⟩ := some_of 2 (by decide)
        obtain ⟨r3, q3⟩ := some_of 3 (by decide)
        obtain ⟨r4, q4⟩ := some_of 4 (by decide)
        obtain ⟨r5, q5⟩ := some_of 5 (by decide)
        obtain ⟨v0, e0, _, g0⟩ := DataW.trod_int Tryz.underlying5 (f0.trans q0)
        obtain ⟨v1, e1, _, g1⟩ := DataW.trod_int Tryz.underlying5 (f1.trans q1)
        obtain ⟨v2, e2, _, g2⟩ := DataW.trod_int Tryz.underlying5 (f2.trans q2)
        obtain ⟨v3, e3, _, g3⟩ := DataW.trod_int Tryz.underlying5 (f3.trans q3)
        obtain ⟨v4, e4, _, g4⟩ := DataW.trod_int Tryz.underlying5 (f4.trans q4)
        simp only [List.cons.injEq, and_true] at e0 e1 e2 e3 e4
        subst e0 e1 e2 e3 e4
        obtain ⟨A5, l5, c5, e5⟩ : ∃ A l c, y5 = .slice A l c := by
          rcases Go.Deep.open_slice Tryz.underlying36 (f5.trans q5) with ⟨hq, _⟩ | ⟨x5, l5, c5, _, _, _, _, hq, _⟩
          · simp only [List.cons.injEq, and_true] at hq; exact ⟨_, _, _, hq⟩
          · simp only [List.cons.injEq, and_true] at hq; exact ⟨_, _, _, hq⟩
        subst e5
        have tr : DataW.Trod enc Tryz.prog w base spare held 36 (.slice A5 l5 c5) r5.1 r5.2 := ⟨n', by simpa [Value.cells] using f5.trans q5⟩
        obtain ⟨bl, hbl, hrow⟩ := u32row_of tr
        subst hbl
        have h0 := hat 0 (by decide)
        have h1 := hat 1 (by decide)
        have h2 := hat 2 (by decide)
        have h3 := hat 3 (by decide)
        have h4 := hat 4 (by decide)
        have h5 := hat 5 (by decide)
        simp only [List.getElem?_cons_succ, List.getElem?_cons_zero] at h0 h1 h2 h3 h4 h5
        have ad : ∀ n, (x.add (i * 6)).add (n + 1) = ⟨(x.add (i * 6)).block, (x.add (i * 6)).off + (n + 1), none⟩ := fun n => by generalize x.add (i * 6) = y; unfold Addr.add; simp
        rw [ad 0] at h1
        rw [ad 1] at h2
        rw [ad 2] at h3
        rw [ad 3] at h4
        rw [ad 4] at h5
        have e00 : (x.add (i * 6)).add 0 = x.add (i * 6) := by simp [Addr.add]
        rw [e00] at h0
        exact ⟨⟨v0, v1, v2, v3, v4, A5, c5, bl⟩, ⟨h0, h1, h2, h3, h4, h5, bounds_u8 g0, bounds_u8 g1, bounds_u8 g2, bounds_u8 g3, bounds_u8 g4, hrow⟩⟩
    refine ⟨hl, hm, fun hn => ⟨x, rfl, ?_, key⟩⟩
    obtain ⟨t, ht⟩ := key 0 hn
    have := block_of_cell ht.c0
    rwa [block_add] at this
def Few14 (w : World) (A : Option Addr) (n : Nat) (A' : Option Addr) (m : Nat) : Prop := 1 ≤ n ∧ n ≤ 6 ∧ m ≤ 30 ∧ (∀ x, A = some x → ∀ i, i < n → ∀ B c l, SlAt w (x.add i) B c l → l.length ≤ 300) ∧ (∀ x, A' = some x → ∀ i, i < m → ∀ t, AcAt w (x.add (i * 6)) t → t.r.length ≤ 20)
def Few14E (w : World) (A : Option Addr) (n : Nat) (A' : Option Addr) (m : Nat) (e : Ending) (w' : World) : Prop := ∃ b, e = .returned (.bool b) ∧ (b = true → Few14 w A n A' m) ∧ w = w'
set_option maxHeartbeats 4000000 in
theorem few14 (A A' : Option Addr) (n cap m cap' : Nat) (w : World) (hr : RowsB w A n cap) (ha : AcsAt w A' m cap') : Calls Tryz.prog 11 #[.slice A n cap, .slice A' m cap'] w (Few14E w A n A' m) := by
  obtain ⟨r1, r2, r3⟩ := hr
  obtain ⟨h1, h2, h3⟩ := ha
  unfold maxLen at h2 r2
  have H3 := Lib.hid h3
  have R3 := Lib.hid r3
  clear h3 r3
  go_enter Tryz.func11, Tryz.ntmps11
  go_wp2_with fail
  go_loop [5] (fun i => ∃ k : Nat, k ≤ n ∧ k ≤ 7 ∧ i = .int .i64 k ∧ ∀ x, A = some x → ∀ j, j < k → ∀ B c l, SlAt w (x.add j) B c l → l.length ≤ 300) (fun i => 7 - (intOf i).toNat)
  case atStart => exact ⟨0, Nat.zero_le _, by decide, rfl, fun x _ j hj => by omega⟩
  case round =>
    obtain ⟨k, hk, hk41, rfl, hall⟩ := hrel
    have HA := Lib.hid hall; clear hall
    by_cases hlt : k < n ∧ k ≤ 6
    · obtain ⟨hlt, h40⟩ := hlt
      obtain ⟨x, rfl, hxb, hx⟩ := R3.out (by omega)
      obtain ⟨B, c, l, ht⟩ := hx k hlt
      have c5 := ht.1
      have hb := ht.2.1
      have hb2 := ht.2.2.1
      have hb3 := ht.2
      unfold RowAt at hb3
      have HT := Lib.hid ht
      clear ht hx
      have kI : (k : Int) < (n : Int) := by omega
      by_cases hq : 300 < l.length
      · go_wp2_with fail
        go_ret
        exact ⟨false, rfl, (fun h => by cases h), rfl⟩
      · go_wp2_with fail
        go_round
        case rel => exact ⟨k + 1, hlt, by omega, by go_num, fun y hy j hj B' c' l' hs => by
          injection hy with hy; subst hy
          by_cases e : j = k
          · subst e
            have := HT.out.one hs
            omega
          · exact HA.out _ rfl j (by omega) B' c' l' hs⟩
        case measure => simp [intOf]; omega
    · by_cases hkn : k < n
      · have h7 : k = 7 := by omega
        subst h7
        have d0 : decide ((7 : Int) < (n : Int)) = true := decide_eq_true (by omega)
        have COV : Hid (n ≤ 6 → ∀ x, A = some x → ∀ j, j < n → ∀ B c l, SlAt w (x.add j) B c l → l.length ≤ 300) := Lib.hid (fun h => by omega)
        obtain hcov := COV.out
        go_wp2_with fail
        go_loop [6] (fun i => ∃ k : Nat, k ≤ m ∧ k ≤ 31 ∧ i = .int .i64 k ∧ ∀ x, A' = some x → ∀ j, j < k → ∀ t, AcAt w (x.add (j * 6)) t → t.r.length ≤ 20) (fun i => 31 - (intOf i).toNat)
        case atStart => exact ⟨0, Nat.zero_le _, by decide, rfl, fun x _ j hj => by omega⟩
        case round =>
          obtain ⟨q, hk, hk41, rfl, hall⟩ := hrel
          have HA2 := Lib.hid hall; clear hall
          by_cases hlt : q < m ∧ q ≤ 30
          · obtain ⟨hlt, h40⟩ := hlt
            obtain ⟨x, rfl, hxb, hx⟩ := H3.out (by omega)
            obtain ⟨t, ht⟩ := hx q hlt
            have c5 := ht.c5
            have hb := ht.row.1
            have hb2 := ht.row.2.1
            have HT := Lib.hid ht
            clear ht hx
            have kI : (q : Int) < (m : Int) := by omega
            by_cases hq : 20 < t.r.length
            · go_wp2_with fail
              go_ret
              exact ⟨false, rfl, (fun h => by cases h), rfl⟩
            · go_wp2_with fail
              go_round
              case rel => exact ⟨q + 1, hlt, by omega, by go_num, fun y hy j hj s hs => by
                injection hy with hy; subst hy
                by_cases e : j = q
                · subst e
                  have := HT.out.one hs
                  omega
                · exact HA2.out _ rfl j (by omega) s hs⟩
              case measure => simp [intOf]; omega
          · have END : Hid (∀ b : Bool, (b = true → 1 ≤ n ∧ n ≤ 6 ∧ m ≤ 30) → Few14E w A n A' m (.returned (.bool b)) w) := Lib.hid (fun b hb => ⟨b, rfl, fun h => ⟨(hb h).1, (hb h).2.1, (hb h).2.2, hcov (hb h).2.1, fun x hx i hi => HA2.out x hx i (by have := (hb h).2.2; omega)⟩, rfl⟩)
            by_cases n1 : 1 ≤ n
            · have d1 : decide ((1 : Int) ≤ (n : Int)) = true := decide_eq_true (by omega)
              by_cases n6 : n ≤ 6
              · have d2 : decide ((n : Int) ≤ 6) = true := decide_eq_true (by omega)
                by_cases m3 : m ≤ 30
                · have d3 : decide ((m : Int) ≤ 30) = true := decide_eq_true (by omega)
                  have hqm : q = m := by omega
                  subst hqm
                  go_wp2_with fail
                  go_ret
                  exact END.out true (fun _ => ⟨n1, n6, m3⟩)
                · have d3 : decide ((m : Int) ≤ 30) = false := decide_eq_false (by omega)
                  have hqm : q = 31 := by omega
                  subst hqm
                  by_cases hm31 : 31 < m
                  · have d4 : decide ((31 : Int) < (m : Int)) = true := decide_eq_true (by omega)
                    go_wp2_with fail
                    go_ret
                    exact END.out false (fun h => by cases h)
                  · obtain rfl : m = 31 := by omega
                    go_wp2_with fail
                    go_ret
                    exact END.out false (fun h => by cases h)
              · have d2 : decide ((n : Int) ≤ 6) = false := decide_eq_false (by omega)
                by_cases hqm : q < m
                · have d4 : decide ((q : Int) < (m : Int)) = true := decide_eq_true (by omega)
                  have d5 : decide ((q : Int) ≤ 30) = false := decide_eq_false (by omega)
                  go_wp2_with fail
                  go_ret
                  exact END.out false (fun h => by cases h)
                · obtain rfl : q = m := by omega
                  go_wp2_with fail
                  go_ret
                  exact END.out false (fun h => by cases h)
            · obtain rfl : n = 0 := by omega
              by_cases hqm : q < m
              · have d4 : decide ((q : Int) < (m : Int)) = true := decide_eq_true (by omega)
                have d5 : decide ((q : Int) ≤ 30) = false := decide_eq_false (by omega)
                go_wp2_with fail
                go_ret
                exact END.out false (fun h => by cases h)
              · obtain rfl : q = m := by omega
                go_wp2_with fail
                go_ret
                exact END.out false (fun h => by cases h)
      · have hk' : k = n := by omega
        subst hk'
        have COV : Hid (k ≤ 6 → ∀ x, A = some x → ∀ j, j < k → ∀ B c l, SlAt w (x.add j) B c l → l.length ≤ 300) := Lib.hid (fun h => HA.out)
        obtain hcov := COV.out
        go_wp2_with fail
        go_loop [6] (fun i => ∃ k : Nat, k ≤ m ∧ k ≤ 31 ∧ i = .int .i64 k ∧ ∀ x, A' = some x → ∀ j, j < k → ∀ t, AcAt w (x.add (j * 6)) t → t.r.length ≤ 20) (fun i => 31 - (intOf i).toNat)
        case atStart => exact ⟨0, Nat.zero_le _, by decide, rfl, fun x _ j hj => by omega⟩
        case round =>
          obtain ⟨q, hk, hk41, rfl, hall⟩ := hrel
          have HA2 := Lib.hid hall; clear hall
          by_cases hlt : q < m ∧ q ≤ 30
          · obtain ⟨hlt, h40⟩ := hlt
            obtain ⟨x, rfl, hxb, hx⟩ := H3.out (by omega)
            obtain ⟨t, ht⟩ := hx q hlt
            have c5 := ht.c5
            have hb := ht.row.1
            have hb2 := ht.row.2.1
            have HT := Lib.hid ht
            clear ht hx
            have kI : (q : Int) < (m : Int) := by omega
            by_cases hq : 20 < t.r.length
            · go_wp2_with fail
              go_ret
              exact ⟨false, rfl, (fun h => by cases h), rfl⟩
            · go_wp2_with fail
              go_round
              case rel => exact ⟨q + 1, hlt, by omega, by go_num, fun y hy j hj s hs => by
                injection hy with hy; subst hy
                by_cases e : j = q
                · subst e
                  have := HT.out.one hs
                  omega
                · exact HA2.out _ rfl j (by omega) s hs⟩
              case measure => simp [intOf]; omega
          · have END : Hid (∀ b : Bool, (b = true → 1 ≤ k ∧ k ≤ 6 ∧ m ≤ 30) → Few14E w A k A' m (.returned (.bool b)) w) := Lib.hid (fun b hb => ⟨b, rfl, fun h => ⟨(hb h).1, (hb h).2.1, (hb h).2.2, hcov (hb h).2.1, fun x hx i hi => HA2.out x hx i (by have := (hb h).2.2; omega)⟩, rfl⟩)
            by_cases n1 : 1 ≤ k
            · have d1 : decide ((1 : Int) ≤ (k : Int)) = true := decide_eq_true (by omega)
              by_cases n6 : k ≤ 6
              · have d2 : decide ((k : Int) ≤ 6) = true := decide_eq_true (by omega)
                by_cases m3 : m ≤ 30
                · have d3 : decide ((m : Int) ≤ 30) = true := decide_eq_true (by omega)
                  have hqm : q = m := by omega
                  subst hqm
                  go_wp2_with fail
                  go_ret
                  exact END.out true (fun _ => ⟨n1, n6, m3⟩)
                · have d3 : decide ((m : Int) ≤ 30) = false := decide_eq_false (by omega)
                  have hqm : q = 31 := by omega
                  subst hqm
                  by_cases hm31 : 31 < m
                  · have d4 : decide ((31 : Int) < (m : Int)) = true := decide_eq_true (by omega)
                    go_wp2_with fail
                    go_ret
                    exact END.out false (fun h => by cases h)
                  · obtain rfl : m = 31 := by omega
                    go_wp2_with fail
                    go_ret
                    exact END.out false (fun h => by cases h)
              · have d2 : decide ((k : Int) ≤ 6) = false := decide_eq_false (by omega)
                by_cases hqm : q < m
                · have d4 : decide ((q : Int) < (m : Int)) = true := decide_eq_true (by omega)
                  have d5 : decide ((q : Int) ≤ 30) = false := decide_eq_false (by omega)
                  go_wp2_with fail
                  go_ret
                  exact END.out false (fun h => by cases h)
                · obtain rfl : q = m := by omega
                  go_wp2_with fail
                  go_ret
                  exact END.out false (fun h => by cases h)
            · obtain rfl : k = 0 := by omega
              by_cases hqm : q < m
              · have d4 : decide ((q : Int) < (m : Int)) = true := decide_eq_true (by omega)
                have d5 : decide ((q : Int) ≤ 30) = false := decide_eq_false (by omega)
                go_wp2_with fail
                go_ret
                exact END.out false (fun h => by cases h)
              · obtain rfl : q = m := by omega
                go_wp2_with fail
                go_ret
                exact END.out false (fun h => by cases h)
theorem rev_info : (Tryz.prog.info? 110).map (fun i => (i.zero, i.size, i.bytes)) = some (some (.agg #[.int .i64 0, .int .u32 0]), 2, 16) := by kernel_rfl
theorem rev_of_own {T : TypeId} {w : World} {base n : Nat} {v : Value} {L : List Ev} (h : w.ownsRow base T 2 v n (L.flatMap evC)) (hw : ∀ x ∈ L, evWf x) : ∃ A cap, v = .slice A n cap ∧ n = L.length ∧ EvRow w A cap L := by
  have hl : L.length = n := by have := h.1; rw [flatV_len] at this; omega
  rcases h.2 with ⟨rfl, rfl⟩ | ⟨g, cap, cur, rfl, _, hh, hc, hm, _⟩
  · have : L = [] := List.eq_nil_of_length_eq_zero hl
    subst this
    exact ⟨none, 0, rfl, rfl, evRow_nil w⟩
  · refine ⟨_, cap, rfl, hl.symm, by omega, hm, hw, fun hne => ⟨_, rfl, (h.lt g rfl).2, fun i hi => ?_⟩⟩
    have key : ∀ j, j < 2 → w.cell? ⟨g, i * 2 + j, none⟩ = (evC (L.getD i (0, 0)))[j]? := fun j hj => by
      have e := flatV_get L i hi j hj
      have hs : ∃ u, (evC (L.getD i (0, 0)))[j]? = some u := ⟨_, List.getElem?_eq_getElem (show j < (evC _).length from hj)⟩
      obtain ⟨u, hu⟩ := hs
      rw [hu] at e ⊢
      have := h.cells (g := g) rfl _ u e
      rw [addr0V] at this
      exact this
    rw [addr0V]
    exact ⟨key 0 (by decide), key 1 (by decide)⟩
theorem rev_cells {w : World} {p : Addr} {M : List Ev} (h : ∀ i, i < M.length → EvAt w (p.add (i * 2)) (M.getD i (0, 0))) : ∀ j u, (M.flatMap evC)[j]? = some u → w.cell? (p.add j) = some u := by
  intro j u hj
  have hjl : j < M.length * 2 := by
    rcases Nat.lt_or_ge j (M.length * 2) with h | h
    · exact h
    · rw [List.getElem?_eq_none (by rw [flatV_len]; exact h)] at hj; cases hj
  obtain ⟨q, r, hr, rfl⟩ : ∃ q r, r < 2 ∧ j = q * 2 + r := ⟨j / 2, j % 2, by omega, by omega⟩
  have hi : q < M.length := by omega
  obtain ⟨k0, k1⟩ := h q hi
  have e := flatV_get M q hi r hr
  rw [hj] at e
  generalize M.getD q (0, 0) = y at *
  have hr : r = 0 ∨ r = 1 := by omega
  rcases hr with rfl | rfl <;> simp [evC] at e <;> subst e
  · exact k0
  · have e2 : p.add (q * 2 + 1) = ⟨(p.add (q * 2)).block, (p.add (q * 2)).off + 1, none⟩ := by
      have e3 : p.add (q * 2 + 1) = (p.add (q * 2)).add 1 := by
        unfold Addr.add
        by_cases h : q = 0
        · subst h; simp
        · have h4 : ¬ q * 2 = 0 := by omega
          simp [h4, Nat.add_assoc]
      rw [e3]
      generalize p.add (q * 2) = y
      unfold Addr.add
      simp
    rw [e2]; exact k1
theorem flatV_ones (L : List Ev) : ∀ u ∈ L.flatMap evC, u.oneCell' = true := by
  intro u hu
  obtain ⟨x, _, h⟩ := List.mem_flatMap.1 hu
  exact evC_one x u h
theorem append_nil_rev {w : World} {base : Nat} {ty : TypeId} {v : Value} {n : Nat} {xs : List Value} (hown : w.ownsRow base 110 2 v n xs) (c : Nat) :
    (Builtin.append_ #[109, 109] ty #[v, .slice none 0 c]).run Tryz.prog w = .ok v w := by
  obtain ⟨u0, hu0, hz0, hz1, hz2⟩ := info_parts rev_info
  rcases hown.2 with ⟨rfl, rfl⟩ | ⟨g, cap, cur, rfl, _, _, hnc, _⟩
  · simp [Builtin.append_, run_underlying Tryz.underlying109, sizeOf, typeInfo, hu0, Builtin.lenOf, Builtin.firstCells]
  · simp [Builtin.append_, run_underlying Tryz.underlying109, sizeOf, typeInfo, hu0, Builtin.lenOf, Builtin.firstCells, hnc, storeCells]
theorem app_revrow_op {w : World} {o : Oper} {a : Act} {K : Act → World → Prop} {Q : Exit → Act → World → Prop} (s x : Operand)
    (ho : o.op = .call { callee := .builtin .append, args := #[s, x], argTypes := #[109, 109] })
    (base : Nat) (v : Value) (n : Nat) (L : List Ev) (hs : a.eval s = v) (hown : w.ownsRow base 110 2 v n (L.flatMap evC)) (hW : ∀ y ∈ L, evWf y)
    (A : Option Addr) (m c : Nat) (M : List Ev) (hx : a.eval x = .slice A m c) (hm : m = M.length) (cap : Nat) (hr : EvRow w A cap M) (n' : Nat) (hn' : n' = n + m) (hlen : n + m ≤ 200000) (hbase : base ≤ w.heap.size)
    (h : ∀ A' cap' w', w'.ownsRow base 110 2 (.slice A' n' cap') n' ((L ++ M).flatMap evC) → w.grownBy w' v.ownBlock → Below base w w' → K (a.put o.dst (.slice A' n' cap')) w') :
    o.wp Tryz.prog a w K Q := by
  subst hn'
  obtain ⟨u0, hu0, hz0, hz1, hz2⟩ := info_parts rev_info
  have hLM : ∀ y ∈ L ++ M, evWf y := fun z hz => (List.mem_append.1 hz).elim (hW z) (hr.2.2.1 z)
  cases A with
  | none =>
    have hM : M = [] := by
      by_cases hne : M = []
      · exact hne
      · obtain ⟨ad, h, _⟩ := hr.2.2.2 hne; cases h
    subst hM
    subst hm
    unfold Oper.wp execOp
    simp only [ho, resolve, invoke, builtin, Sem.run_bind, Sem.run_pure, Result.andThen_ok, List.map_toArray, List.map_cons, List.map_nil, hs, hx, List.length_nil, append_nil_rev hown c]
    have hown' : w.ownsRow base 110 2 v (n + 0) ((L ++ []).flatMap evC) := by simpa using hown
    obtain ⟨A', cap', rfl, _, hrow⟩ := rev_of_own hown' hLM
    exact h A' cap' w hown' ⟨rfl, rfl, rfl, Nat.le_refl _, fun k hk _ => rfl⟩ (Below.refl _ _)
  | some ad =>
    have hcs : ∀ j u, (M.flatMap evC)[j]? = some u → w.cell? (ad.add j) = some u := by
      by_cases hne : M = []
      · subst hne; intro j u hj; simp at hj
      · obtain ⟨ad', e, _, hc⟩ := hr.2.2.2 hne
        injection e with e; subst e
        exact rev_cells hc
    refine wp_append_own w s x 109 ho base 110 u0 _ 2 16 Tryz.underlying109 hu0 hz0 hz1 hz2 rfl (by decide) v n (L.flatMap evC) hs hown ad m c (M.flatMap evC) hx (by rw [flatV_len, hm])
      hcs (flatV_ones M) (by unfold maxLen; omega) (by omega) hbase ?_
    intro v' w' hown' hg _
    rw [← flatV_app] at hown'
    obtain ⟨A', cap', rfl, _, hrow⟩ := rev_of_own hown' hLM
    exact h A' cap' w' hown' hg ((Below.refl base w).grown hg hbase (fun k hk => (hown.lt k hk).1))
theorem rev_one (w : World) (y : Ev) (hy : evWf y) (c : Nat) (h1 : 1 ≤ c) (h2 : c ≤ maxLen) : EvRow (w.alloc (.cells #[.int .i64 y.1, .int .u32 y.2] 110)) (some ⟨w.heap.size, 0, none⟩) c [y] :=
  ⟨by simpa using h1, h2, fun x hx => by simp at hx; subst hx; exact hy, fun _ => ⟨_, rfl, by simp, fun i hi => by
    have h0 : i = 0 := by simp at hi; omega
    subst h0
    simpa [Addr.add] using evAt_new w y 110⟩⟩
theorem rev_keep {w w' : World} {base n : Nat} {v : Value} {xs : List Value} (h : w.ownsRow base 110 2 v n xs) (b : Below w.heap.size w w') : w'.ownsRow base 110 2 v n xs :=
  h.kept (row := none) ⟨b.os, b.tape, b.output, b.size, fun k hk _ => b.block k hk⟩ (by cases hv : v.ownBlock <;> simp)
theorem allocY (w : World) (y : Ev) (hy : evWf y) : ∃ W, w.alloc (.cells #[.int .i64 y.1, .int .u32 y.2] 110) = W ∧ EvRow W (some ⟨w.heap.size, 0, none⟩) 1 [y] ∧ Below w.heap.size w W := ⟨_, rfl, rev_one w y hy 1 (Nat.le_refl _) (by unfold maxLen; omega), bel_al (Below.refl _ _) _⟩
theorem boxL (w : World) (a b c d e a' b' c' d' e' : Value) : ∃ W, (w.alloc (.cells #[a, b, c, d, e] 61)).alloc (.cells #[a', b', c', d', e'] 113) = W ∧ HasB W w.heap.size 61 [a, b, c, d, e] ∧ HasB W (w.heap.size + 1) 113 [a', b', c', d', e'] ∧ Below w.heap.size w W :=
  ⟨_, rfl, ((HasB.new w 61 [a, b, c, d, e]).below (bel_al (Below.refl _ _) _)), (by have := HasB.new (w.alloc (.cells #[a, b, c, d, e] 61)) 113 [a', b', c', d', e']; simpa using this), bel_al (bel_al (Below.refl _ _) _) _⟩
set_option maxRecDepth 10000 in
set_option maxHeartbeats 4000000 in
theorem same12_any (l : List Int) (tr : List Ev) (n k : Nat) (tk cd : Int) (ov : Bool) (hl : l.length = n) (ht : tr.length = k) (hn : n ≤ 100000) (hk : k ≤ 100000) (w : World) (A A' T T' : Option Addr) (ca ca' ct ct' : Nat)
    (r1 : KRow .u32 w A ca l) (r2 : KRow .u32 w A' ca' l) (e1 : EvRow w T ct tr) (e2 : EvRow w T' ct' tr) :
    Calls Tryz.prog 49 #[.agg #[.slice A n ca, .int .i64 tk, .slice T k ct, .bool ov, .int .u32 cd], .agg #[.slice A' n ca', .int .i64 tk, .slice T' k ct', .bool ov, .int .u32 cd]] w fun e w' => e = .returned (.int .i64 1) ∧ Below w.heap.size w w' := by
  obtain ⟨W, hW, h1, h2, bel⟩ := boxL w (.slice A n ca) (.int .i64 tk) (.slice T k ct) (.bool ov) (.int .u32 cd) (.slice A' n ca') (.int .i64 tk) (.slice T' k ct') (.bool ov) (.int .u32 cd)
  have H1 := Lib.hid h1
  have H2 := Lib.hid h2
  have BW := Lib.hid bel
  have R1 := Lib.hid (r1.below bel)
  have R2 := Lib.hid (r2.below bel)
  have E1 := Lib.hid (e1.below bel)
  have E2 := Lib.hid (e2.below bel)
  have HL := Lib.hid hl
  have HT := Lib.hid ht
  obtain ⟨a0, a1, a2, a3, a4⟩ := has5 h1
  obtain ⟨b0, b1, b2, b3, b4⟩ := has5 h2
  have hov : (ov != ov) = false := by cases ov <;> rfl
  clear h1 h2 bel r1 r2 e1 e2 hl ht
  go_enter Tryz.func49, Tryz.ntmps49
  go_wp2_with fail
  go_loopw [5] (fun i wr => ∃ (j : Nat), i = .int .i64 j ∧ j ≤ n ∧ Hid (Below W.heap.size W wr)) (fun i _ => n - (intOf i).toNat)
  case atStart => exact ⟨0, rfl, by omega, Lib.hid (Below.refl _ _)⟩
  case round =>
    obtain ⟨j, rfl, hj, HB⟩ := hrel
    clear a0 a1 a2 a3 a4 b0 b1 b2 b3 b4
    obtain ⟨a0, a1, a2, a3, a4⟩ := has5 (H1.out.below HB.out)
    obtain ⟨b0, b1, b2, b3, b4⟩ := has5 (H2.out.below HB.out)
    by_cases hlt : j < n
    · obtain ⟨x, rfl, cx, wx⟩ := (R1.out.below HB.out).at (by rw [HL.out]; exact hlt)
      obtain ⟨y, rfl, cy, wy⟩ := (R2.out.below HB.out).at (by rw [HL.out]; exact hlt)
      generalize l.getD j 0 = v at *
      clear wx wy
      go_wp2_with fail
      go_quiet (fail)
      go_wp2_with fail
      go_roundw
      case rel => exact ⟨j + 1, by go_num, by omega, Lib.hid (below_drewN HB.out _)⟩
      case measure => simp [intOf]; omega
    · obtain rfl : j = n := by omega
      go_wp2_with fail
      have B9 := Lib.hid HB.out
      generalize hq : wr = wq at *
      clear hq HB
      have BQ := Lib.hid (BW.out.trans (B9.out.mono BW.out.size))
      go_loopw [6] (fun i wr => ∃ (j : Nat), i = .int .i64 j ∧ j ≤ k ∧ Hid (Below wq.heap.size wq wr)) (fun i _ => k - (intOf i).toNat)
      case atStart => exact ⟨0, rfl, by omega, Lib.hid (Below.refl _ _)⟩
      case round =>
        obtain ⟨i, rfl, hi, HC⟩ := hrel
        have HB := Lib.hid (B9.out.trans (HC.out.mono B9.out.size))
        clear a0 a1 a2 a3 a4 b0 b1 b2 b3 b4
        obtain ⟨a0, a1, a2, a3, a4⟩ := has5 (H1.out.below HB.out)
        obtain ⟨b0, b1, b2, b3, b4⟩ := has5 (H2.out.below HB.out)
        by_cases hlt2 : i < k
        · obtain ⟨x, rfl, hxb, cx⟩ := (E1.out.below HB.out).2.2.2 (by intro e; have := HT.out; rw [e] at this; have h0 : (0 : Nat) = k := this; omega)
          obtain ⟨y, rfl, hyb, cy⟩ := (E2.out.below HB.out).2.2.2 (by intro e; have := HT.out; rw [e] at this; have h0 : (0 : Nat) = k := this; omega)
          have cx0 := (cx i (by rw [HT.out]; exact hlt2)).c0
          have cx1 := (cx i (by rw [HT.out]; exact hlt2)).c1
          have cy0 := (cy i (by rw [HT.out]; exact hlt2)).c0
          have cy1 := (cy i (by rw [HT.out]; exact hlt2)).c1
          generalize tr.getD i (0, 0) = v at *
          obtain ⟨v0, v1⟩ := v
          simp only at cx0 cx1 cy0 cy1
          clear cx cy
          go_wp2_with fail
          go_quiet (fail)
          go_wp2_with fail
          go_roundw
          case rel => exact ⟨i + 1, by go_num, by omega, Lib.hid (below_drewN HC.out _)⟩
          case measure => simp [intOf]; omega
        · obtain rfl : i = k := by omega
          go_wp2_with fail
          go_ret
          exact ⟨rfl, BW.out.trans (HB.out.mono BW.out.size)⟩
theorem boxT2 (w : World) (cs ds : List Value) : ∃ W, (w.alloc (.cells cs.toArray 63)).alloc (.cells ds.toArray 63) = W ∧ HasB W w.heap.size 63 cs ∧ HasB W (w.heap.size + 1) 63 ds ∧ Below w.heap.size w W ∧ w.heap.size + 2 = W.heap.size :=
  ⟨_, rfl, ((HasB.new w 63 cs).below (bel_al (Below.refl _ _) _)), (by have := HasB.new (w.alloc (.cells cs.toArray 63)) 63 ds; simpa using this), bel_al (bel_al (Below.refl _ _) _) _, by simp⟩
theorem take_ev (tr : List Ev) (j : Nat) (h : j < tr.length) : tr.take (j + 1) = tr.take j ++ [tr.getD j (0, 0)] := by
  rw [List.take_add_one, List.getElem?_eq_getElem h, List.getD_eq_getElem?_getD, List.getElem?_eq_getElem h]; rfl
theorem worlds_few (v0 v1 v2 v3 v4 v5 v6 v7 v8 v9 v10 : Int) (l : List Int) (tr : List Ev) (n k : Nat) (tk cd is wh : Int) (ov : Bool) (hl : l.length = n) (ht : tr.length = k) (hn : n ≤ 100000) (hk : k ≤ 100000) (w : World) (A A' T T' : Option Addr) (ca ca' ct ct' : Nat)
    (r1 : KRow .u32 w A ca l) (r2 : KRow .u32 w A' ca' l) (e1 : EvRow w T ct tr) (e2 : EvRow w T' ct' tr) :
    Calls Tryz.prog 24 #[.agg ([.int .u32 v0, .int .u32 v1, .int .u32 v2, .int .u32 v3, .int .u32 v4, .int .u32 v5, .int .u32 v6, .int .u32 v7, .int .u32 v8, .int .u32 v9, .int .u32 v10, .slice A n ca, .int .i64 tk, .slice T k ct, .bool ov, .int .u32 cd, .int .i64 is, .int .i64 wh] : List Value).toArray, .agg ([.int .u32 v0, .int .u32 v1, .int .u32 v2, .int .u32 v3, .int .u32 v4, .int .u32 v5, .int .u32 v6, .int .u32 v7, .int .u32 v8, .int .u32 v9, .int .u32 v10, .slice A' n ca', .int .i64 tk, .slice T' k ct', .bool ov, .int .u32 cd, .int .i64 is, .int .i64 wh] : List Value).toArray] w fun e w' => e = .returned (.int .i64 1) ∧ Below w.heap.size w w' := by
  obtain ⟨W, hW, h1, h2, bel, sz⟩ := boxT2 w [.int .u32 v0, .int .u32 v1, .int .u32 v2, .int .u32 v3, .int .u32 v4, .int .u32 v5, .int .u32 v6, .int .u32 v7, .int .u32 v8, .int .u32 v9, .int .u32 v10, .slice A n ca, .int .i64 tk, .slice T k ct, .bool ov, .int .u32 cd, .int .i64 is, .int .i64 wh] [.int .u32 v0, .int .u32 v1, .int .u32 v2, .int .u32 v3, .int .u32 v4, .int .u32 v5, .int .u32 v6, .int .u32 v7, .int .u32 v8, .int .u32 v9, .int .u32 v10, .slice A' n ca', .int .i64 tk, .slice T' k ct', .bool ov, .int .u32 cd, .int .i64 is, .int .i64 wh]
  have H1 := Lib.hid h1
  have H2 := Lib.hid h2
  have BW := Lib.hid bel
  have SZ := Lib.hid sz
  have E2 := Lib.hid (e2.below bel)
  have SC := Lib.hid (fun W' (b : Below W.heap.size W W') (Tn : Option Addr) (cn : Nat) (en : EvRow W' Tn cn tr) => same12_any l tr n k tk cd ov hl ht hn hk W' A A' T Tn ca ca' ct cn ((r1.below bel).below b) ((r2.below bel).below b) ((e1.below bel).below b) en)
  have HT := Lib.hid ht
  have HK := Lib.hid hk
  clear bel sz r1 r2 e1 e2 hl ht
  obtain ⟨a0, a1, a2, a3, a4, a5, a6, a7, a8, a9, a10, a11, a12, a13, a14, a15, a16, a17⟩ := has18 h1
  obtain ⟨b0, b1, b2, b3, b4, b5, b6, b7, b8, b9, b10, b11, b12, b13, b14, b15, b16, b17⟩ := has18 h2
  clear h1 h2
  go_enter Tryz.func24, Tryz.ntmps24
  go_wp2_with fail
  clear a0 a1 a2 a3 a4 a5 a6 a7 a8 a9 a10 a11 a12 a13 a14 a15 a16 a17 b0 b1 b2 b3 b4 b5 b6 b7 b8 b9 b10 b11 b12 b13 b14 b15 b16 b17
  go_loopw [5, 6] (fun t i wr => ∃ (j : Nat), i = .int .i64 j ∧ j ≤ k ∧ wr.ownsRow W.heap.size 110 2 t j ((tr.take j).flatMap evC) ∧ Below W.heap.size W wr) (fun _ i _ => k - (intOf i).toNat)
  case atStart => exact ⟨0, rfl, by omega, ⟨by simp, .inl ⟨rfl, rfl⟩⟩, Below.refl _ _⟩
  case round =>
    obtain ⟨j, rfl, hj, own, bb⟩ := hrel
    have O1 := Lib.hid own
    have BB := Lib.hid bb
    have h2 := H2.out.below bb
    obtain ⟨b0, b1, b2, b3, b4, b5, b6, b7, b8, b9, b10, b11, b12, b13, b14, b15, b16, b17⟩ := has18 h2
    clear own bb h2
    by_cases hlt : j < k
    · obtain ⟨y, rfl, hyb, cy⟩ := E2.out.2.2.2 (by intro e; have := HT.out; rw [e] at this; have h0 : (0 : Nat) = k := this; omega)
      have cy0 := (cy j (by rw [HT.out]; exact hlt)).c0
      have cy1 := (cy j (by rw [HT.out]; exact hlt)).c1
      have VW : Hid (evWf (tr.getD j (0, 0))) := Lib.hid (E2.out.2.2.1 _ (by rw [List.getD_eq_getElem?_getD, List.getElem?_eq_getElem (by rw [HT.out]; exact hlt)]; exact List.getElem_mem _))
      have TW : Hid (∀ x ∈ tr.take j, evWf x) := Lib.hid (fun x hx => E2.out.2.2.1 x (List.mem_of_mem_take hx))
      have TK := Lib.hid (take_ev tr j (by rw [HT.out]; exact hlt))
      have KS : Hid (∀ w', Below W.heap.size W w' → (w'.cell? ⟨w.heap.size + 1, 13, none⟩ = some (.slice (some y) k ct') ∧ w'.cell? (y.add (j * 2)) = some (.int .i64 (tr.getD j (0, 0)).1) ∧ w'.cell? ⟨(y.add (j * 2)).block, (y.add (j * 2)).off + 1, none⟩ = some (.int .u32 (tr.getD j (0, 0)).2))) :=
        Lib.hid (fun w' b => ⟨(H2.out.below b).cell 13, (b.cell (by rw [block_add]; exact hyb)).trans cy0, (b.cell (p := ⟨(y.add (j * 2)).block, (y.add (j * 2)).off + 1, none⟩) (by show (y.add (j * 2)).block < _; rw [block_add]; exact hyb)).trans cy1⟩)
      generalize tr.getD j (0, 0) = v at *
      obtain ⟨e0, e1⟩ := v
      simp only at KS
      have BD := Lib.hid (below_drewN BB.out 1)
      have OD := Lib.hid (rev_keep O1.out (Below.refl wr.heap.size wr).drew)
      clear cy cy0 cy1 hyb
      have kI : (j : Int) < (k : Int) := by omega
      go_wp2_with fail
      clear b0 b1 b2 b3 b4 b5 b6 b7 b8 b9 b10 b11 b12 b13 b14 b15 b16 b17
      refine wp_region_noPanic ?_
      refine wp_region_held_drew (S := (fun w' => (w'.cell? ⟨(w.heap.size + 1), 13, none⟩ = some (.slice (some y) k ct') ∧ w'.cell? (y.add (j * 2)) = some (.int .i64 e0) ∧ w'.cell? ⟨(y.add (j * 2)).block, (y.add (j * 2)).off + 1, none⟩ = some (.int .u32 e1)))) (by kernel_rfl) ?_ (fun hHeld => ?_)
      · (try dsimp only)
        exact KS.out _ BD.out
      refine wT 0 ?_
      refine wT 1 ?_
      refine wT 2 ?_
      refine wT 3 ?_
      refine wT 4 ?_
      refine wT 5 ?_
      refine wT 6 ?_
      refine wT 7 ?_
      refine wT 8 ?_
      refine wT 9 ?_
      refine wT 10 ?_
      refine wT 11 ?_
      refine wT 12 ?_
      refine wT 13 ?_
      refine wT 14 ?_
      refine wT 15 ?_
      refine wpAnyH_ready (rs := [16]) (by kernel_rfl) (by simp) ?_
      refine rC (fun K hK => ?_) ?_
      · go_simp
        obtain ⟨E9, en9, r9, q9⟩ := allocY wr (e0, e1) VW.out
        simp only at en9
        rw [en9]
        have RY := Lib.hid (r9.below (Below.refl _ _).drew)
        have O3 := Lib.hid (rev_keep O1.out q9.drew)
        have B3 := Lib.hid (bel_then BB.out q9.drew)
        have S3 := Lib.hid B3.out.size
        clear en9 r9 q9
        refine hK.out _ _ ?_ (fun hHeld => ?_)
        · (try dsimp only)
          exact KS.out _ B3.out
        clear hK K
        (try simp only [Act.put, lsA, lsZ, lsS])
        refine wpAnyH_ready (rs := [17]) (by kernel_rfl) (by simp) ?_
        refine rC (fun K hK => ?_) ?_
        · rw [if_pos (by rfl)]
          refine app_revrow_op (.tmp 15) (.tmp 31) rfl W.heap.size _ j (tr.take j) rfl O3.out TW.out (some ⟨wr.heap.size, 0, none⟩) 1 1 [(e0, e1)] rfl rfl 1 RY.out (j + 1) rfl (by omega) S3.out ?_
          intro A9 c9 E10 own9 gr9 bel9
          have O9 := Lib.hid own9
          have B9 := Lib.hid (B3.out.trans bel9)
          clear own9 gr9 bel9 O3 RY
          refine hK.out _ _ ?_ (fun hHeld => ?_)
          · (try dsimp only)
            exact KS.out _ B9.out
          clear hK K
          (try simp only [Act.put, lsA, lsZ, lsS])
          refine wT 18 ?_
          refine wpAnyH_done (by kernel_rfl) ?_ _
          refine NoPanic.normal ?_
          go_wp2_with fail
          go_roundw
          case rel => exact ⟨j + 1, by go_num, by omega, by rw [TK.out]; exact O9.out, B9.out⟩
          case measure => simp [intOf]; omega
        exact AllReadyH.nil
      exact AllReadyH.nil
    · obtain rfl : j = k := by omega
      obtain ⟨Tn, cn, rfl, -, en⟩ := rev_of_own O1.out (fun x hx => E2.out.2.2.1 x (List.mem_of_mem_take hx))
      rw [List.take_of_length_le (by rw [HT.out]; exact Nat.le_refl _)] at en
      have EN := Lib.hid en
      clear en O1
      obtain ⟨-, -, -, -, -, -, -, -, -, -, -, a11, a12, a13, a14, a15, -, -⟩ := has18 (H1.out.below BB.out)
      clear b0 b1 b2 b3 b4 b5 b6 b7 b8 b9 b10 b16 b17 hlt hj hW hk hn
      go_wp2_with fail
      refine (SC.out _ (by exact BB.out) Tn cn (by exact EN.out)).mono ?_; rintro e w9 ⟨rfl, hb9⟩
      go_wp2_with fail
      go_ret
      exact ⟨rfl, BW.out.trans ((bel_then BB.out hb9).mono BW.out.size)⟩
theorem worlds_any {x : Bx} (o : x.Ok) (ht : x.W.tr.length ≤ 100000) (w : World) (A A' T T' : Option Addr) (ca ca' ct ct' : Nat)
    (r1 : KRow .u32 w A ca x.W.rep) (r2 : KRow .u32 w A' ca' x.W.rep) (e1 : EvRow w T ct x.W.tr) (e2 : EvRow w T' ct' x.W.tr) :
    Calls Tryz.prog 24 #[x.val A ca T ct, x.val A' ca' T' ct'] w fun e w' => e = .returned (.int .i64 1) ∧ Below w.heap.size w w' := by
  obtain ⟨v0, v1, v2, v3, v4, v5, v6, v7, v8, v9, v10, _, hcs⟩ := bx_cs o.c
  unfold Bx.val
  rw [hcs, hcs]
  exact worlds_few v0 v1 v2 v3 v4 v5 v6 v7 v8 v9 v10 x.W.rep x.W.tr _ _ x.W.tk x.W.cd x.is x.wh x.W.ov rfl rfl o.rep ht w A A' T T' ca ca' ct ct' r1 r2 e1 e2
structure AlS (W : World) (hb ob : Nat) (id jd n0 : Nat) (h o : Ho) (F G : Nat → Prop) (s : Sb) (w : World) : Prop where
  ah : HAt w hb h F
  ao : HAt w ob o G
  al : AlR 64 n0 h o id jd s
  dj : ∀ i, F i → ¬ G i
  fl : ∀ i, F i → W.heap.size ≤ i
  gl : ∀ i, G i → W.heap.size ≤ i
  bel : Below W.heap.size W w
section
variable {W w w' : World} {hb ob id jd n0 : Nat} {h o : Ho} {F G : Nat → Prop} {s : Sb}
theorem AlS.below (A : AlS W hb ob id jd n0 h o F G s w) (b : Below w.heap.size w w') : AlS W hb ob id jd n0 h o F G s w' :=
  ⟨A.ah.below b, A.ao.below b, A.al, A.dj, A.fl, A.gl, bel_then A.bel b⟩
theorem AlR.mono {z n0 n1 : Nat} {h o : Ho} {i j : Nat} {s : Sb} (A : AlR z n0 h o i j s) (hn : n0 ≤ n1) : AlR z n1 h o i j s := ⟨A.hi.mono hn, A.oi.mono hn, A.hs, A.os, A.eq⟩
theorem AlS.mono (A : AlS W hb ob id jd n0 h o F G s w) {n1 : Nat} (hn : n0 ≤ n1) : AlS W hb ob id jd n1 h o F G s w := ⟨A.ah, A.ao, A.al.mono hn, A.dj, A.fl, A.gl, A.bel⟩
theorem AlS.step (A : AlS W hb ob id jd n0 h o F G s w) {n1 : Nat} {h2 : Ho} {F2 : Nat → Prop} {s2 : Sb} {o2 : Ho} (at2 : HAt w' hb h2 F2) (c : ChF F w w') (sb : SubF w F F2) (al : AlR 64 n1 h2 o id jd s2) : AlS W hb ob id jd n1 h2 o F2 G s2 w' :=
  ⟨at2, A.ao.apart c (fun i hg hf => A.dj i hf hg), al, fun i hf hg => (sb i hf).elim (fun hf => A.dj i hf hg) (fun h => by have := A.ao.lim i hg; omega), fun i hf => (sb i hf).elim (A.fl i) (fun h => Nat.le_trans A.bel.size h), A.gl, Below.trans A.bel (c.below A.fl A.bel.size)⟩
theorem AlS.load (A : AlS W hb ob id jd n0 h o F G s w) {R : Option Addr} {cap n : Nat} {l : List Int} {size : Int} {RA : Option Addr} {rc rn : Nat} {rep : List Int}
    (r : RowAt w R cap l) (hl : l.length = n) (hn : n ≤ 4200) (hp : powS size = true) (k : KRow .u32 w RA rc rep) (hr : rep.length = rn) (hrn : rn ≤ 1000) :
    Calls Tryz.prog 14 #[.pointer (some ⟨hb, 0, none⟩), .slice R n cap, .int .i64 size, .slice RA rn rc] w fun e w' => ∃ v h2 F2, e = .returned v ∧ AlS W hb ob id jd n0 h2 o F2 G s w' ∧ ChF F w w' ∧ SubF w F F2 := by
  refine (hLoad w hb 64 h F R cap n l size RA rc rn rep A.ah A.al.hi.Z (by omega) (by omega) r hl hn hp k hr hrn).mono ?_
  rintro e w' (⟨_, rfl, at2, b2⟩ | ⟨hE, k1, b, hf, hk, hs, hb2, rfl, F2, at2, ch2, sb2⟩)
  · exact ⟨_, h, F, rfl, A.below b2, ChF.of b2, SubF.refl w F⟩
  · have OK := ld_ok A.al.hi.Z hE hk hs hb2
    exact ⟨_, _, F2, rfl, A.step (o2 := o) at2 ch2 sb2 (A.al.load_other (by omega) OK.no OK.rg OK.ap (code_bytes r.2.2.1) (data_bytes r.2.2.1) (img_ver OK.e) OK.c OK.d (kr_u32 k) (by omega)), ch2, sb2⟩
theorem AlS.kill (A : AlS W hb ob id jd n0 h o F G s w) {x : Int} (hx : I64i x) (hne : x ≠ (id : Int)) :
    Calls Tryz.prog 16 #[.pointer (some ⟨hb, 0, none⟩), .int .i64 x] w fun e w' => ∃ v h2, e = .returned v ∧ AlS W hb ob id jd n0 h2 o F G s w' ∧ ChF F w w' := by
  refine (hKill w hb 64 h F x A.ah A.al.hi.Z hx).mono ?_
  rintro e w' (⟨k, t, rfl, ht, rfl, at2, ch2⟩ | ⟨_, rfl, at2, b2⟩)
  · exact ⟨_, _, rfl, A.step (o2 := o) at2 ch2 (SubF.refl w F) (A.al.kill_other (by omega) ht), ch2⟩
  · exact ⟨_, h, rfl, A.below b2, ChF.of b2⟩
theorem AlS.run (A : AlS W hb ob id jd n0 h o F G s w) (h0 : n0 ≤ 40000) {x : Int} {n : Nat} (hx : I64i x) (hn : n ≤ 20000) (hne : x ≠ (id : Int)) :
    Calls Tryz.prog 17 #[.pointer (some ⟨hb, 0, none⟩), .int .i64 x, .int .i64 (n : Int)] w fun e w' => ∃ p q h2 F2, e = .returned (.tuple #[.int .i64 p, .int .i64 q]) ∧ AlS W hb ob id jd (n0 + n) h2 o F2 G s w' ∧ ChF F w w' ∧ SubF w F F2 := by
  refine (hRun w hb 64 n0 h F x n A.ah A.al.hi h0 hx hn).mono ?_
  rintro e w' (⟨k, t, rfl, ht, rfl, F2, at2, ch2, sb2⟩ | ⟨_, rfl, at2, b2⟩)
  · exact ⟨_, _, _, F2, rfl, A.step (o2 := o) at2 ch2 sb2 (A.al.run_other (by omega) ht n), ch2, sb2⟩
  · exact ⟨_, _, h, F, rfl, (A.below b2).mono (by omega), ChF.of b2, SubF.refl w F⟩
theorem AlS.own (A : AlS W hb ob id jd n0 h o F G s w) (h0 : n0 ≤ 40000) {n : Nat} (hn : n ≤ 20000) (hi : id ≤ 100) (hj : jd ≤ 100) :
    Calls Tryz.prog 17 #[.pointer (some ⟨hb, 0, none⟩), .int .i64 (id : Int), .int .i64 (n : Int)] w fun e w' => ∃ (p : Nat) (F2 : Nat → Prop), e = .returned (.tuple #[.int .i64 (p : Int), .int .i64 0]) ∧ ChF F w w' ∧ SubF w F F2 ∧ Below W.heap.size W w' ∧
      (∀ w2, Below w'.heap.size w' w2 → Calls Tryz.prog 17 #[.pointer (some ⟨ob, 0, none⟩), .int .i64 (jd : Int), .int .i64 (n : Int)] w2 fun e w3 => e = .returned (.tuple #[.int .i64 (p : Int), .int .i64 0]) ∧ ∃ h2 o2 G2 s2, AlS W hb ob id jd (n0 + n) h2 o2 F2 G2 s2 w3 ∧ ChF G w2 w3) := by
  refine (hRun w hb 64 n0 h F (id : Int) n A.ah A.al.hi h0 (by unfold I64i; omega) hn).mono ?_
  rintro e w' (⟨k, t, hk, ht, rfl, F2, at2, ch2, sb2⟩ | ⟨hno, _⟩)
  · obtain rfl : id = k := by omega
    obtain rfl := Ho.one A.al.hs ht
    obtain ⟨e2, R⟩ := A.al.run_own n
    have fl2 : ∀ i, F2 i → W.heap.size ≤ i := fun i hf => (sb2 i hf).elim (A.fl i) (fun h => Nat.le_trans A.bel.size h)
    have dj2 : ∀ i, F2 i → ¬ G i := fun i hf hg => (sb2 i hf).elim (fun hf => A.dj i hf hg) (fun h => by have := A.ao.lim i hg; omega)
    have ao2 := A.ao.apart ch2 (fun i hg hf => A.dj i hf hg)
    have B2 := Below.trans A.bel (ch2.below A.fl A.bel.size)
    refine ⟨_, F2, rfl, ch2, sb2, B2, fun w2 b2 => ?_⟩
    refine (hRun w2 ob 64 n0 o G (jd : Int) n (ao2.below b2) A.al.oi h0 (by unfold I64i; omega) hn).mono ?_
    rintro e w3 (⟨k, t, hk, ht, rfl, G2, at3, ch3, sb3⟩ | ⟨hno, _⟩)
    · obtain rfl : jd = k := by omega
      obtain rfl := Ho.one A.al.os ht
      rw [← e2]
      refine ⟨rfl, _, _, G2, _, ⟨((at2.below b2).apart ch3 (fun i hf hg => dj2 i hf hg)), at3, R, fun i hf hg => (sb3 i hg).elim (dj2 i hf) (fun h => by have := at2.lim i hf; have := b2.size; omega), fl2, fun i hg => (sb3 i hg).elim (A.gl i) (fun h => Nat.le_trans (Nat.le_trans B2.size b2.size) h), Below.trans (bel_then B2 b2) (ch3.below A.gl (Nat.le_trans B2.size b2.size))⟩, ch3⟩
    · exact absurd A.al.os (hno jd _ rfl)
  · exact absurd A.al.hs (hno id _ rfl)
end
end Go.Proofs.YtjmbaiijmhkdpaaGreat.Mm
