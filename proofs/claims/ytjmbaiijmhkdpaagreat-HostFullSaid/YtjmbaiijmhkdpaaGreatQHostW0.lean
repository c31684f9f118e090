/- What the statements on hosts share: an image's bytes, the document's example, one more that is loaded. -/
import Derived.Test.YtjmbaiijmhkdpaaGreatQHostCi
namespace Go.Proofs.YtjmbaiijmhkdpaaGreat.Mm
open Go.ChangeShapes Go.WideShapes Go.ChangeAt Go.RowKit
set_option linter.unusedVariables false
set_option linter.unusedSimpArgs false
set_option maxRecDepth 10000
set_option maxHeartbeats 4000000
def D8 : List Int := [1, 2, 3, 4, 5, 6, 7, 8]
theorem D8_b : Bytes D8 := by intro z hz; simp [D8] at hz; omega
theorem bytes14n (A : Option Addr) (ca c : Nat) (C : List Int) (hc : C.length = c) (h1 : c ≤ 4000) (w : World) (rA : RowAt w A ca C) :
    Calls Tryz.prog 13 #[.slice A c ca] w fun e w' => ∃ A' c', e = .returned (.slice A' (c + 20) c') ∧ RowAt w' A' c' (layL C D8) ∧ Below w.heap.size w w' ∧ (∀ a, A' = some a → w.heap.size ≤ a.block) := by
  obtain ⟨W1, e1, R1, B1, RA1⟩ : ∃ W1, w.alloc (.cells #[.int .u8 1, .int .u8 2, .int .u8 3, .int .u8 4, .int .u8 5, .int .u8 6, .int .u8 7, .int .u8 8] 5) = W1 ∧ RowAt W1 (some ⟨w.heap.size, 0, none⟩) 8 D8 ∧ Below w.heap.size w W1 ∧ RowAt W1 A ca C := by
    have b := bel_al (Below.refl w.heap.size w) (.cells #[.int .u8 1, .int .u8 2, .int .u8 3, .int .u8 4, .int .u8 5, .int .u8 6, .int .u8 7, .int .u8 8] 5)
    exact ⟨_, rfl, row_blk (l := D8) D8_b (by unfold maxLen; decide) (HasB.new w 5 (D8.map (Value.int .u8))), b, rA.below b⟩
  have LC := Lib.hid (rLay_any A (some ⟨w.heap.size, 0, none⟩) ca 8 C D8 c 8 hc rfl (by omega) (by omega) W1 RA1 R1)
  have hbL : Bytes (layL C D8) := layL_byte rA.2.2.1 D8_b (by omega) (by decide)
  have hlen : (layL C D8).length = c + 20 := by rw [layL_len, hc]; show 12 + c + 8 = _; omega
  have HBL := Lib.hid hbL
  have HLEN := Lib.hid hlen
  have BB := Lib.hid B1
  have H1 := Lib.hid h1
  clear R1 RA1 rA hc hbL hlen h1 B1
  go_enter Tryz.func13, Tryz.ntmps13
  go_wp2_with fail
  refine LC.out.mono ?_; rintro e w2 ⟨rfl, b2⟩
  have CV := conv_bytes w2 (strOfNums (layL C D8))
  rw [strOfNums_size, HLEN.out] at CV
  have R := bytes_row w2 (layL C D8) HBL.out (by rw [HLEN.out]; have := H1.out; omega)
  rw [HLEN.out] at R
  have B2 := Lib.hid (bel_then (bel_then BB.out b2) (conv_below w2 (strOfNums (layL C D8))))
  have RR := Lib.hid R
  have N2 := Lib.hid (Nat.le_trans BB.out.size b2.size)
  clear R b2
  generalize Lib.bytesWorld w2 5 (strOfNums (layL C D8)) = W3 at *
  go_wp2_with fail
  go_ret
  exact ⟨_, _, rfl, RR.out, B2.out, fun a ha => by cases ha; exact N2.out⟩
theorem bytes14 (A : Option Addr) (ca c : Nat) (C : List Int) (hc : C.length = c) (h1 : c ≤ 4000) (w : World) (rA : RowAt w A ca C) :
    Calls Tryz.prog 13 #[.slice A c ca] w fun e w' => ∃ A' c', e = .returned (.slice A' (c + 20) c') ∧ RowAt w' A' c' (layL C D8) ∧ Below w.heap.size w w' :=
  (bytes14n A ca c C hc h1 w rA).mono (fun e w' ⟨A', c', h1, h2, h3, _⟩ => ⟨A', c', h1, h2, h3⟩)
structure LdOk (z : Nat) (h : Ho) (l : List Int) (size : Int) (k b hf : Nat) : Prop where
  e : imgE l = 0
  v : verE (codeI l) = 0
  k16 : k < 16
  no : h.m[k]? = some none
  rg : regB ((64 * z : Nat) : Int) ((b : Int), ((2 * hf : Nat) : Int)) = true
  ap : ∀ j s, h.has j s → s.b + 2 * s.hf + 64 ≤ b ∨ b + 2 * hf + 64 ≤ s.b
  c : (codeI l).length + 32 ≤ hf
  d : (dataL l).length ≤ hf
theorem img_ver {l : List Int} (h : imgE l = 0) : verE (codeI l) = 0 := by
  unfold imgE at h
  by_cases h0 : errL l = 0
  · rw [if_neg (by simp [h0])] at h; exact h
  · rw [if_pos h0] at h; exact absurd h h0
theorem ld_ok {z : Nat} {h : Ho} (H : HoZ z h) {l : List Int} {size : Int} (he : loadE z h (imgE l) (codeI l) (dataL l) size = 0) {k b hf : Nat} (hk : freeO h = some k) (hs : size = ((2 * hf : Nat) : Int)) (hb : takeV (regsU h) ((64 * z : Nat) : Int) size = (b : Int)) : LdOk z h l size k b hf := by
  obtain ⟨k', b', hf', q1, q2, q3, q4, q5, q6, q7, q8, q9, q10⟩ := load_ok H he
  rw [hk] at q1
  injection q1 with q1
  subst q1
  obtain rfl : hf = hf' := by omega
  obtain rfl : b = b' := by have := hb.symm.trans q3; omega
  exact ⟨q4, img_ver q4, q5, q6, q7, q8, q9, q10⟩
theorem code_bytes {l : List Int} (h : Bytes l) : Bytes (codeI l) := fun v hv => h v (List.mem_of_mem_drop (List.mem_of_mem_take hv))
theorem data_bytes {l : List Int} (h : Bytes l) : Bytes (dataL l) := fun v hv => h v (List.mem_of_mem_drop (List.mem_of_mem_take hv))
theorem LdOk.z {z : Nat} {h : Ho} {l : List Int} {size : Int} {k b hf : Nat} (o : LdOk z h l size k b hf) (H : HoZ z h) (hl : Bytes l) (rep : List Int) : HoZ z (loadO h k b hf (codeI l) (dataL l) rep) :=
  H.load o.no o.rg o.ap (code_bytes hl) (data_bytes hl) (by have := o.c; omega) o.d
theorem LdOk.i {z n0 : Nat} {h : Ho} {l : List Int} {size : Int} {k b hf : Nat} (o : LdOk z h l size k b hf) (I : HoI z n0 h) (hz : z ≤ 1000) (hl : Bytes l) {rep : List Int} (hu : ∀ v ∈ rep, U32 v) (hr : rep.length ≤ 100000) : HoI z n0 (loadO h k b hf (codeI l) (dataL l) rep) :=
  I.load hz o.no o.rg o.ap (code_bytes hl) (data_bytes hl) o.v o.c o.d hu hr
theorem LdOk.has {z : Nat} {h : Ho} {l : List Int} {size : Int} {k b hf : Nat} (o : LdOk z h l size k b hf) (H : HoZ z h) (rep : List Int) : (loadO h k b hf (codeI l) (dataL l) rep).has k ⟨b, hf, codeI l, newX ((b : Int), ((2 * hf : Nat) : Int)) rep⟩ :=
  has_set_same (by have := H.ml; have := o.k16; omega) _
theorem img_32 : imgE (layL (List.replicate 32 0) []) = 0 := by
  rw [img_lay (by decide)]
  exact ver_halts 0
theorem load_first : loadE 16 (newO 16) (imgE (layL (List.replicate 32 0) [])) (codeI (layL (List.replicate 32 0) [])) (dataL (layL (List.replicate 32 0) [])) 128 = 0 := by
  have F := FullH.start 16 64
  have := F.loadE (by omega) (by decide) (by omega) (imgE (layL (List.replicate 32 0) [])) (codeI (layL (List.replicate 32 0) [])) (dataL (layL (List.replicate 32 0) [])) (by rw [lay_data]; simp)
  rw [show (128 : Int) = ((2 * 64 : Nat) : Int) from rfl, this, img_32, lay_code]
  simp
set_option maxHeartbeats 4000000 in
theorem awake14 (w : World) : Calls Tryz.prog 10 #[] w fun e w' => e = .returned (.bool true) ∧ Below w.heap.size w w' := by
  obtain ⟨W1, e1, R1, B1⟩ : ∃ W1, (Instr.makeSlice 39 (.int .i64 32) (.int .i64 32)).run Tryz.prog w = .ok (.slice (some ⟨w.heap.size, 0, none⟩) 32 32) W1 ∧ RowAt W1 (some ⟨w.heap.size, 0, none⟩) 32 (List.replicate 32 0) ∧ Below w.heap.size w W1 :=
    ⟨_, make_32 w, row_new32 w, bel_al (Below.refl _ _) _⟩
  have LC := Lib.hid (lay_yes (some ⟨w.heap.size, 0, none⟩) none 32 0 (List.replicate 32 0) [] 32 0 (by rw [List.length_replicate]) rfl (by omega) (by omega) W1 R1 (row_nil W1 none 0 (Nat.zero_le _)) (by decide))
  unfold LayY at LC
  have NC := Lib.hid (fun w' => hNew 16 (by omega) (by omega) w')
  have BB := Lib.hid B1
  have hlen : (layL (List.replicate 32 0) []).length = 44 := by rw [layL_len, List.length_replicate]; rfl
  have HLEN := Lib.hid hlen
  clear R1 B1 hlen
  have c1 : (((64 * 16 : Nat)) : Int) = 1024 := rfl
  rw [c1] at NC
  go_enter Tryz.func10, Tryz.ntmps10
  go_wp2_with fail
  refine LC.out.mono ?_; rintro e w2 ⟨A2, c2, rfl, o2, b2⟩
  have O2 := Lib.hid o2
  have B2 := Lib.hid (bel_then BB.out b2)
  clear o2 b2 LC e1
  dsimp only
  go_wp2_with fail
  refine (NC.out _).mono ?_; rintro e w3 ⟨hb, F, rfl, hat, hF, b3⟩
  have AT := Lib.hid hat
  have R3 := Lib.hid (O2.out.row.below b3)
  have B3 := Lib.hid (bel_then B2.out b3)
  have FF := Lib.hid (fun i (hi : F i) => Nat.le_trans B2.out.size (hF i hi))
  clear hat b3 hF O2
  obtain ⟨h0, hh0⟩ : ∃ h0, newO 16 = h0 := ⟨_, rfl⟩
  have HZ0 : HoZ 16 h0 := hh0 ▸ newO_z 16
  have FU0 : FullH 16 64 0 h0 := hh0 ▸ FullH.start 16 64
  have LF : loadE 16 h0 (imgE (layL (List.replicate 32 0) [])) (codeI (layL (List.replicate 32 0) [])) (dataL (layL (List.replicate 32 0) [])) 128 = 0 := hh0 ▸ load_first
  obtain ⟨l0, hl0⟩ : ∃ l0, layL (List.replicate 32 0) [] = l0 := ⟨_, rfl⟩
  have LB : Bytes l0 := hl0 ▸ layL_byte (C := List.replicate 32 0) (D := []) (fun x hx => by rw [List.eq_of_mem_replicate hx]; decide) (fun x hx => by cases hx) (by simp) (by simp)
  rw [hh0] at AT
  rw [hl0] at LF R3 HLEN
  have LD := Lib.hid (hLoad w3 hb 16 h0 F A2 c2 44 l0 128 none 0 0 [] AT.out HZ0 (by omega) (by omega) R3.out HLEN.out (by omega) (by decide) (kRow_nil _ w3) rfl (by omega))
  clear hh0 hl0
  dsimp only
  go_wp2_with fail
  refine LD.out.mono ?_; rintro e w4 hq
  rcases hq with ⟨hne, _⟩ | ⟨_, k, b, hf, hk, hs, hb2, rfl, F', at4, c4, sb4⟩
  · exact absurd LF hne
  · have ok := ld_ok HZ0 LF hk hs hb2
    have hk0 : k = 0 := by
      rw [FU0.free (by omega)] at hk
      injection hk with hk; exact hk.symm
    obtain rfl : hf = 64 := by omega
    have hb0 : b = (2 * 0 + 1) * (2 * 64) := by
      have := FU0.take (by decide) (by omega)
      rw [← hs, hb2] at this
      exact Int.ofNat.inj this
    subst hk0 hb0
    have HZ := ok.z HZ0 LB []
    have FU := FU0.next (code := codeI l0) (data := dataL l0) (rep := []) (by omega) (by decide) (by omega) (code_bytes LB) (data_bytes LB) (by have := ok.c; omega) ok.d
    have RW := FU.row (by omega) (by decide) (.inr (by omega))
    have B4 := Lib.hid (Below.trans B3.out (c4.below FF.out B3.out.size))
    have RC := Lib.hid (hRegs w4 hb 16 _ F' at4 HZ (by omega))
    have RL := Lib.hid (fun L (R : RegsL 16 _ L) => R.one RW)
    clear LD at4 c4 sb4 HZ FU RW ok hs hb2 hk HZ0 FU0 LF LB
    dsimp only
    go_wp2_with fail
    refine RC.out.mono ?_; rintro e w5 ⟨A, cap, L, rfl, rl, rr, rn, b5⟩
    have hL := RL.out L rl
    have hL2 : L = [(128, 128)] := by rw [hL]; rfl
    subst hL2
    obtain ⟨q, hq, hqb, hqc⟩ := rr.2.2.2 (by simp)
    subst hq
    have hc := hqc 0 (by simp)
    have c0 := hc.c0
    have c1 := hc.c1
    have e0 : q.add (0 * 2) = q := by unfold Addr.add; simp
    rw [e0] at c0 c1
    simp only [List.getD_cons_zero] at c0 c1
    have B5 := Lib.hid (bel_then B4.out b5)
    clear rl rr rn b5 hqc hc RC RL hL hqb
    dsimp only [List.length_cons, List.length_nil]
    go_wp2_with fail
    go_ret
    exact ⟨rfl, B5.out⟩
end Go.Proofs.YtjmbaiijmhkdpaaGreat.Mm
