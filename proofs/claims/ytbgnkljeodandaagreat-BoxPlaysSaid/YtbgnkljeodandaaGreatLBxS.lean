/- What New makes at 1024, error or not, as one; two memories of a call's own. -/
import Derived.Test.YtbgnkljeodandaaGreatLBxA
import Derived.Test.YtbgnkljeodandaaGreatLMeR
namespace Go.Proofs.YtbgnkljeodandaaGreat.Mm
open Go.ChangeShapes Go.WideShapes Go.ChangeAt Go.RowKit
set_option linter.unusedVariables false
set_option linter.unusedSimpArgs false

theorem halt_step {c : Cp} {B : List Int} {T : List Bool} {lo hi p : Nat} (H : RgT T lo hi) (hp : c.pc = p) (h1 : lo ≤ p) (h2 : p + 6 ≤ hi) (hB : hi ≤ B.length) (h0 : B.getD p 0 = 0) : stF c B T = ⟨c, B, 1, 0⟩ := by
 have e1 : fet T c.pc 6 = 6 := by
  unfold fet
  rw [if_pos]
  rw [H.wh c.pc (5 + 1) (by omega)]
  exact decide_eq_true (by omega)
 have hcons : ∃ t, codeL B T c.pc = 0 :: t := by
  unfold codeL
  rw [e1, show c.pc.toNat = p by omega, List.drop_eq_getElem_cons (by omega : p < B.length), List.take_succ_cons]
  refine ⟨(B.drop (p + 1)).take 5, ?_⟩
  rw [show B[p] = 0 by rw [← h0]; simp [List.getD, show p < B.length by omega]]
 obtain ⟨t, ht⟩ := hcons
 have hRd : Rd (codeL B T c.pc) 0 0 0 0 1 := by
  rw [ht]
  have := rd_of_lay 0 0 0 0 (by decide) (by decide) t
  rwa [show layL 0 0 0 0 = [0] by decide, show szO 0 = 1 by decide] at this
 refine stF_eq (.inr (.inr ⟨0, 0, 0, 0, 1, hRd, ?_⟩))
 rw [exec_0]
theorem halt_slice {x : Bx} {B : List Int} {T : List Bool} (n : Nat) (hx : x.is = 0) (h : stF x.c B T = ⟨x.c, B, 1, 0⟩) : slF T (n + 1) x B = (⟨x.c, x.W, 2, 1⟩, B, 1) := by
 have hy : yldB T x B = false := by unfold yldB; rw [h]; rfl
 have hb : bxS T x B = (⟨x.c, x.W, 2, 1⟩, B) := by
  unfold bxS
  simp only [h]
  rw [if_neg (by decide), if_neg (by decide)]
 rw [slF_step n hx hy, hb]
 rw [slF_over (T := T) n (x := ⟨x.c, x.W, 2, 1⟩) (show (2 : Int) ≠ 0 by decide)]
theorem newB_len {B code data : List Int} {b s : Nat} (h1 : b + s ≤ B.length) (h2 : code.length ≤ s / 2) (h3 : data.length ≤ s / 2) : (newB B (b, s) code data).length = B.length := by
 unfold newB
 simp only [Int.toNat_natCast]
 have e : ((b : Int) + (s : Int) / 2).toNat = b + s / 2 := by omega
 rw [e, splice_len _ _ _ (by rw [splice_len _ _ _ (by rw [splice_len _ _ _ (by rw [List.length_replicate]; omega)]; omega), splice_len _ _ _ (by rw [List.length_replicate]; omega)]; omega), splice_len _ _ _ (by rw [splice_len _ _ _ (by rw [List.length_replicate]; omega)]; omega), splice_len _ _ _ (by rw [List.length_replicate]; omega)]
theorem newB_get {B code data : List Int} {b s : Nat} (h1 : b + s ≤ B.length) (h2 : code.length ≤ s / 2) (h3 : data.length ≤ s / 2) (i : Nat) : (newB B (b, s) code data).getD i 0 =
    if b + s / 2 ≤ i ∧ i < b + s / 2 + data.length then data.getD (i - (b + s / 2)) 0 else if b ≤ i ∧ i < b + code.length then code.getD (i - b) 0 else if b ≤ i ∧ i < b + s then 0 else B.getD i 0 := by
  unfold newB
  simp only [Int.toNat_natCast]
  have e : ((b : Int) + (s : Int) / 2).toNat = b + s / 2 := by omega
  have l1 : (splice B b (List.replicate s 0)).length = B.length := splice_len _ _ _ (by rw [List.length_replicate]; omega)
  have l2 : (splice (splice B b (List.replicate s 0)) b code).length = B.length := (splice_len _ _ _ (by rw [l1]; omega)).trans l1
  rw [e, splice_getD _ _ _ _ (by rw [l2]; omega), splice_getD _ _ _ _ (by rw [l1]; omega), splice_getD _ _ _ _ (by rw [List.length_replicate]; omega), List.length_replicate]
  by_cases h : b ≤ i ∧ i < b + s
  · rw [if_pos h, if_pos h]
    have : (List.replicate s (0 : Int)).getD (i - b) 0 = 0 := by simp [List.getD, show i - b < s by omega]
    rw [this]
  · rw [if_neg h, if_neg h]
theorem newB_byte {B code data : List Int} (r : Rg) (hB : Bytes B) (hc : Bytes code) (hd : Bytes data) : Bytes (newB B r code data) := by
  intro y hy
  unfold newB at hy
  rcases splice_mem hy with hy | hy
  · rcases splice_mem hy with hy | hy
    · rcases splice_mem hy with hy | hy
      · exact hB y hy
      · rw [List.eq_of_mem_replicate hy]; decide
    · exact hc y hy
  · exact hd y hy
theorem reg_one {n : Int} {r : Rg} (h0 : 0 ≤ n) (h1 : n ≤ 65536) (h : regB n r = true) : rgtB [r] n = true :=
 rgt_iff.2 ⟨h0, h1, fun x hx => by rw [List.mem_singleton.1 hx]; exact h, by simp⟩
theorem awake_new : newE (List.replicate 32 0) [] (128, 128) (64 * (List.replicate 8 false).length) = 0 := by
 unfold newE
 rw [if_neg (by rw [ver_halts 0]; decide), if_neg (by decide), reg_one (by decide) (by decide) (by decide)]
 rfl
theorem awake_slice (rep : List Int) : slF (newT (List.replicate 8 false) (128, 128)) 5 (newX (128, 128) rep) (newB (List.replicate 512 0) (128, 128) (List.replicate 32 0) []) =
    (⟨(newX (128, 128) rep).c, (newX (128, 128) rep).W, 2, 1⟩, newB (List.replicate 512 0) (128, 128) (List.replicate 32 0) [], 1) := by
  refine halt_slice 4 rfl ?_
  have hg := newB_get (B := List.replicate 512 0) (code := List.replicate 32 0) (data := []) (b := 128) (s := 128) (by rw [List.length_replicate]; omega) (by rw [List.length_replicate]; omega) (by simp) 128
  have hl := newB_len (B := List.replicate 512 0) (code := List.replicate 32 0) (data := []) (b := 128) (s := 128) (by rw [List.length_replicate]; omega) (by rw [List.length_replicate]; omega) (by simp)
  rw [List.length_replicate] at hl
  refine halt_step (rgT_of 8 2 2 (by omega)) (p := 128) rfl (by omega) (by omega) ?_ ?_
  · exact Nat.le_trans (by omega) (Nat.le_of_eq hl.symm)
  · refine hg.trans ?_
    simp
theorem row_32 (w : World) : RowAt (w.alloc (.cells ((List.replicate 32 (0 : Int)).map (Value.int .u8)).toArray 5)) (some ⟨w.heap.size, 0, none⟩) 32 (List.replicate 32 0) := by
 have := row_part (HasB.new w 5 ((List.replicate 32 (0 : Int)).map (Value.int .u8))) (fun x hx => by rw [List.eq_of_mem_replicate hx]; decide) 0 32 32 (by rw [List.length_replicate]; omega) (by omega) (by unfold maxLen; omega)
 simpa using this
theorem row_nilB (w : World) (A : Option Addr) (cap : Nat) (h : cap ≤ maxLen) : RowAt w A cap [] := ⟨Nat.zero_le _, h, fun x hx => by simp at hx, fun h => absurd rfl h⟩
theorem make_32B (w : World) : (Instr.makeSlice 22 (.int .i64 32) (.int .i64 32)).run Tryz.prog w = .ok (.slice (some ⟨w.heap.size, 0, none⟩) 32 32) (w.alloc (.cells ((List.replicate 32 (0 : Int)).map (Value.int .u8)).toArray 5)) := by
 have := make_u8 32 (by omega) w
 rw [List.map_replicate]
 exact this
set_option maxHeartbeats 2000000 in
theorem awake_box (NC : NewC) (SC : SliceC) : AwB := by
 intro w
 go_enter Tryz.func9, Tryz.ntmps9
 go_wp2_with fail
 refine (new_m w 512 8 (by decide) (by decide) (by decide) (Below.refl _ _)).mono ?_; rintro e w1 ⟨p, g, h, rfl, s, _⟩
 have mk := make_32B w1
 have S := Lib.hid (s.below (bel_al (Below.refl w1.heap.size w1) (.cells ((List.replicate 32 (0 : Int)).map (Value.int .u8)).toArray 5)))
 have R1 := Lib.hid (row_32 w1)
 generalize w1.alloc (.cells ((List.replicate 32 (0 : Int)).map (Value.int .u8)).toArray 5) = w2 at *
 have C1 := Lib.hid (NC p g h _ _ (128, 128) (some ⟨w1.heap.size, 0, none⟩) 32 32 (List.replicate 32 0) none 0 0 [] none 0 0 [] w2 (by unfold RgI; omega) (by rw [List.length_replicate]) (by omega) rfl (by omega) rfl (by omega) S.out.at_ R1.out (row_nilB _ _ _ (by unfold maxLen; omega)) (kRow_nil _ _) (.inr (fun x hx => by cases hx; exact Nat.ne_of_gt s.at_.bytes.lt)) (.inl rfl))
 clear s
 go_wp2_with fail
 refine C1.out.mono ?_; rintro e w3 ⟨RA, rc, TA, tc, ⟨hne, _⟩ | ⟨_, rfl, h1, h2, h3, h4⟩⟩
 · exact absurd awake_new hne
 have ES := awake_slice []
 have oX : (newX (128, 128) []).Ok := newX_ok (by unfold U32; omega) (by unfold U32; omega) (fun v h => by cases h) (by simp)
 have htr : (newX (128, 128) []).W.tr.length ≤ 50000 := by simp [newX]
 have S3 := S.out.chg h3 h4
 replace h1 : KRow .u32 w3 RA rc (newX (128, 128) []).W.rep := h1
 replace h2 : EvRow w3 TA tc (newX (128, 128) []).W.tr := h2
 have eb : (List.replicate (64 * 8) (0 : Int)) = List.replicate 512 0 := by congr 1
 rw [eb] at S3
 generalize newX (128, 128) [] = x at *
 generalize newB (List.replicate 512 0) (128, 128) (List.replicate 32 0) [] = B at *
 generalize newT (List.replicate 8 false) (128, 128) = T at *
 have L0 := bx_len oX.c RA rc TA tc
 obtain ⟨W4, e4, x4, b4, _⟩ := boxX w3 (x.cs RA rc TA tc)
 have C2 := SC x 5 p g h B T W4 RA rc TA tc oX htr (by omega) (S3.at_.below b4) (h1.below b4) (h2.below b4)
 rw [show ((5 : Int)).toNat = 5 from rfl, ES] at C2
 unfold Bx.val at C2 ⊢
 replace C2 := Lib.hid C2
 have S4 := Lib.hid (S3.below b4)
 have o2 : Hid (x.c.Ok) := Lib.hid oX.c
 generalize x.cs RA rc TA tc = cs at *
 replace e4 := Lib.hid e4
 replace x4 := Lib.hid x4
 replace L0 := Lib.hid L0
 clear ES oX eb C1 mk S S3 b4 h1 h2 h3 h4 R1 htr
 go_wp2_with (first
  | (refine st_box rfl (.tmp 3) (.tmp 17) rfl rfl w3 _ rfl rfl cs L0.out.1 L0.out.2 rfl rfl W4 e4.out ?_)
  | (refine ld_box rfl (.tmp 3) rfl w3.heap.size rfl cs L0.out.1 x4.out ?_))
 refine C2.out.mono ?_; rintro e w5 ⟨RA5, rc5, TA5, tc5, rfl, q1, q2, q3, q4⟩
 have S5 := Lib.hid (S4.out.chg q3 q4.wide)
 simp only
 have L5 := Lib.hid (bx_len (x := ⟨x.c, x.W, 2, 1⟩) o2.out RA5 rc5 TA5 tc5)
 obtain ⟨u0, u1, u2, u3, u4, u5, u6, u7, u8, u9, u10, ec, ev⟩ := bx_cs (x := ⟨x.c, x.W, 2, 1⟩) o2.out
 replace ev := ev RA5 rc5 TA5 tc5
 unfold Bx.val
 generalize (⟨x.c, x.W, 2, 1⟩ : Bx).cs RA5 rc5 TA5 tc5 = ds at *
 obtain ⟨W6, e6, x6, b6, _⟩ := boxX w5 ds
 rw [ev] at x6
 have c16 := x6.cell 16
 have c17 := x6.cell 17
 simp only [List.getElem?_cons_succ, List.getElem?_cons_zero] at c16 c17
 have B6 := Lib.hid (bel_then S5.out.bel b6)
 replace e6 := Lib.hid e6
 clear ec ev q1 q2 q3 q4 C2 e4 x6 x4 L0
 go_wp2_with (first
  | (refine st_box rfl (.tmp 5) (.tmp 23) rfl rfl w5 _ rfl rfl ds L5.out.1 L5.out.2 rfl rfl W6 e6.out ?_))
 go_ret
 exact ⟨rfl, B6.out⟩
theorem newE_0 {code data : List Int} {n : Int} (h : newE code data (1024, 1024) n = 0) : verE code = 0 ∧ code.length ≤ 480 ∧ data.length ≤ 512 := by
  unfold newE at h
  by_cases h1 : verE code = 0
  · rw [if_neg (by simp [h1])] at h
    by_cases h2 : (powS (1024 : Int) && decide ((code.length : Int) ≤ (1024 : Int) / 2 - 32) && decide ((data.length : Int) ≤ (1024 : Int) / 2)) = false
    · rw [if_pos h2] at h; exact absurd h (by decide)
    · have h3 : (powS (1024 : Int) && decide ((code.length : Int) ≤ (1024 : Int) / 2 - 32) && decide ((data.length : Int) ≤ (1024 : Int) / 2)) = true := by
        revert h2; generalize (powS (1024 : Int) && decide ((code.length : Int) ≤ (1024 : Int) / 2 - 32) && decide ((data.length : Int) ≤ (1024 : Int) / 2)) = q; cases q <;> simp
      simp only [Bool.and_eq_true, decide_eq_true_iff] at h3
      omega
  · rw [if_pos h1] at h; exact absurd h h1
theorem newT_len (z : Nat) (h : 32 ≤ z) : (newT (List.replicate z false) (1024, 1024)).length = z := by
 unfold newT
 rw [splice_len _ _ _ (by rw [List.length_replicate, List.length_replicate]; show (1024 / 64 : Int).toNat + (1024 / 64 : Int).toNat ≤ z; omega), List.length_replicate]
theorem newT_rg (z : Nat) (h : 32 ≤ z) : RgT (newT (List.replicate z false) (1024, 1024)) 1024 2048 := rgT_of z 16 16 (by omega)
theorem zeros_byte (n : Nat) : Bytes (List.replicate n (0 : Int)) := fun x hx => by rw [List.eq_of_mem_replicate hx]; decide
theorem start_i {z : Nat} (hz : 32 ≤ z) {code data rep : List Int} (hc : Bytes code) (hd : Bytes data) (hr : ∀ v ∈ rep, U32 v) (hl : rep.length ≤ 100000) (h1 : code.length ≤ 480) (h2 : data.length ≤ 512) :
  BxI (newT (List.replicate z false) (1024, 1024)) 1024 2048 0 (newX (1024, 1024) rep) (newB (List.replicate (64 * z) 0) (1024, 1024) code data) := by
 have hl2 := newB_len (B := List.replicate (64 * z) 0) (code := code) (data := data) (b := 1024) (s := 1024) (by rw [List.length_replicate]; omega) (by omega) (by omega)
 exact ⟨newX_ok (by unfold U32; omega) (by unfold U32; omega) hr hl, rfl, rfl, newB_byte _ (zeros_byte _) hc hd, by rw [newT_len z hz]; exact hl2.trans List.length_replicate, by simp [newX]⟩
theorem krow_u {w : World} {A : Option Addr} {cap : Nat} {l : List Int} (r : KRow .u32 w A cap l) : ∀ v ∈ l, U32 v := fun v hv => by
 have := r.2.2.1 v hv
 have := bounds_u32 this
 exact ⟨this.1, by omega⟩
theorem zero_i (z : Nat) : BxI (List.replicate z false) 0 0 0 zeroX (List.replicate (64 * z) 0) :=
 ⟨zeroX_ok, rfl, rfl, zeros_byte _, by rw [List.length_replicate, List.length_replicate], by simp [zeroX]⟩
noncomputable def newK (code data : List Int) : Int := newE code data (1024, 1024) 4096
theorem newE_k (code data : List Int) {n : Int} (h1 : 2112 ≤ n) (h2 : n ≤ 65536) : newE code data (1024, 1024) n = newK code data := by
 have e1 : rgtB [((1024 : Int), (1024 : Int))] n = true := reg_one (by omega) h2 (by unfold regB; simp [powS]; omega)
 have e2 : rgtB [((1024 : Int), (1024 : Int))] 4096 = true := reg_one (by omega) (by omega) (by unfold regB; simp [powS])
 unfold newK newE
 rw [e1, e2]
def boxO (E : Int) (rep : List Int) : Bx := if E = 0 then newX (1024, 1024) rep else zeroX
def memO (E : Int) (z : Nat) (code data : List Int) : List Int := if E = 0 then newB (List.replicate (64 * z) 0) (1024, 1024) code data else List.replicate (64 * z) 0
def zonO (E : Int) (z : Nat) : List Bool := if E = 0 then newT (List.replicate z false) (1024, 1024) else List.replicate z false
def loO (E : Int) : Nat := if E = 0 then 1024 else 0
def hiO (E : Int) : Nat := if E = 0 then 2048 else 0
theorem new_u {w : World} {p g h z : Nat} {code data rep : List Int} {e : Ending} {w' : World} (h1 : 33 ≤ z) (h2 : z ≤ 1024) (N : NewP w p g h (List.replicate (64 * z) 0) (List.replicate z false) (1024, 1024) code data rep e w') :
    ∃ RA rc TA tc, e = .returned (.tuple #[(boxO (newK code data) rep).val RA rc TA tc, .int .i64 (newK code data)]) ∧ KRow .u32 w' RA rc (boxO (newK code data) rep).W.rep ∧ EvRow w' TA tc (boxO (newK code data) rep).W.tr ∧
      MemAt w' p g h (memO (newK code data) z code data) (zonO (newK code data) z) ∧ Chg g h w w' := by
  have hk : newE code data (1024, 1024) (64 * ((List.replicate z false).length : Nat)) = newK code data := newE_k code data (by rw [List.length_replicate]; omega) (by rw [List.length_replicate]; omega)
  unfold NewP at N
  rw [hk] at N
  obtain ⟨RA, rc, TA, tc, ⟨hne, rfl, q1, q2, q3, q4⟩ | ⟨he, rfl, q1, q2, q3, q4⟩⟩ := N
  · refine ⟨RA, rc, TA, tc, ?_, ?_, ?_, ?_, q4⟩
    · unfold boxO; rw [if_neg hne]
    · unfold boxO; rw [if_neg hne]; exact q1
    · unfold boxO; rw [if_neg hne]; exact q2
    · unfold memO zonO; rw [if_neg hne, if_neg hne]; exact q3
  · refine ⟨RA, rc, TA, tc, ?_, ?_, ?_, ?_, q4⟩
    · unfold boxO; rw [if_pos he, he]
    · unfold boxO; rw [if_pos he]; exact q1
    · unfold boxO; rw [if_pos he]; exact q2
    · unfold memO zonO; rw [if_pos he, if_pos he]; exact q3
theorem newK_0 {code data : List Int} (h : newK code data = 0) : verE code = 0 ∧ code.length ≤ 480 ∧ data.length ≤ 512 := newE_0 h
theorem boxO_i {code data rep : List Int} {z : Nat} (hz : 32 ≤ z) (hc : Bytes code) (hd : Bytes data) (hr : ∀ v ∈ rep, U32 v) (hl : rep.length ≤ 100000) :
    BxI (zonO (newK code data) z) (loO (newK code data)) (hiO (newK code data)) 0 (boxO (newK code data) rep) (memO (newK code data) z code data) := by
  unfold zonO loO hiO boxO memO
  by_cases h : newK code data = 0
  · obtain ⟨_, k1, k2⟩ := newK_0 h
    rw [if_pos h, if_pos h, if_pos h, if_pos h, if_pos h]
    exact start_i hz hc hd hr hl k1 k2
  · rw [if_neg h, if_neg h, if_neg h, if_neg h, if_neg h]
    exact zero_i z
section
variable {w0 W W' : World} {pa ga ha pb gb hb : Nat} {A A' B B' : List Int} {TA TA' TB TB' : List Bool}
end
end Go.Proofs.YtbgnkljeodandaaGreat.Mm
