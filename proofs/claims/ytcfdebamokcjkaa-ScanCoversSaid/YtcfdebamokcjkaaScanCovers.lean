/- The statement ScanCovers, walked. -/
import Derived.Test.YtcfdebamokcjkaaScanCov
import Derived.Test.YtcfdebamokcjkaaScanPad2
namespace Go.Proofs.Ytcfdebamokcjkaa.Mm
open Go.ChangeShapes Go.WideShapes Go.ChangeAt Go.RowKit
set_option linter.unusedVariables false

theorem covers_long (A : Option Addr) (cap n : Nat) (h : 4200 < n) (hm : n ≤ maxLen) (w : World) :
    Calls Try.prog 5 #[.slice A n cap] w fun e w' => e = .returned (.bool true) ∧ Below w.heap.size w w' := by
  unfold maxLen at hm
  go_enter Try.func5, Try.ntmps5
  go_wp2_with fail
  refine (awake_any _).mono ?_; rintro e w1 ⟨rfl, hb1⟩
  have B1 := Lib.hid hb1; clear hb1
  go_wp2_with fail
  refine (awake_any _).mono ?_; rintro e w2 ⟨rfl, hb2⟩
  have B2 := Lib.hid (bel_then B1.out hb2); clear hb2
  go_wp2_with fail
  go_ret
  exact ⟨rfl, B2.out⟩

theorem covers_bad (A : Option Addr) (cap n : Nat) (code : List Int) (hn : code.length = n) (h : n ≤ 4200) (hE : scanE code ≠ 0) (w : World) (r : RowAt w A cap code) :
    Calls Try.prog 5 #[.slice A n cap] w fun e w' => e = .returned (.bool true) ∧ Below w.heap.size w w' := by
  have h0 : scanL code = [] := by
    rcases scan_cases code with ⟨_, _, e⟩ | ⟨_, _, _, e⟩ | ⟨_, L, _, e, _⟩
    · exact e
    · exact e
    · exact absurd e hE
  have C1 := Lib.hid (fun w' (k : Below w.heap.size w w') => Starts_any A cap n code hn w' (r.below k))
  have C2 := Lib.hid (fun w' (k : Below w.heap.size w w') => Listing_any A cap n code hn w' (r.below k))
  unfold StartsP at C1
  unfold ListP at C2
  rw [h0] at C1 C2
  have hq : (scanE code != 0) = true := by rw [bne_iff_ne]; exact hE
  clear r hn hE h0
  generalize scanE code = q at *
  go_enter Try.func5, Try.ntmps5
  go_wp2_with fail
  refine (awake_any _).mono ?_; rintro e w1 ⟨rfl, hb1⟩
  have B1 := Lib.hid hb1; clear hb1
  go_wp2_with fail
  refine (C1.out w1 B1.out).mono ?_; rintro e w2 ⟨A2, c2, rfl, i2, hb2⟩
  have B2 := Lib.hid (bel_then B1.out hb2); clear i2 hb2
  go_wp2_with fail
  refine (C2.out w2 B2.out).mono ?_; rintro e w3 ⟨A3, c3, rfl, i3, hb3⟩
  have B3 := Lib.hid (bel_then B2.out hb3); clear i3 hb3
  go_wp2
  go_ret
  exact ⟨rfl, B3.out⟩

set_option maxHeartbeats 4000000 in
theorem covers_ok (A : Option Addr) (cap n : Nat) (code : List Int) (hn : code.length = n) (h : n ≤ 4200) (L : List (Nat × InsV)) (hS : scanAt code 0 = some L) (hL : scanL code = L) (hE : scanE code = 0) (w : World) (r : RowAt w A cap code) :
    Calls Try.prog 5 #[.slice A n cap] w fun e w' => e = .returned (.bool true) ∧ Below w.heap.size w w' := by
  have C1 := Lib.hid (fun w' (k : Below w.heap.size w w') => Starts_any A cap n code hn w' (r.below k))
  have C2 := Lib.hid (fun w' (k : Below w.heap.size w w') => Listing_any A cap n code hn w' (r.below k))
  unfold StartsP at C1
  unfold ListP at C2
  rw [hE, hL] at C1 C2
  have hz := scanL_len r.2.2.1
  rw [hL] at hz
  have R := Lib.hid r
  have HN := Lib.hid hn
  have H0 := Lib.hid (covI_0 r.2.2.1 hS)
  have PL := Lib.hid (posI_len L)
  have IL := Lib.hid (insI_len L)
  have HLL : Hid (L.length = L.length) := Lib.hid rfl
  clear r hn hS hL hE
  generalize hz' : L.length = z at C1 C2 PL IL hz
  have HZ := Lib.hid hz'
  clear hz' HLL
  go_enter Try.func5, Try.ntmps5
  go_wp2_with fail
  refine (awake_any _).mono ?_; rintro e w1 ⟨rfl, hb1⟩
  have B1 := Lib.hid hb1; clear hb1
  go_wp2_with fail
  refine (C1.out w1 B1.out).mono ?_; rintro e w2 ⟨A2, c2, rfl, i2, hb2⟩
  have I2 := Lib.hid i2
  have B2 := Lib.hid (bel_then B1.out hb2); clear i2 hb2
  go_wp2_with fail
  refine (C2.out w2 B2.out).mono ?_; rintro e w3 ⟨A3, c3, rfl, i3, hb3⟩
  have I3 := Lib.hid i3
  have J2 := Lib.hid (I2.out.below hb3)
  have B3 := Lib.hid (bel_then B2.out hb3); clear i3 hb3 I2 C1 C2
  go_wp2
  go_loopw [7, 8] (fun v i wr => ∃ (k b : Nat), i = .int .i64 k ∧ k ≤ z ∧ v = .int .i64 b ∧ b ≤ n ∧ Hid (CovI code L k b) ∧ Hid (Below w3.heap.size w3 wr)) (fun _ i _ => z - (intOf i).toNat)
  case atStart => exact ⟨0, 0, rfl, Nat.zero_le _, rfl, Nat.zero_le _, H0, Lib.hid (Below.refl _ _)⟩
  case round =>
    obtain ⟨k, b, rfl, hk, rfl, hb, HI, HB⟩ := hrel
    by_cases hlt : k < z
    · obtain ⟨x, rfl, hxb, hc⟩ := (J2.out.below HB.out).2.2 (by intro e; have := PL.out; rw [e] at this; simp at this; omega)
      obtain ⟨y, rfl, hyb, hd⟩ := (I3.out.below HB.out).2.2.2 (by intro e; have := IL.out; rw [e] at this; simp at this; omega)
      have hs := covI_step HI.out (by rw [HZ.out]; exact hlt)
      have e1 := hc k (by rw [PL.out]; exact hlt)
      have PX := Lib.hid (hd k (by rw [IL.out]; exact hlt))
      have hwf := I3.out.2.2.1 _ (mem_getD (insI L) k (by rw [IL.out]; exact hlt))
      obtain ⟨hs1, hs2, hs3, hs4, hs5, hs6⟩ := hs
      rw [hs1] at e1
      have HLAY := Lib.hid (lay_contract _ hwf)
      unfold InsV.agg at HLAY
      have HSZ := Lib.hid (fun w' => Go.Proofs.Ytcfdebamokcjkaa.Size_any ((insI L).getD k insD).op w')
      rw [ok_size hs2] at HSZ
      have h6 := lay_len hs2
      have CV : Hid (∀ w', Below wr.heap.size wr w' → ∀ x c, A = some x → (convert 22 9 (.slice (some (x.add b)) ((insI L).getD k insD).lay.length c)).run Try.prog w' = .ok (.string (strOfNums ((insI L).getD k insD).lay)) w') := Lib.hid (fun w' hw' x c hA => by
        subst hA
        have := part_conv (R.out.below (bel_then (bel_then B3.out HB.out) hw')) b _ c hs5 h6.1
        rw [hs4] at this
        exact this)
      have HX := Lib.hid hs6
      rw [HN.out] at hs5
      obtain ⟨p, rfl⟩ : ∃ p, A = some p := by
        obtain ⟨p, hp, _⟩ := R.out.2.2.2 (by intro e; have := HN.out; rw [e] at this; simp at this; omega)
        exact ⟨p, hp⟩
      have hcap : n ≤ cap := by have := R.out.1; have := HN.out; omega
      obtain ⟨p0, p1, p2, p3⟩ := PX.out
      clear hc hd hs1 hs2 hs4 hs6 hwf
      generalize strOfNums ((insI L).getD k insD).lay = S at *
      generalize ((insI L).getD k insD).lay.length = t at *
      generalize (insI L).getD k insD = u at *
      go_wp2_with fail
      refine (HSZ.out _).mono ?_; rintro e w4 ⟨rfl, hb4⟩
      have E1 : wr.cell? (x.add k) = some (.int .i64 b) := e1
      have K : CovR wr (x.add k) b (y.add (k * 4)) u (.slice (some (p.add b)) t (cap - b)) S w4 := (CovR.below (w := wr) ⟨⟨by rw [block_add]; exact hxb, by rw [block_add]; exact hyb⟩, fun w1 hw1 => CV.out w1 hw1 p _ rfl⟩ ⟨e1, PX.out, CV.out _ (Below.refl _ _) p _ rfl, Below.refl _ _⟩ hb4)
      have CK : Hid (((x.add k).block < wr.heap.size ∧ (y.add (k * 4)).block < wr.heap.size) ∧ ∀ w1, Below wr.heap.size wr w1 → (convert 22 9 (.slice (some (p.add b)) t (cap - b))).run Try.prog w1 = .ok (.string S) w1) := Lib.hid ⟨⟨by rw [block_add]; exact hxb, by rw [block_add]; exact hyb⟩, fun w1 hw1 => CV.out w1 hw1 p _ rfl⟩
      have K := Lib.hid K
      clear E1 e1 p0 p1 p2 p3 PX hb4 CV
      go_wp2_with fail
      have hck : ¬ cap = b := by omega
      have f1 : (0 : Int) ≤ (b : Int) := by omega
      have f2 : (b : Int) + (t : Int) ≤ (n : Int) := by omega
      have f3 : b + t ≤ cap := by omega
      have f4 : b ≤ b + t := by omega
      have f5 : (0 : Int) ≤ (b : Int) + (t : Int) := by omega
      have f6 : (b : Int) ≤ (b : Int) + (t : Int) := by omega
      have f7 : (b : Int) + (t : Int) ≤ (cap : Int) := by omega
      have f9 : b + t - b = t := by omega
      have g1 : IntKind.i64.wrap ((b : Int) + (t : Int)) = (b : Int) + (t : Int) := IntWalk.i64_in _ (by omega)
      have g2 : IntKind.i64.wrap ((b : Int) + (t : Int) - 1) = (b : Int) + (t : Int) - 1 := IntWalk.i64_in _ (by omega)
      have g3 : ((b : Int) + (t : Int)).toNat = b + t := by omega
      have g4 : IntKind.i64.wrap ((b : Int) / 32) = (b : Int) / 32 := IntWalk.i64_in _ (by omega)
      have g5 : IntKind.i64.wrap (((b : Int) + (t : Int) - 1).tdiv 32) = (b : Int) / 32 := by
        rw [Int.tdiv_eq_ediv_of_nonneg (by omega), IntWalk.i64_in _ (by omega)]; omega
      go_region_held3 (fun w' => ((w'.cell? (x.add k) = some (.int .i64 b) ∧ w'.cell? (y.add (k * 4)) = some (.int .i64 u.op) ∧ w'.cell? ⟨(y.add (k * 4)).block, (y.add (k * 4)).off + 1, none⟩ = some (.int .i64 u.a) ∧ w'.cell? ⟨(y.add (k * 4)).block, (y.add (k * 4)).off + 2, none⟩ = some (.int .i64 u.b) ∧ w'.cell? ⟨(y.add (k * 4)).block, (y.add (k * 4)).off + 3, none⟩ = some (.int .u32 u.imm)) ∧ (convert 22 9 (.slice (some (p.add b)) t (cap - b))).run Try.prog w' = .ok (.string S) w') ∧ CovR wr (x.add k) b (y.add (k * 4)) u (.slice (some (p.add b)) t (cap - b)) S w')
        (first | exact CovR.s K.out | exact CovR.s (CovR.below CK.out K.out (below_drew1 (Below.refl _ _))) | exact cov_keep CK.out ‹_ ∧ CovR _ _ _ _ _ _ _ _› hb)
        (first | (go_at_call 19; (with_reducible refine (HLAY.out _).mono ?_); rintro e w' ⟨rfl, hb⟩))
      rename_i hh
      obtain ⟨_, K2⟩ := hh
      have B5 := Lib.hid (bel_then HB.out K2.2.2.2)
      clear K2 K
      go_wp2
      exact ⟨⟨k + 1, b + t, by go_num, by omega, by go_num, by omega, HX, B5⟩, by simp [intOf]; omega⟩
    · obtain rfl : k = z := by omega
      have HE := covI_end (by rw [HZ.out]; exact HI.out)
      rw [HN.out] at HE
      subst HE
      have BF := Lib.hid (bel_then B3.out HB.out)
      go_wp2
      go_ret
      exact ⟨ret_bool (by simp), BF.out⟩
theorem scanCovers_walk (A : Option Addr) (cap : Nat) (code : List Int) (w : World) (r : RowAt w A cap code) :
    Calls Try.prog 5 #[.slice A code.length cap] w fun e w' => e = .returned (.bool true) ∧ Below w.heap.size w w' := by
  rcases Nat.lt_or_ge 4200 code.length with h | h
  · exact covers_long A cap _ h (by have := r.1; have := r.2.1; omega) w
  · by_cases hE : scanE code = 0
    · rcases scan_cases code with ⟨_, e, _⟩ | ⟨_, _, e, _⟩ | ⟨_, L, hS, _, hL⟩
      · rw [e] at hE; cases hE
      · rw [e] at hE; cases hE
      · exact covers_ok A cap _ code rfl h L hS hL hE w r
    · exact covers_bad A cap _ code rfl h hE w r
end Go.Proofs.Ytcfdebamokcjkaa.Mm
