/- WholeData: what it calls; the inputs that are too long. -/
import Derived.Test.YtjmbaiijmhkdpaaGreatDHostCi
import Derived.Deep.Slices
import Derived.Deep.Fields
import Derived.Maps.AppendAt
namespace Go.Proofs.YtjmbaiijmhkdpaaGreat.Mm
open Go.ChangeShapes Go.WideShapes Go.ChangeAt Go.RowKit
set_option linter.unusedVariables false
set_option linter.unusedSimpArgs false
set_option maxRecDepth 10000
set_option maxHeartbeats 4000000

def D8 : List Int := [1, 2, 3, 4, 5, 6, 7, 8]
structure LdOk (z : Nat) (h : Ho) (l : List Int) (size : Int) (k b hf : Nat) : Prop where
  e : imgE l = 0
  v : verE (codeI l) = 0
  k16 : k < 16
  no : h.m[k]? = some none
  rg : regB ((64 * z : Nat) : Int) ((b : Int), ((2 * hf : Nat) : Int)) = true
  ap : ∀ j s, h.has j s → s.b + 2 * s.hf + 64 ≤ b ∨ b + 2 * hf + 64 ≤ s.b
  c : (codeI l).length + 32 ≤ hf
  d : (dataL l).length ≤ hf
theorem img_ver {l : List Int} (h : imgE l = 0) : verE (codeI l) = 0 := by
  unfold imgE at h
  by_cases h0 : errL l = 0
  · rw [if_neg (by simp [h0])] at h; exact h
  · rw [if_pos h0] at h; exact absurd h h0
theorem ld_ok {z : Nat} {h : Ho} (H : HoZ z h) {l : List Int} {size : Int} (he : loadE z h (imgE l) (codeI l) (dataL l) size = 0) {k b hf : Nat} (hk : freeO h = some k) (hs : size = ((2 * hf : Nat) : Int)) (hb : takeV (regsU h) ((64 * z : Nat) : Int) size = (b : Int)) : LdOk z h l size k b hf := by
  obtain ⟨k', b', hf', q1, q2, q3, q4, q5, q6, q7, q8, q9, q10⟩ := load_ok H he
  rw [hk] at q1
  injection q1 with q1
  subst q1
  obtain rfl : hf = hf' := by omega
  obtain rfl : b = b' := by have := hb.symm.trans q3; omega
  exact ⟨q4, img_ver q4, q5, q6, q7, q8, q9, q10⟩
theorem code_bytes {l : List Int} (h : Bytes l) : Bytes (codeI l) := fun v hv => h v (List.mem_of_mem_drop (List.mem_of_mem_take hv))
theorem data_bytes {l : List Int} (h : Bytes l) : Bytes (dataL l) := fun v hv => h v (List.mem_of_mem_drop (List.mem_of_mem_take hv))
theorem LdOk.i {z n0 : Nat} {h : Ho} {l : List Int} {size : Int} {k b hf : Nat} (o : LdOk z h l size k b hf) (I : HoI z n0 h) (hz : z ≤ 1000) (hl : Bytes l) {rep : List Int} (hu : ∀ v ∈ rep, U32 v) (hr : rep.length ≤ 100000) : HoI z n0 (loadO h k b hf (codeI l) (dataL l) rep) :=
  I.load hz o.no o.rg o.ap (code_bytes hl) (data_bytes hl) o.v o.c o.d hu hr
theorem LdOk.has {z : Nat} {h : Ho} {l : List Int} {size : Int} {k b hf : Nat} (o : LdOk z h l size k b hf) (H : HoZ z h) (rep : List Int) : (loadO h k b hf (codeI l) (dataL l) rep).has k ⟨b, hf, codeI l, newX ((b : Int), ((2 * hf : Nat) : Int)) rep⟩ :=
  has_set_same (by have := H.ml; have := o.k16; omega) _
theorem row_lt' {w : World} {A : Option Addr} {cap : Nat} {l : List Int} (r : RowAt w A cap l) (h : 0 < l.length) {a : Addr} (ha : A = some a) : a.block < w.heap.size := by
  obtain ⟨p, hp, hb, _⟩ := r.2.2.2 (by intro e; rw [e] at h; simp at h)
  rw [ha] at hp
  cases hp
  exact hb
structure AlZ (z : Nat) (W : World) (hb ob : Nat) (id jd n0 : Nat) (h o : Ho) (F G : Nat → Prop) (s : Sb) (w : World) : Prop where
  ah : HAt w hb h F
  ao : HAt w ob o G
  al : AlR z n0 h o id jd s
  dj : ∀ i, F i → ¬ G i
  fl : ∀ i, F i → W.heap.size ≤ i
  gl : ∀ i, G i → W.heap.size ≤ i
  bel : Below W.heap.size W w
section
variable {z : Nat} {W w w' : World} {hb ob id jd n0 : Nat} {h o : Ho} {F G : Nat → Prop} {s : Sb}
theorem AlZ.below (A : AlZ z W hb ob id jd n0 h o F G s w) (b : Below w.heap.size w w') : AlZ z W hb ob id jd n0 h o F G s w' :=
  ⟨A.ah.below b, A.ao.below b, A.al, A.dj, A.fl, A.gl, bel_then A.bel b⟩
theorem AlR.monoZ {z n0 n1 : Nat} {h o : Ho} {i j : Nat} {s : Sb} (A : AlR z n0 h o i j s) (hn : n0 ≤ n1) : AlR z n1 h o i j s := ⟨A.hi.mono hn, A.oi.mono hn, A.hs, A.os, A.eq⟩
theorem AlZ.mono (A : AlZ z W hb ob id jd n0 h o F G s w) {n1 : Nat} (hn : n0 ≤ n1) : AlZ z W hb ob id jd n1 h o F G s w := ⟨A.ah, A.ao, A.al.monoZ hn, A.dj, A.fl, A.gl, A.bel⟩
theorem AlZ.swap (A : AlZ z W hb ob id jd n0 h o F G s w) : AlZ z W ob hb jd id n0 o h G F s w := ⟨A.ao, A.ah, A.al.symm, fun i hg hf => A.dj i hf hg, A.gl, A.fl, A.bel⟩
theorem AlZ.step (A : AlZ z W hb ob id jd n0 h o F G s w) {n1 : Nat} {h2 : Ho} {F2 : Nat → Prop} {s2 : Sb} {o2 : Ho} (at2 : HAt w' hb h2 F2) (c : ChF F w w') (sb : SubF w F F2) (al : AlR z n1 h2 o id jd s2) : AlZ z W hb ob id jd n1 h2 o F2 G s2 w' :=
  ⟨at2, A.ao.apart c (fun i hg hf => A.dj i hf hg), al, fun i hf hg => (sb i hf).elim (fun hf => A.dj i hf hg) (fun h => by have := A.ao.lim i hg; omega), fun i hf => (sb i hf).elim (A.fl i) (fun h => Nat.le_trans A.bel.size h), A.gl, Below.trans A.bel (c.below A.fl A.bel.size)⟩
theorem AlZ.load (A : AlZ z W hb ob id jd n0 h o F G s w) (hz : 1 ≤ z ∧ z ≤ 1000) {R : Option Addr} {cap n : Nat} {l : List Int} {size : Int} {RA : Option Addr} {rc rn : Nat} {rep : List Int}
    (r : RowAt w R cap l) (hl : l.length = n) (hn : n ≤ 4200) (hp : powS size = true) (k : KRow .u32 w RA rc rep) (hr : rep.length = rn) (hrn : rn ≤ 1000) :
    Calls Tryz.prog 14 #[.pointer (some ⟨hb, 0, none⟩), .slice R n cap, .int .i64 size, .slice RA rn rc] w fun e w' => ∃ v h2 F2, e = .returned v ∧ AlZ z W hb ob id jd n0 h2 o F2 G s w' ∧ ChF F w w' ∧ SubF w F F2 := by
  refine (hLoad w hb z h F R cap n l size RA rc rn rep A.ah A.al.hi.Z hz.1 (by omega) r hl hn hp k hr hrn).mono ?_
  rintro e w' (⟨_, rfl, at2, b2⟩ | ⟨hE, k1, b, hf, hk, hs, hb2, rfl, F2, at2, ch2, sb2⟩)
  · exact ⟨_, h, F, rfl, A.below b2, ChF.of b2, SubF.refl w F⟩
  · have OK := ld_ok A.al.hi.Z hE hk hs hb2
    exact ⟨_, _, F2, rfl, A.step (o2 := o) at2 ch2 sb2 (A.al.load_other hz.2 OK.no OK.rg OK.ap (code_bytes r.2.2.1) (data_bytes r.2.2.1) (img_ver OK.e) OK.c OK.d (kr_u32 k) (by omega)), ch2, sb2⟩
theorem AlZ.run (A : AlZ z W hb ob id jd n0 h o F G s w) (h0 : n0 ≤ 40000) {x : Int} {n : Nat} (hx : I64i x) (hn : n ≤ 20000) (hne : x ≠ (id : Int)) :
    Calls Tryz.prog 17 #[.pointer (some ⟨hb, 0, none⟩), .int .i64 x, .int .i64 (n : Int)] w fun e w' => ∃ p q h2 F2, e = .returned (.tuple #[.int .i64 p, .int .i64 q]) ∧ AlZ z W hb ob id jd (n0 + n) h2 o F2 G s w' ∧ ChF F w w' ∧ SubF w F F2 := by
  refine (hRun w hb z n0 h F x n A.ah A.al.hi h0 hx hn).mono ?_
  rintro e w' (⟨k, t, rfl, ht, rfl, F2, at2, ch2, sb2⟩ | ⟨_, rfl, at2, b2⟩)
  · exact ⟨_, _, _, F2, rfl, A.step (o2 := o) at2 ch2 sb2 (A.al.run_other (by omega) ht n), ch2, sb2⟩
  · exact ⟨_, _, h, F, rfl, (A.below b2).mono (by omega), ChF.of b2, SubF.refl w F⟩
theorem AlZ.own (A : AlZ z W hb ob id jd n0 h o F G s w) (h0 : n0 ≤ 40000) {n : Nat} (hn : n ≤ 20000) (hi : id ≤ 100) (hj : jd ≤ 100) :
    Calls Tryz.prog 17 #[.pointer (some ⟨hb, 0, none⟩), .int .i64 (id : Int), .int .i64 (n : Int)] w fun e w' => ∃ (p : Nat) (F2 : Nat → Prop), e = .returned (.tuple #[.int .i64 (p : Int), .int .i64 0]) ∧ ChF F w w' ∧ SubF w F F2 ∧ Below W.heap.size W w' ∧
      (∀ w2, Below w'.heap.size w' w2 → Calls Tryz.prog 17 #[.pointer (some ⟨ob, 0, none⟩), .int .i64 (jd : Int), .int .i64 (n : Int)] w2 fun e w3 => e = .returned (.tuple #[.int .i64 (p : Int), .int .i64 0]) ∧ ∃ h2 o2 G2 s2, AlZ z W hb ob id jd (n0 + n) h2 o2 F2 G2 s2 w3 ∧ ChF G w2 w3) := by
  refine (hRun w hb z n0 h F (id : Int) n A.ah A.al.hi h0 (by unfold I64i; omega) hn).mono ?_
  rintro e w' (⟨k, t, hk, ht, rfl, F2, at2, ch2, sb2⟩ | ⟨hno, _⟩)
  · obtain rfl : id = k := by omega
    obtain rfl := Ho.one A.al.hs ht
    obtain ⟨e2, R⟩ := A.al.run_own n
    have fl2 : ∀ i, F2 i → W.heap.size ≤ i := fun i hf => (sb2 i hf).elim (A.fl i) (fun h => Nat.le_trans A.bel.size h)
    have dj2 : ∀ i, F2 i → ¬ G i := fun i hf hg => (sb2 i hf).elim (fun hf => A.dj i hf hg) (fun h => by have := A.ao.lim i hg; omega)
    have ao2 := A.ao.apart ch2 (fun i hg hf => A.dj i hf hg)
    have B2 := Below.trans A.bel (ch2.below A.fl A.bel.size)
    refine ⟨_, F2, rfl, ch2, sb2, B2, fun w2 b2 => ?_⟩
    refine (hRun w2 ob z n0 o G (jd : Int) n (ao2.below b2) A.al.oi h0 (by unfold I64i; omega) hn).mono ?_
    rintro e w3 (⟨k, t, hk, ht, rfl, G2, at3, ch3, sb3⟩ | ⟨hno, _⟩)
    · obtain rfl : jd = k := by omega
      obtain rfl := Ho.one A.al.os ht
      rw [← e2]
      refine ⟨rfl, _, _, G2, _, ⟨((at2.below b2).apart ch3 (fun i hf hg => dj2 i hf hg)), at3, R, fun i hf hg => (sb3 i hg).elim (dj2 i hf) (fun h => by have := at2.lim i hf; have := b2.size; omega), fl2, fun i hg => (sb3 i hg).elim (A.gl i) (fun h => Nat.le_trans (Nat.le_trans B2.size b2.size) h), Below.trans (bel_then B2 b2) (ch3.below A.gl (Nat.le_trans B2.size b2.size))⟩, ch3⟩
    · exact absurd A.al.os (hno jd _ rfl)
  · exact absurd A.al.hs (hno id _ rfl)
theorem AlZ.both {x n : Nat} (A : AlZ z W hb ob id id n0 h o F G s w) (h0 : n0 + n ≤ 40000) (hx : x ≤ 100) (hn : n ≤ 20000) (hi : id ≤ 100) :
    Calls Tryz.prog 17 #[.pointer (some ⟨hb, 0, none⟩), .int .i64 (x : Int), .int .i64 (n : Int)] w fun e w' => ∃ v, e = .returned v ∧ Below W.heap.size W w' ∧
      ∀ w2, Below w'.heap.size w' w2 → Calls Tryz.prog 17 #[.pointer (some ⟨ob, 0, none⟩), .int .i64 (x : Int), .int .i64 (n : Int)] w2 fun e w3 => ∃ v' h2 o2 F2 G2 s2, e = .returned v' ∧ AlZ z W hb ob id id (n0 + n + n) h2 o2 F2 G2 s2 w3 := by
  by_cases hxk : x = id
  · subst hxk
    refine (A.own (by omega) hn hi hi).mono ?_
    rintro e w' ⟨p, F2, rfl, _, _, b, R⟩
    refine ⟨_, rfl, b, fun w2 b2 => (R w2 b2).mono ?_⟩
    rintro e w3 ⟨rfl, h2, o2, G2, s2, al, _⟩
    exact ⟨_, h2, o2, F2, G2, s2, rfl, al.mono (by omega)⟩
  · refine (A.run (x := (x : Int)) (by omega) (by unfold I64i; omega) hn (by omega)).mono ?_
    rintro e w' ⟨p, q, h2, F2, rfl, al, _, _⟩
    refine ⟨_, rfl, al.bel, fun w2 b2 => ((al.below b2).swap.run (x := (x : Int)) (by omega) (by unfold I64i; omega) hn (by omega)).mono ?_⟩
    rintro e w3 ⟨p', q', o2, G2, rfl, al2, _, _⟩
    exact ⟨_, h2, o2, F2, G2, s, rfl, al2.swap⟩
end
theorem goes14 (w : World) : Calls Tryz.prog 25 #[] w fun e w' => e = .returned (.bool true) ∧ Below w.heap.size w w' := by
  obtain ⟨W1, e1, R1, B1⟩ : ∃ W1, w.alloc (.cells #[.int .u8 97] 5 (1, 2)) = W1 ∧ RowAt W1 (some ⟨w.heap.size, 0, none⟩) 1 [97] ∧ Below w.heap.size w W1 :=
    ⟨_, rfl, ⟨Nat.le_refl _, by unfold maxLen; decide, by intro z hz; simp at hz; omega, fun _ => ⟨_, rfl, by simp, fun i hi => by
      have h0 : i = 0 := by simp at hi; omega
      subst h0
      have hh : (w.alloc (.cells #[.int .u8 97] 5 (1, 2))).heap[w.heap.size]? = some (.cells #[.int .u8 97] 5 (1, 2)) := by
        show (w.heap.push _)[w.heap.size]? = _
        rw [Array.getElem?_push, if_pos rfl]
      have ha : (⟨w.heap.size, 0, none⟩ : Addr).add 0 = ⟨w.heap.size, 0, none⟩ := rfl
      rw [ha]
      unfold World.cell?
      simp only [hh]
      rfl⟩⟩, bel_al (Below.refl _ _) _⟩
  have SU := Lib.hid (sum_any (some ⟨w.heap.size, 0, none⟩) 1 [97] W1 R1)
  rw [show fnvL 2166136261 [97] = 3826002220 from by decide] at SU
  have BB := Lib.hid B1
  have kc := Lib.run_convert_bytes_const (P := Tryz.prog) w 39 5 #[.int .u8 97] 1 1 Tryz.underlying39 Tryz.underlying5
  clear R1 B1
  go_enter Tryz.func25, Tryz.ntmps25
  go_wp2_with fail
  refine SU.out.mono ?_; rintro e w2 ⟨rfl, rfl⟩
  dsimp only
  go_wp2_with fail
  go_ret
  exact ⟨rfl, BB.out⟩
theorem krow56 {W : World} {g : Nat} {T : TypeId} (h : HasB W g T [.int .u32 5, .int .u32 6]) : KRow .u32 W (some ⟨g, 0, none⟩) 2 [5, 6] :=
  ⟨by simp, by unfold maxLen; omega, fun x hx => by simp at hx; rcases hx with rfl | rfl <;> decide, fun _ => ⟨_, rfl, h.lt, fun i hi => by
    have : i = 0 ∨ i = 1 := by simp at hi; omega
    rcases this with rfl | rfl
    · exact h.cell 0
    · exact h.cell 1⟩⟩
def LayP (w : World) (e : Ending) (w' : World) : Prop := ∃ U cap n E L, e = .returned (.tuple #[.slice U n cap, .int .i64 E]) ∧ Below w.heap.size w w' ∧ (E = 0 → RowAt w' U cap L ∧ L.length = n ∧ n ≤ 4200 ∧ ∀ a, U = some a → w.heap.size ≤ a.block)
theorem lay_w (A B : Option Addr) (ca cb : Nat) (C D : List Int) (c d : Nat) (hc : C.length = c) (hd : D.length = d) (h1 : c ≤ 400) (h2 : d ≤ 100) (w : World) (rA : RowAt w A ca C) (rB : RowAt w B cb D) :
    Calls Tryz.prog 28 #[.agg #[.slice A c ca, .slice B d cb]] w (LayP w) := by
  cases hq : rightB c d
  · refine (lay_no A B c d ca cb (by omega) (by omega) w hq).mono ?_
    rintro e w' ⟨rfl, b⟩
    exact ⟨_, _, _, _, [], rfl, b, fun h => by cases h⟩
  · refine (lay_yes A B ca cb C D c d hc hd (by omega) (by omega) w rA rB hq).mono ?_
    rintro e w' ⟨U, cap, rfl, own, b⟩
    exact ⟨U, cap, _, 0, layL C D, rfl, b, fun _ => ⟨own.row, by rw [layL_len]; omega, by omega, fun a ha => by subst ha; exact (own.own.lt a.block rfl).1⟩⟩
theorem data_skip (A B A2 A3 P Q R : Option Addr) (ca cb c2 c3 cp cq cr c d la lb np nq nr : Nat) (w : World) (hs : ¬ (c ≤ 400 ∧ d ≤ 400 ∧ la ≤ 100 ∧ lb ≤ 100 ∧ np ≤ 20 ∧ nq ≤ 20 ∧ nr ≤ 30)) :
    Calls Tryz.prog 9 #[.slice A c ca, .slice B d cb, .slice A2 la c2, .slice A3 lb c3, .slice P np cp, .slice Q nq cq, .slice R nr cr] w fun e w' => e = .returned (.bool true) ∧ Below w.heap.size w w' := by
  by_cases k0 : 400 < c
  · have t0 : decide ((400 : Int) < (c : Int)) = true := decide_eq_true (by omega)
    go_enter Tryz.func9, Tryz.ntmps9
    go_wp2_with fail
    refine (goes14 _).mono ?_; rintro e w1 ⟨rfl, b1⟩
    have B1 := Lib.hid b1; clear b1
    dsimp only
    go_wp2_with fail
    refine (goes14 _).mono ?_; rintro e w2 ⟨rfl, b2⟩
    have B2 := Lib.hid (bel_then B1.out b2); clear b2
    dsimp only
    go_wp2_with fail
    go_ret
    exact ⟨rfl, B2.out⟩
  · have t0 : decide ((400 : Int) < (c : Int)) = false := decide_eq_false (by omega)
    by_cases k1 : 400 < d
    · have t1 : decide ((400 : Int) < (d : Int)) = true := decide_eq_true (by omega)
      go_enter Tryz.func9, Tryz.ntmps9
      go_wp2_with fail
      refine (goes14 _).mono ?_; rintro e w1 ⟨rfl, b1⟩
      have B1 := Lib.hid b1; clear b1
      dsimp only
      go_wp2_with fail
      refine (goes14 _).mono ?_; rintro e w2 ⟨rfl, b2⟩
      have B2 := Lib.hid (bel_then B1.out b2); clear b2
      dsimp only
      go_wp2_with fail
      go_ret
      exact ⟨rfl, B2.out⟩
    · have t1 : decide ((400 : Int) < (d : Int)) = false := decide_eq_false (by omega)
      by_cases k2 : 100 < la
      · have t2 : decide ((100 : Int) < (la : Int)) = true := decide_eq_true (by omega)
        go_enter Tryz.func9, Tryz.ntmps9
        go_wp2_with fail
        refine (goes14 _).mono ?_; rintro e w1 ⟨rfl, b1⟩
        have B1 := Lib.hid b1; clear b1
        dsimp only
        go_wp2_with fail
        refine (goes14 _).mono ?_; rintro e w2 ⟨rfl, b2⟩
        have B2 := Lib.hid (bel_then B1.out b2); clear b2
        dsimp only
        go_wp2_with fail
        go_ret
        exact ⟨rfl, B2.out⟩
      · have t2 : decide ((100 : Int) < (la : Int)) = false := decide_eq_false (by omega)
        by_cases k3 : 100 < lb
        · have t3 : decide ((100 : Int) < (lb : Int)) = true := decide_eq_true (by omega)
          go_enter Tryz.func9, Tryz.ntmps9
          go_wp2_with fail
          refine (goes14 _).mono ?_; rintro e w1 ⟨rfl, b1⟩
          have B1 := Lib.hid b1; clear b1
          dsimp only
          go_wp2_with fail
          refine (goes14 _).mono ?_; rintro e w2 ⟨rfl, b2⟩
          have B2 := Lib.hid (bel_then B1.out b2); clear b2
          dsimp only
          go_wp2_with fail
          go_ret
          exact ⟨rfl, B2.out⟩
        · have t3 : decide ((100 : Int) < (lb : Int)) = false := decide_eq_false (by omega)
          by_cases k4 : 20 < np
          · have t4 : decide ((20 : Int) < (np : Int)) = true := decide_eq_true (by omega)
            go_enter Tryz.func9, Tryz.ntmps9
            go_wp2_with fail
            refine (goes14 _).mono ?_; rintro e w1 ⟨rfl, b1⟩
            have B1 := Lib.hid b1; clear b1
            dsimp only
            go_wp2_with fail
            refine (goes14 _).mono ?_; rintro e w2 ⟨rfl, b2⟩
            have B2 := Lib.hid (bel_then B1.out b2); clear b2
            dsimp only
            go_wp2_with fail
            go_ret
            exact ⟨rfl, B2.out⟩
          · have t4 : decide ((20 : Int) < (np : Int)) = false := decide_eq_false (by omega)
            by_cases k5 : 20 < nq
            · have t5 : decide ((20 : Int) < (nq : Int)) = true := decide_eq_true (by omega)
              go_enter Tryz.func9, Tryz.ntmps9
              go_wp2_with fail
              refine (goes14 _).mono ?_; rintro e w1 ⟨rfl, b1⟩
              have B1 := Lib.hid b1; clear b1
              dsimp only
              go_wp2_with fail
              refine (goes14 _).mono ?_; rintro e w2 ⟨rfl, b2⟩
              have B2 := Lib.hid (bel_then B1.out b2); clear b2
              dsimp only
              go_wp2_with fail
              go_ret
              exact ⟨rfl, B2.out⟩
            · have t5 : decide ((20 : Int) < (nq : Int)) = false := decide_eq_false (by omega)
              by_cases k6 : 30 < nr
              · have t6 : decide ((30 : Int) < (nr : Int)) = true := decide_eq_true (by omega)
                go_enter Tryz.func9, Tryz.ntmps9
                go_wp2_with fail
                refine (goes14 _).mono ?_; rintro e w1 ⟨rfl, b1⟩
                have B1 := Lib.hid b1; clear b1
                dsimp only
                go_wp2_with fail
                refine (goes14 _).mono ?_; rintro e w2 ⟨rfl, b2⟩
                have B2 := Lib.hid (bel_then B1.out b2); clear b2
                dsimp only
                go_wp2_with fail
                go_ret
                exact ⟨rfl, B2.out⟩
              · have t6 : decide ((30 : Int) < (nr : Int)) = false := decide_eq_false (by omega)
                exact absurd ⟨by omega, by omega, by omega, by omega, by omega, by omega, by omega⟩ hs
end Go.Proofs.YtjmbaiijmhkdpaaGreat.Mm
