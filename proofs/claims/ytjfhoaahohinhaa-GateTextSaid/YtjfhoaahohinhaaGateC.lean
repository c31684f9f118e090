/- What is asked of package gate's functions, and the document's example. -/
import Derived.Test.YtjfhoaahohinhaaGateMem
namespace Go.Proofs.Ytjfhoaahohinhaa.Mm
open Go.ChangeShapes Go.WideShapes Go.ChangeAt Go.RowKit
set_option linter.unusedVariables false

def sumV (c : Cp) (B : List Int) (T : List Bool) : Int :=
  if (ownsB c.b c.s (c.reg 0) (c.reg 1) && wholeB T (c.reg 0) (c.reg 1)) = true then fnvL 2166136261 ((B.drop (c.reg 0).toNat).take (c.reg 1).toNat) else 4294967295
def SumIs (w : World) (c : Cp) (pv : Option Addr) (sum : Int) : Prop := ∃ p g h B T, pv = some ⟨p, 0, none⟩ ∧ MemAt w p g h B T ∧ sum = sumV c B T
structure Wd.Ok (W : Wd) : Prop where
  rep : W.rep.length ≤ 100000
  tr : W.tr.length ≤ 100000
  tk : 0 ≤ W.tk ∧ W.tk ≤ 9223372036854775807
  cd : U32 W.cd
def OwnsC : Prop := ∀ (c : Cp) (at_ n : Int), c.Ok → U32 at_ → U32 n → ∀ w : World,
  Calls Try.prog 9 #[c.val, .int .u32 at_, .int .u32 n] w fun e w' => e = .returned (.bool (ownsB c.b c.s at_ n)) ∧ Below w.heap.size w w'
/-- a row that does not lie in block g -/
def Off (A : Option Addr) (g : Nat) : Prop := ∀ x, A = some x → x.block ≠ g
theorem off_none (g : Nat) : Off none g := fun x h => by cases h
theorem cell_chg {g h : Nat} {w w' : World} (c : Chg g h w w') {p : Addr} (hp : p.block < w.heap.size) (h1 : p.block ≠ g) (h2 : p.block ≠ h) : w'.cell? p = w.cell? p := by
  unfold World.cell?
  rw [c.block _ hp h1 h2]
theorem KRow.chg {k : IntKind} {g h : Nat} {w w' : World} {A : Option Addr} {cap : Nat} {l : List Int} (r : KRow k w A cap l) (c : Chg g h w w') (h1 : Off A g) (h2 : Off A h) : KRow k w' A cap l := by
  obtain ⟨r1, r2, r3, r4⟩ := r
  refine ⟨r1, r2, r3, fun hn => ?_⟩
  obtain ⟨p, hp, hb, hc⟩ := r4 hn
  exact ⟨p, hp, Nat.lt_of_lt_of_le hb c.size, fun i hi => (cell_chg c (by rw [block_add]; exact hb) (by rw [block_add]; exact h1 p hp) (by rw [block_add]; exact h2 p hp)).trans (hc i hi)⟩
theorem KRow.nil (k : IntKind) {w w' : World} {A : Option Addr} {cap : Nat} (r : KRow k w A cap []) : KRow k w' A cap [] := ⟨r.1, r.2.1, r.2.2.1, fun h => absurd rfl h⟩
theorem KRow.chg' {k : IntKind} {g h : Nat} {w w' : World} {A : Option Addr} {cap : Nat} {l : List Int} (r : KRow k w A cap l) (c : Chg g h w w') (h1 : l = [] ∨ (Off A g ∧ Off A h)) : KRow k w' A cap l := by
  rcases h1 with rfl | ⟨h1, h2⟩
  · exact KRow.nil k r
  · exact r.chg c h1 h2
theorem EvRow.chg {g h : Nat} {w w' : World} {A : Option Addr} {cap : Nat} {l : List Ev} (r : EvRow w A cap l) (c : Chg g h w w') (h1 : Off A g) (h2 : Off A h) : EvRow w' A cap l := by
  obtain ⟨r1, r2, r3, r4⟩ := r
  refine ⟨r1, r2, r3, fun hn => ?_⟩
  obtain ⟨p, hp, hb, hc⟩ := r4 hn
  have hpb : ∀ i, (p.add i).block = p.block := fun i => block_add p i
  exact ⟨p, hp, Nat.lt_of_lt_of_le hb c.size, fun i hi => ⟨(cell_chg c (by rw [hpb]; exact hb) (by rw [hpb]; exact h1 p hp) (by rw [hpb]; exact h2 p hp)).trans (hc i hi).c0,
    (cell_chg (p := ⟨(p.add (i * 2)).block, (p.add (i * 2)).off + 1, none⟩) c (by rw [hpb]; exact hb) (by rw [hpb]; exact h1 p hp) (by rw [hpb]; exact h2 p hp)).trans (hc i hi).c1⟩⟩
/-- rows handed out lie in no old block in which those handed in don't -/
def OffR (w : World) (RA TA RA' TA' : Option Addr) : Prop := (∀ g, g < w.heap.size → Off RA g → Off RA' g) ∧ (∀ g, g < w.heap.size → Off TA g → Off TA' g)
def DoGP (w : World) (RA0 TA0 : Option Addr) (r : Cp × Wd) (e : Ending) (w' : World) : Prop :=
  ∃ RA rc TA tc, e = .returned (.tuple #[r.1.val, r.2.val RA rc TA tc]) ∧ KRow .u32 w' RA rc r.2.rep ∧ EvRow w' TA tc r.2.tr ∧ Below w.heap.size w w' ∧ OffR w RA0 TA0 RA TA
def DoGC : Prop := ∀ (c : Cp) (pv : Option Addr) (W : Wd) (n sum : Int), c.Ok → W.Ok → (-9223372036854775808 ≤ n ∧ n ≤ 9223372036854775807) → ∀ (w : World) (RA : Option Addr) (rc : Nat) (TA : Option Addr) (tc : Nat),
  KRow .u32 w RA rc W.rep → EvRow w TA tc W.tr → (n = 3 → W.ov = false → SumIs w c pv sum) →
  Calls Try.prog 11 #[c.val, .pointer pv, W.val RA rc TA tc, .int .i64 n] w (DoGP w RA TA (gateS c sum W n))
def AwG : Prop := ∀ w : World, Calls Try.prog 7 #[] w fun e w' => e = .returned (.bool true) ∧ Below w.heap.size w w'

def zeroC : Cp := ⟨0, [0, 0, 0, 0, 0, 0, 0, 0], 0, 0⟩
theorem u32_0 : U32 0 := by unfold U32; omega
theorem zeroC_ok : zeroC.Ok := ⟨u32_0, rfl, fun x hx => by simp [zeroC] at hx; subst hx; exact u32_0, u32_0, u32_0⟩
def wd0 (l : List Int) : Wd := ⟨l, 0, [], false, 0⟩
theorem wd0_ok {l : List Int} (h : l.length ≤ 100000) : (wd0 l).Ok := ⟨h, by simp [wd0], by simp [wd0], by simp [wd0, U32]⟩
theorem boxG (w : World) (vs : Array Value) (a b c d e : Value) : ∃ W, (w.alloc (.cells vs 35)).alloc (.cells #[a, b, c, d, e] 40) = W ∧ HasB W w.heap.size 35 vs.toList ∧ HasB W (w.heap.size + 1) 40 [a, b, c, d, e] ∧ Below w.heap.size w W :=
  ⟨_, rfl, ((HasB.new w 35 vs.toList).below (bel_al (Below.refl _ _) _)), (by have := HasB.new (w.alloc (.cells vs 35)) 40 [a, b, c, d, e]; simpa using this), bel_al (bel_al (Below.refl _ _) _) _⟩
theorem set_same {w : World} {g : Nat} {t : TypeId} {cs : List Value} (h : HasB w g t cs) (i : Nat) (v : Value) (hv : cs[i]? = some v) : w.setCell ⟨g, i, none⟩ v = w := by
  have hh : w.heap[g]? = some (.cells cs.toArray t (0, 0)) := h
  have hl := h.lt
  unfold World.setCell
  have e : w.heap.modify g (fun | .cells c elem frozen => .cells (if (⟨g, i, none⟩ : Addr).spot.isSome then c else c.setIfInBounds i v) elem frozen | o => o) = w.heap := by
    apply Array.ext_getElem?
    intro k
    rw [Array.getElem?_modify]
    by_cases hk : g = k
    · subst hk
      rw [if_pos rfl, hh]
      simp
      apply List.ext_getElem?
      intro j
      rw [List.getElem?_set]
      by_cases hj : i = j
      · subst hj
        rw [if_pos rfl, hv]
        have := (List.getElem?_eq_some_iff.1 hv).1
        simp [this]
      · rw [if_neg hj]
    · rw [if_neg hk]
  exact congrArg (fun hp => ({ w with heap := hp } : World)) e

theorem has5 {w : World} {g : Nat} {t : TypeId} {a b c d e : Value} (k : HasB w g t [a, b, c, d, e]) :
    (w.cell? ⟨g, 0, none⟩ = some a ∧ w.cell? ⟨g, 1, none⟩ = some b ∧ w.cell? ⟨g, 2, none⟩ = some c ∧ w.cell? ⟨g, 3, none⟩ = some d ∧ w.cell? ⟨g, 4, none⟩ = some e) ∧
    (w.frozen? ⟨g, 0, none⟩ = false ∧ w.frozen? ⟨g, 1, none⟩ = false ∧ w.frozen? ⟨g, 2, none⟩ = false ∧ w.frozen? ⟨g, 3, none⟩ = false ∧ w.frozen? ⟨g, 4, none⟩ = false) :=
  ⟨⟨k.cell 0, k.cell 1, k.cell 2, k.cell 3, k.cell 4⟩, ⟨k.frozen 0, k.frozen 1, k.frozen 2, k.frozen 3, k.frozen 4⟩⟩
set_option maxHeartbeats 2000000 in
theorem awake_gate (DC : DoGC) : AwG := by
  intro w
  have C1 : Hid (∀ w', Calls Try.prog 11 #[.agg #[.int .u32 0, .int .u32 7, .int .u32 0, .int .u32 0, .int .u32 0, .int .u32 0, .int .u32 0, .int .u32 0, .int .u32 0, .int .u32 0, .int .u32 0], .pointer none, .agg #[.slice none 0 0, .int .i64 0, .slice none 0 0, .bool false, .int .u32 0], .int .i64 1] w' fun e w'' =>
      ∃ RA rc TA tc, e = .returned (.tuple #[.agg #[.int .u32 0, .int .u32 7, .int .u32 0, .int .u32 0, .int .u32 0, .int .u32 0, .int .u32 0, .int .u32 0, .int .u32 0, .int .u32 0, .int .u32 0], .agg #[.slice RA 0 rc, .int .i64 0, .slice TA 1 tc, .bool false, .int .u32 0]]) ∧ KRow .u32 w'' RA rc [] ∧ EvRow w'' TA tc [(1, 7)] ∧ Below w'.heap.size w' w'' ∧ OffR w' none none RA TA) :=
    Lib.hid (fun w' => DC (zeroC.setR 0 7) none (wd0 []) 1 0 (zeroC_ok.setR 0 (by unfold U32; omega)) (wd0_ok (by simp)) (by omega) w' none 0 none 0 (kRow_nil _ w') (evRow_nil w') (fun h => by omega))
  go_enter Try.func7, Try.ntmps7
  go_wp2_with fail
  refine (C1.out _).mono ?_; rintro e w1 ⟨RA, rc, TA, tc, rfl, h1, h2, h3, _⟩
  obtain ⟨W2, e2, x2, y2, b2⟩ := boxG w1 #[.int .u32 0, .int .u32 7, .int .u32 0, .int .u32 0, .int .u32 0, .int .u32 0, .int .u32 0, .int .u32 0, .int .u32 0, .int .u32 0, .int .u32 0] (.slice RA 0 rc) (.int .i64 0) (.slice TA 1 tc) (.bool false) (.int .u32 0)
  obtain ⟨x, rfl, hxb, hc⟩ := (h2.below b2).2.2.2 (by simp)
  have c0 := (hc 0 (by simp)).c0
  have c1 := (hc 0 (by simp)).c1
  have e0 : x.add 0 = x := by simp [Addr.add]
  simp only [Nat.zero_mul, e0] at c0 c1
  simp at c0 c1
  have c0' : W2.cell? (x.add 0) = some (.int .i64 1) := by rw [e0]; exact c0
  obtain ⟨⟨y0, y1, y2', y3, y4⟩, ⟨f0, f1, f2, f3, f4⟩⟩ := has5 y2
  have s3 := set_same y2 3 _ rfl
  have s4 := set_same y2 4 _ rfl
  have B2 := Lib.hid (h3.trans (b2.mono h3.size))
  clear h1 h2 h3 hc b2 x2 y2 C1
  go_wp2_with fail
  go_ret
  exact ⟨rfl, B2.out⟩
end Go.Proofs.Ytjfhoaahohinhaa.Mm
