/- Code, bundle by bundle: the plain sums of layer 7. -/
import Derived.Test.YtojpcijfipdiaaaIsaMath
namespace Go.Proofs.Ytojpcijfipdiaaa.Mm
set_option linter.unusedVariables false

/-- an instruction -/
structure InsV where
  op : Int
  a : Int
  b : Int
  imm : Int
deriving DecidableEq
def InsV.right (x : InsV) : Bool := Go.Proofs.Ytojpcijfipdiaaa.rightB x.op x.a x.b x.imm
def InsV.lay (x : InsV) : List Int := Go.Proofs.Ytojpcijfipdiaaa.layL x.op x.a x.b x.imm
def nopI : InsV := ⟨23, 0, 0, 0⟩
/-- an instruction whose number is one of 32 bits, and that is right -/
def InsV.Ok (x : InsV) : Prop := x.right = true ∧ 0 ≤ x.imm ∧ x.imm < 4294967296
/-- what begins in bytes, and how many it has (0: nothing) -/
def rdX : List Int → InsV
  | [] => ⟨0, 0, 0, 0⟩
  | op :: t => if rdB (op :: t) then ⟨op, xA (fU op) t, xB (fU op) t, xI (fU op) (fN op) t⟩ else ⟨0, 0, 0, 0⟩
def rdN : List Int → Nat
  | [] => 0
  | op :: t => if rdB (op :: t) then (szO op).toNat else 0

theorem rd_x {l : List Int} {op a b imm n : Int} (h : Rd l op a b imm n) : rdX l = ⟨op, a, b, imm⟩ ∧ (rdN l : Int) = n := by
  obtain ⟨h1, t, rfl, rfl, rfl, rfl, rfl⟩ := h
  have e1 : rdX (op :: t) = ⟨op, xA (fU op) t, xB (fU op) t, xI (fU op) (fN op) t⟩ := if_pos h1
  have e2 : rdN (op :: t) = (szO op).toNat := if_pos h1
  exact ⟨e1, by rw [e2]; exact Int.toNat_of_nonneg (szO_bd op).1⟩
theorem rdN_no {l : List Int} (h : rdB l = false) : rdN l = 0 ∧ rdX l = ⟨0, 0, 0, 0⟩ := by
  cases l with
  | nil => exact ⟨rfl, rfl⟩
  | cons op t =>
    have h' : ¬ rdB (op :: t) = true := by rw [h]; decide
    exact ⟨if_neg h', if_neg h'⟩
theorem rd_xn {l : List Int} (h : rdB l = true) : Rd l (rdX l).op (rdX l).a (rdX l).b (rdX l).imm (rdN l) := by
  rcases rd_or l with h' | ⟨op, a, b, imm, n, h'⟩
  · rw [h] at h'; cases h'
  · obtain ⟨e1, e2⟩ := rd_x h'
    rw [e1, e2]; exact h'
/-- what is read -/
theorem rd_facts {l : List Int} (hl : Go.Proofs.Ytojpcijfipdiaaa.Bytes l) (h : rdB l = true) : (rdX l).Ok ∧ 1 ≤ rdN l ∧ rdN l ≤ 6 ∧ rdN l ≤ l.length ∧ l.take (rdN l) = (rdX l).lay := by
  obtain ⟨h1, h2, h3, h4, h5, h6, h7⟩ := lay_of_rd _ _ _ _ _ _ hl (rd_xn h)
  have := szO_bd (rdX l).op
  refine ⟨⟨h1, h2, h3⟩, by omega, by omega, by omega, ?_⟩
  rw [Int.toNat_natCast] at h7
  exact h7
theorem rdN_pos {l : List Int} (hl : Go.Proofs.Ytojpcijfipdiaaa.Bytes l) : 1 ≤ rdN l ↔ rdB l = true := by
  refine ⟨fun h => ?_, fun h => (rd_facts hl h).2.1⟩
  cases h' : rdB l
  · rw [(rdN_no h').1] at h; omega
  · rfl
/-- an instruction's bytes -/
theorem lay_len {x : InsV} (h : x.Ok) : 1 ≤ x.lay.length ∧ x.lay.length ≤ 6 := by
  have h1 := layL_len (op := x.op) (a := x.a) (b := x.b) (imm := x.imm) h.1
  have h2 := szO_pos ((rightB_iff _ _ _ _).1 h.1).1
  have h3 := szO_bd x.op
  unfold InsV.lay
  omega
theorem lay_byte (x : InsV) : Go.Proofs.Ytojpcijfipdiaaa.Bytes x.lay := layL_byte _ _ _ _
theorem rd_lay {x : InsV} (h : x.Ok) (post : List Int) : rdB (x.lay ++ post) = true ∧ rdX (x.lay ++ post) = x ∧ rdN (x.lay ++ post) = x.lay.length := by
  have r := rd_of_lay x.op x.a x.b x.imm h.1 h.2.1 post
  have h1 := layL_len (op := x.op) (a := x.a) (b := x.b) (imm := x.imm) h.1
  obtain ⟨e1, e2⟩ := rd_x r
  refine ⟨r.1, e1, ?_⟩
  unfold InsV.lay
  omega
/-- of a part of bytes, what is read is read of the whole, where it reaches no further -/
theorem rd_take {l : List Int} (hl : Go.Proofs.Ytojpcijfipdiaaa.Bytes l) (m : Nat) : (rdB (l.take m) = true ↔ rdB l = true ∧ rdN l ≤ m) ∧ (rdB (l.take m) = true → rdX (l.take m) = rdX l ∧ rdN (l.take m) = rdN l) := by
  have hb : Go.Proofs.Ytojpcijfipdiaaa.Bytes (l.take m) := fun x hx => hl x (List.mem_of_mem_take hx)
  have key : rdB (l.take m) = true → rdB l = true ∧ rdX (l.take m) = rdX l ∧ rdN (l.take m) = rdN l := fun h => by
    have r := rd_more hb (rd_xn h) (l.drop m)
    rw [List.take_append_drop] at r
    obtain ⟨e1, e2⟩ := rd_x r
    exact ⟨r.1, e1.symm, by omega⟩
  refine ⟨⟨fun h => ?_, fun ⟨h, hm⟩ => ?_⟩, fun h => (key h).2⟩
  · obtain ⟨k1, k2, k3⟩ := key h
    have := (rd_facts hb h).2.2.2.1
    rw [List.length_take] at this
    exact ⟨k1, by omega⟩
  · obtain ⟨k1, k2, k3, k4, k5⟩ := rd_facts hl h
    have e : l.take m = (rdX l).lay ++ (l.drop (rdN l)).take (m - rdN l) := by
      rw [← k5, ← List.take_add, show rdN l + (m - rdN l) = m by omega]
    rw [e]
    exact (rd_lay k1 _).1
/-- more behind changes nothing of what is read -/
theorem rd_behind {l : List Int} (hl : Go.Proofs.Ytojpcijfipdiaaa.Bytes l) (h : rdB l = true) (p : List Int) : rdB (l ++ p) = true ∧ rdX (l ++ p) = rdX l ∧ rdN (l ++ p) = rdN l := by
  have r := rd_more hl (rd_xn h) p
  obtain ⟨e1, e2⟩ := rd_x r
  exact ⟨r.1, e1, by omega⟩

/-- an instruction begins at i, and doesn't reach into the next bundle -/
def okAt (code : List Int) (i : Nat) : Bool := rdB (code.drop i) && decide (i % 32 + rdN (code.drop i) ≤ 32)
def scanF (code : List Int) : Nat → Nat → Option (List (Nat × InsV))
  | 0, _ => some []
  | f + 1, i => if i < code.length then (if okAt code i then (scanF code f (i + rdN (code.drop i))).map ((i, rdX (code.drop i)) :: ·) else none) else some []
/-- from i on -/
def scanAt (code : List Int) (i : Nat) : Option (List (Nat × InsV)) := scanF code (code.length - i) i
theorem ok_iff (code : List Int) (i : Nat) : okAt code i = true ↔ rdB (code.drop i) = true ∧ i % 32 + rdN (code.drop i) ≤ 32 := by
  unfold okAt; rw [Bool.and_eq_true, decide_eq_true_iff]
theorem dropB {l : List Int} (h : Go.Proofs.Ytojpcijfipdiaaa.Bytes l) (k : Nat) : Go.Proofs.Ytojpcijfipdiaaa.Bytes (l.drop k) := fun x hx => h x (List.mem_of_mem_drop hx)
theorem scanF_enough (code : List Int) (hb : Go.Proofs.Ytojpcijfipdiaaa.Bytes code) : ∀ (f g i : Nat), code.length - i ≤ f → code.length - i ≤ g → scanF code f i = scanF code g i := by
  intro f
  induction f with
  | zero =>
    intro g i hf hg
    cases g with
    | zero => rfl
    | succ g => unfold scanF; rw [if_neg (by omega)]
  | succ f ih =>
    intro g i hf hg
    cases g with
    | zero => unfold scanF; rw [if_neg (by omega)]
    | succ g =>
      unfold scanF
      by_cases h : i < code.length
      · rw [if_pos h, if_pos h]
        cases ho : okAt code i
        · rfl
        · have hn := (rd_facts (dropB hb i) ((ok_iff _ _).1 ho).1).2.1
          rw [ih g (i + rdN (code.drop i)) (by omega) (by omega)]
      · rw [if_neg h, if_neg h]
theorem scan_end {code : List Int} {i : Nat} (h : code.length ≤ i) : scanAt code i = some [] := by
  unfold scanAt
  rw [show code.length - i = 0 by omega]
  rfl
theorem scan_no {code : List Int} {i : Nat} (h : i < code.length) (ho : okAt code i = false) : scanAt code i = none := by
  unfold scanAt
  obtain ⟨k, hk⟩ : ∃ k, code.length - i = k + 1 := ⟨code.length - i - 1, by omega⟩
  rw [hk]
  unfold scanF
  rw [if_pos h, ho]
  rfl
theorem scan_yes {code : List Int} (hb : Go.Proofs.Ytojpcijfipdiaaa.Bytes code) {i : Nat} (h : i < code.length) (ho : okAt code i = true) : scanAt code i = (scanAt code (i + rdN (code.drop i))).map ((i, rdX (code.drop i)) :: ·) := by
  have hn := (rd_facts (dropB hb i) ((ok_iff _ _).1 ho).1).2.1
  unfold scanAt
  obtain ⟨k, hk⟩ : ∃ k, code.length - i = k + 1 := ⟨code.length - i - 1, by omega⟩
  rw [hk]
  conv => lhs; unfold scanF
  rw [if_pos h, ho]
  simp only [if_true]
  rw [scanF_enough code hb k (code.length - (i + rdN (code.drop i))) _ (by omega) (Nat.le_refl _)]
/-- the length is one of code -/
def sizeB (n : Nat) : Bool := decide (32 ≤ n ∧ n ≤ 4096 ∧ n % 32 = 0)
/-- what scanning answers: the error (0: none) -/
def scanE (code : List Int) : Int := if sizeB code.length = false then 4 else if (scanAt code 0).isNone then 2 else 0
/-- where instructions begin; they -/
def scanL (code : List Int) : List (Nat × InsV) := if scanE code = 0 then (scanAt code 0).getD [] else []
theorem sizeB_iff (n : Nat) : sizeB n = true ↔ 32 ≤ n ∧ n ≤ 4096 ∧ n % 32 = 0 := by unfold sizeB; exact decide_eq_true_iff
theorem scanE_4 {code : List Int} (h : sizeB code.length = false) : scanE code = 4 ∧ scanL code = [] := by
  have e : scanE code = 4 := by unfold scanE; rw [if_pos h]
  exact ⟨e, by unfold scanL; rw [e]; rfl⟩
theorem scanE_2 {code : List Int} (h : sizeB code.length = true) (hn : scanAt code 0 = none) : scanE code = 2 ∧ scanL code = [] := by
  have e : scanE code = 2 := by unfold scanE; rw [if_neg (by rw [h]; decide), hn]; rfl
  exact ⟨e, by unfold scanL; rw [e]; rfl⟩
theorem scanE_0 {code : List Int} {L : List (Nat × InsV)} (h : sizeB code.length = true) (hn : scanAt code 0 = some L) : scanE code = 0 ∧ scanL code = L := by
  have e : scanE code = 0 := by unfold scanE; rw [if_neg (by rw [h]; decide), hn]; rfl
  exact ⟨e, by unfold scanL; rw [e, hn]; rfl⟩
theorem scan_cases (code : List Int) : (sizeB code.length = false ∧ scanE code = 4 ∧ scanL code = []) ∨ (sizeB code.length = true ∧ scanAt code 0 = none ∧ scanE code = 2 ∧ scanL code = []) ∨
    (sizeB code.length = true ∧ ∃ L, scanAt code 0 = some L ∧ scanE code = 0 ∧ scanL code = L) := by
  cases h : sizeB code.length
  · exact .inl ⟨rfl, scanE_4 h⟩
  · cases hn : scanAt code 0 with
    | none => exact .inr (.inl ⟨rfl, rfl, scanE_2 h hn⟩)
    | some L => exact .inr (.inr ⟨rfl, L, rfl, scanE_0 h hn⟩)

/-- instructions one behind the other from i on, up to the code's end, none across a bundle's end -/
def Covers (code : List Int) : Nat → List (Nat × InsV) → Prop
  | i, [] => code.length ≤ i
  | i, (j, x) :: t => j = i ∧ i < code.length ∧ x.Ok ∧ i % 32 + x.lay.length ≤ 32 ∧ (code.drop i).take x.lay.length = x.lay ∧ Covers code (i + x.lay.length) t
theorem rd_len {l : List Int} (hl : Go.Proofs.Ytojpcijfipdiaaa.Bytes l) (h : rdB l = true) : rdN l = (rdX l).lay.length := by
  obtain ⟨_, _, _, h4, h5⟩ := rd_facts hl h
  rw [← h5, List.length_take]; omega
/-- what is scanned covers the code -/
theorem scan_covers {code : List Int} (hb : Go.Proofs.Ytojpcijfipdiaaa.Bytes code) : ∀ (f i : Nat) (L : List (Nat × InsV)), code.length - i ≤ f → scanAt code i = some L → Covers code i L := by
  intro f
  induction f with
  | zero =>
    intro i L hf h
    rw [scan_end (by omega)] at h
    injection h with h
    subst h
    show code.length ≤ i
    omega
  | succ f ih =>
    intro i L hf h
    by_cases hi : i < code.length
    · cases ho : okAt code i
      · rw [scan_no hi ho] at h; cases h
      · rw [scan_yes hb hi ho] at h
        obtain ⟨M, hM, hL⟩ := Option.map_eq_some_iff.1 h
        subst hL
        obtain ⟨h1, h2⟩ := (ok_iff _ _).1 ho
        have hl := rd_len (dropB hb i) h1
        obtain ⟨k1, k2, k3, k4, k5⟩ := rd_facts (dropB hb i) h1
        rw [hl] at h2 hM k5
        exact ⟨rfl, hi, k1, h2, k5, ih _ _ (by omega) hM⟩
    · rw [scan_end (by omega)] at h
      injection h with h
      subst h
      show code.length ≤ i
      omega
/-- what covers code is what is scanned -/
theorem covers_scan {code : List Int} (hb : Go.Proofs.Ytojpcijfipdiaaa.Bytes code) : ∀ (L : List (Nat × InsV)) (i : Nat), Covers code i L → scanAt code i = some L := by
  intro L
  induction L with
  | nil => intro i h; exact scan_end h
  | cons p t ih =>
    intro i h
    obtain ⟨j, x⟩ := p
    obtain ⟨rfl, hi, hx, hf, hl, hc⟩ := h
    have e : code.drop j = x.lay ++ (code.drop j).drop x.lay.length := by
      conv => lhs; rw [← List.take_append_drop x.lay.length (code.drop j)]
      rw [hl]
    obtain ⟨r1, r2, r3⟩ := rd_lay hx ((code.drop j).drop x.lay.length)
    rw [← e] at r1 r2 r3
    rw [scan_yes hb hi ((ok_iff _ _).2 ⟨r1, by rw [r3]; exact hf⟩), r2, r3, ih _ hc]
    rfl
/-- the instructions' bytes, one behind the other -/
def flatI (l : List InsV) : List Int := l.flatMap InsV.lay
/-- where each begins, from i on -/
def withPos : Nat → List InsV → List (Nat × InsV)
  | _, [] => []
  | i, x :: t => (i, x) :: withPos (i + x.lay.length) t
/-- from i on none is across a bundle's end -/
def Fits : Nat → List InsV → Prop
  | _, [] => True
  | i, x :: t => x.Ok ∧ i % 32 + x.lay.length ≤ 32 ∧ Fits (i + x.lay.length) t
theorem flatI_cons (x : InsV) (t : List InsV) : flatI (x :: t) = x.lay ++ flatI t := by simp [flatI]
theorem flatI_app (a b : List InsV) : flatI (a ++ b) = flatI a ++ flatI b := by simp [flatI]
theorem flatI_byte (l : List InsV) : Go.Proofs.Ytojpcijfipdiaaa.Bytes (flatI l) := fun x hx => by
  obtain ⟨y, _, h⟩ := List.mem_flatMap.1 hx
  exact lay_byte y x h
theorem withPos_ins (l : List InsV) : ∀ i, (withPos i l).map Prod.snd = l := by
  induction l with
  | nil => intro i; rfl
  | cons x t ih => intro i; show x :: (withPos _ t).map Prod.snd = _; rw [ih]
theorem withPos_len (l : List InsV) (i : Nat) : (withPos i l).length = l.length := by
  have := congrArg List.length (withPos_ins l i)
  rwa [List.length_map] at this
theorem withPos_app (a b : List InsV) : ∀ i, withPos i (a ++ b) = withPos i a ++ withPos (i + (flatI a).length) b := by
  induction a with
  | nil => intro i; simp [withPos, flatI]
  | cons x t ih =>
    intro i
    show (i, x) :: withPos _ (t ++ b) = (i, x) :: (withPos _ t ++ _)
    rw [ih, flatI_cons, List.length_append, Nat.add_assoc]
theorem fits_app (a b : List InsV) : ∀ i, Fits i (a ++ b) ↔ Fits i a ∧ Fits (i + (flatI a).length) b := by
  induction a with
  | nil => intro i; simp [Fits, flatI]
  | cons x t ih =>
    intro i
    show (_ ∧ _ ∧ Fits _ (t ++ b)) ↔ (_ ∧ _ ∧ Fits _ t) ∧ _
    rw [ih, flatI_cons, List.length_append, Nat.add_assoc]
    constructor
    · rintro ⟨h1, h2, h3, h4⟩; exact ⟨⟨h1, h2, h3⟩, h4⟩
    · rintro ⟨⟨h1, h2, h3⟩, h4⟩; exact ⟨h1, h2, h3, h4⟩
/-- instructions that fit are scanned as they stand -/
theorem fits_covers (pre : List Int) : ∀ (l : List InsV) (i : Nat) (code : List Int), code.length = i + (flatI l).length → code.drop i = flatI l → Fits i l → Covers code i (withPos i l) := by
  intro l
  induction l with
  | nil => intro i code hl _ _; show code.length ≤ i; rw [hl]; simp [flatI]
  | cons x t ih =>
    intro i code hl hd hf
    obtain ⟨h1, h2, h3⟩ := hf
    have hx := lay_len h1
    rw [flatI_cons] at hl hd
    rw [List.length_append] at hl
    refine ⟨rfl, by omega, h1, h2, by rw [hd, List.take_left], ih _ _ (by omega) ?_ h3⟩
    rw [← List.drop_drop, hd, List.drop_left]
theorem scan_flat (l : List InsV) (h : Fits 0 l) : scanAt (flatI l) 0 = some (withPos 0 l) :=
  covers_scan (flatI_byte l) _ _ (fits_covers [] l 0 (flatI l) (by omega) rfl h)
/-- what covers code is laid as the code -/
theorem covers_flat {code : List Int} : ∀ (L : List (Nat × InsV)) (i : Nat), Covers code i L → i ≤ code.length → (∀ p ∈ L, p.1 + p.2.lay.length ≤ code.length) → code.drop i = flatI (L.map Prod.snd) ∧ Fits i (L.map Prod.snd) ∧ L = withPos i (L.map Prod.snd) := by
  intro L
  induction L with
  | nil =>
    intro i h hi _
    exact ⟨by rw [List.drop_eq_nil_of_le h]; rfl, trivial, rfl⟩
  | cons p t ih =>
    intro i h hi hm
    obtain ⟨j, x⟩ := p
    obtain ⟨rfl, h1, h2, h3, h4, h5⟩ := h
    have hle := hm (j, x) (by simp)
    obtain ⟨k1, k2, k3⟩ := ih _ h5 hle (fun p hp => hm p (by simp [hp]))
    refine ⟨?_, ⟨h2, h3, k2⟩, ?_⟩
    · show code.drop j = flatI (x :: t.map Prod.snd)
      rw [flatI_cons, ← k1, ← List.drop_drop]
      conv => lhs; rw [← List.take_append_drop x.lay.length (code.drop j)]
      rw [h4]
    · show (j, x) :: t = (j, x) :: withPos (j + x.lay.length) (t.map Prod.snd)
      rw [← k3]
theorem covers_in {code : List Int} : ∀ (L : List (Nat × InsV)) (i : Nat), Covers code i L → ∀ p ∈ L, p.1 + p.2.lay.length ≤ code.length := by
  intro L
  induction L with
  | nil => intro i _ p hp; cases hp
  | cons q t ih =>
    intro i h p hp
    obtain ⟨j, x⟩ := q
    obtain ⟨rfl, h1, h2, h3, h4, h5⟩ := h
    rcases List.mem_cons.1 hp with rfl | hp
    · have := congrArg List.length h4
      rw [List.length_take, List.length_drop] at this
      show j + x.lay.length ≤ _
      omega
    · exact ih _ h5 p hp
/-- what is scanned is laid as the code -/
theorem scan_some {code : List Int} (hb : Go.Proofs.Ytojpcijfipdiaaa.Bytes code) {L : List (Nat × InsV)} (h : scanAt code 0 = some L) : code = flatI (L.map Prod.snd) ∧ Fits 0 (L.map Prod.snd) ∧ L = withPos 0 (L.map Prod.snd) := by
  have hc := scan_covers hb _ 0 L (Nat.le_refl _) h
  have := covers_flat L 0 hc (Nat.zero_le _) (covers_in L 0 hc)
  rwa [List.drop_zero] at this
end Go.Proofs.Ytojpcijfipdiaaa.Mm
