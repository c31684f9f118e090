/- Code, bundle by bundle: each scanned alone. -/
import Derived.Test.YtojpcijfipdiaaaScanPad
namespace Go.Proofs.Ytojpcijfipdiaaa.Mm
set_option linter.unusedVariables false

/-- bundle k -/
def bunL (code : List Int) (k : Nat) : List Int := (code.drop (32 * k)).take 32
def shiftP (b : Nat) (L : List (Nat × InsV)) : List (Nat × InsV) := L.map fun p => (b + p.1, p.2)
theorem bunL_len {code : List Int} {k : Nat} (h : 32 * k + 32 ≤ code.length) : (bunL code k).length = 32 := by
  unfold bunL; rw [List.length_take, List.length_drop]; omega
theorem bunL_byte {code : List Int} (hb : Go.Proofs.Ytojpcijfipdiaaa.Bytes code) (k : Nat) : Go.Proofs.Ytojpcijfipdiaaa.Bytes (bunL code k) := fun x hx => hb x (List.mem_of_mem_drop (List.mem_of_mem_take hx))
theorem withPos_shift (b : Nat) (l : List InsV) : ∀ i, withPos (b + i) l = shiftP b (withPos i l) := by
  induction l with
  | nil => intro i; rfl
  | cons x t ih =>
    intro i
    show (b + i, x) :: withPos (b + i + x.lay.length) t = (b + i, x) :: shiftP b (withPos (i + x.lay.length) t)
    rw [← ih, Nat.add_assoc]
theorem bunL_take {code : List Int} {m k : Nat} (hk : k < m) : bunL (code.take (32 * m)) k = bunL code k := by
  unfold bunL
  rw [List.drop_take, List.take_take]
  congr 1
  omega
theorem bunL_last {code : List Int} {m : Nat} (hl : code.length = 32 * (m + 1)) : code.drop (32 * m) = bunL code m := by
  unfold bunL
  rw [List.take_of_length_le]
  rw [List.length_drop]; omega
/-- each bundle is scanned: all of it is -/
theorem bun_yes (f : Nat → List (Nat × InsV)) : ∀ (m : Nat) (code : List Int), Go.Proofs.Ytojpcijfipdiaaa.Bytes code → code.length = 32 * m → (∀ k, k < m → scanAt (bunL code k) 0 = some (f k)) →
    scanAt code 0 = some ((List.range m).flatMap fun k => shiftP (32 * k) (f k)) := by
  intro m
  induction m with
  | zero => intro code _ hl _; rw [scan_end (by omega)]; rfl
  | succ m ih =>
    intro code hb hl h
    have hta : (code.take (32 * m)).length = 32 * m := by rw [List.length_take]; omega
    have ba : Go.Proofs.Ytojpcijfipdiaaa.Bytes (code.take (32 * m)) := fun x hx => hb x (List.mem_of_mem_take hx)
    have h1 := ih (code.take (32 * m)) ba hta (fun k hk => by rw [bunL_take hk]; exact h k (by omega))
    have h2 := h m (by omega)
    rw [← bunL_last hl] at h2
    have bb := dropB hb (32 * m)
    obtain ⟨K, hK, hs⟩ := parts_yes ba bb (by omega) h1 h2
    rw [List.take_append_drop] at hK
    rw [hK]
    obtain ⟨e1, _, g1⟩ := scan_some ba h1
    obtain ⟨_, _, g2⟩ := scan_some bb h2
    obtain ⟨_, _, g3⟩ := scan_some hb hK
    rw [g3, hs, withPos_app, ← e1, hta, ← g1, Nat.zero_add, show 32 * m = 32 * m + 0 from rfl, withPos_shift, ← g2, List.range_succ, List.flatMap_append]
    simp
theorem bun_no : ∀ (m : Nat) (code : List Int), Go.Proofs.Ytojpcijfipdiaaa.Bytes code → code.length = 32 * m → (∃ k, k < m ∧ scanAt (bunL code k) 0 = none) → scanAt code 0 = none := by
  intro m
  induction m with
  | zero => rintro code _ _ ⟨k, hk, _⟩; omega
  | succ m ih =>
    rintro code hb hl ⟨k, hk, h⟩
    have hta : (code.take (32 * m)).length = 32 * m := by rw [List.length_take]; omega
    have ba : Go.Proofs.Ytojpcijfipdiaaa.Bytes (code.take (32 * m)) := fun x hx => hb x (List.mem_of_mem_take hx)
    rw [← List.take_append_drop (32 * m) code]
    refine parts_no ba (dropB hb _) (by omega) ?_
    by_cases hkm : k < m
    · exact .inl (ih _ ba hta ⟨k, hkm, by rw [bunL_take hkm]; exact h⟩)
    · obtain rfl : k = m := by omega
      exact .inr (by rw [bunL_last hl]; exact h)
theorem ok_bun {bun : List Int} (hb : Go.Proofs.Ytojpcijfipdiaaa.Bytes bun) (hl : bun.length = 32) {k : Nat} (hk : k < 32) : okAt bun k = rdB (bun.drop k) := by
  cases h : rdB (bun.drop k)
  · cases ho : okAt bun k
    · rfl
    · rw [((ok_iff _ _).1 ho).1] at h; cases h
  · refine (ok_iff _ _).2 ⟨h, ?_⟩
    have := (rd_facts (dropB hb k) h).2.2.2.1
    rw [List.length_drop] at this
    omega
/-- what has come of a bundle -/
def Come (bun : List Int) (k : Nat) (B : List (Nat × InsV)) : Prop := k ≤ 32 ∧ B.length ≤ k ∧ (∀ p ∈ B, p.2.Ok) ∧ scanAt bun 0 = (scanAt bun k).map (B ++ ·)
theorem come_0 (bun : List Int) : Come bun 0 [] := ⟨by omega, by simp, fun p h => (by cases h), by simp⟩
theorem come_yes {bun : List Int} (hb : Go.Proofs.Ytojpcijfipdiaaa.Bytes bun) (hl : bun.length = 32) {k : Nat} {B : List (Nat × InsV)} (h : Come bun k B) (hk : k < 32) (hr : rdB (bun.drop k) = true) :
    (rdX (bun.drop k)).Ok ∧ 1 ≤ rdN (bun.drop k) ∧ Come bun (k + rdN (bun.drop k)) (B ++ [(k, rdX (bun.drop k))]) := by
  obtain ⟨h1, h2, h3, h4⟩ := h
  obtain ⟨f1, f2, f3, f4, _⟩ := rd_facts (dropB hb k) hr
  rw [List.length_drop] at f4
  refine ⟨f1, f2, by omega, by rw [List.length_append, List.length_singleton]; omega, fun p hp => ?_, ?_⟩
  · rcases List.mem_append.1 hp with hp | hp
    · exact h3 p hp
    · simp at hp; subst hp; exact f1
  · rw [h4, scan_yes hb (by omega) (by rw [ok_bun hb hl hk]; exact hr), Option.map_map]
    congr 1
    funext x
    simp
theorem come_no {bun : List Int} (hb : Go.Proofs.Ytojpcijfipdiaaa.Bytes bun) (hl : bun.length = 32) {k : Nat} {B : List (Nat × InsV)} (h : Come bun k B) (hk : k < 32) (hr : rdB (bun.drop k) = false) : scanAt bun 0 = none := by
  rw [h.2.2.2, scan_no (by omega) (by rw [ok_bun hb hl hk]; exact hr)]
  rfl
theorem come_end {bun : List Int} (hl : bun.length = 32) {B : List (Nat × InsV)} (h : Come bun 32 B) : scanAt bun 0 = some B := by
  rw [h.2.2.2, scan_end (by omega)]
  simp
/-- what has come of the bundles -/
def bunF (code : List Int) (k : Nat) : List (Nat × InsV) := (scanAt (bunL code k) 0).getD []
def accB (code : List Int) (ks : List Nat) : List (Nat × InsV) := ks.flatMap fun k => shiftP (32 * k) (bunF code k)
theorem accB_snoc (code : List Int) (ks : List Nat) (k : Nat) {B : List (Nat × InsV)} (h : scanAt (bunL code k) 0 = some B) : accB code (ks ++ [k]) = accB code ks ++ shiftP (32 * k) B := by
  unfold accB; simp [bunF, h]
theorem acc_all {code : List Int} (hb : Go.Proofs.Ytojpcijfipdiaaa.Bytes code) {m : Nat} (hl : code.length = 32 * m) (h : ∀ k, k < m → (scanAt (bunL code k) 0).isSome = true) : scanAt code 0 = some (accB code (List.range m)) := by
  have := bun_yes (bunF code) m code hb hl (fun k hk => by
    have := h k hk
    obtain ⟨L, hL⟩ := Option.isSome_iff_exists.1 this
    unfold bunF
    rw [hL]
    rfl)
  exact this
def posI (L : List (Nat × InsV)) : List Int := L.map fun p => (p.1 : Int)
def insI (L : List (Nat × InsV)) : List InsV := L.map Prod.snd
theorem posI_len (L : List (Nat × InsV)) : (posI L).length = L.length := List.length_map ..
theorem insI_len (L : List (Nat × InsV)) : (insI L).length = L.length := List.length_map ..
theorem posI_app (L M : List (Nat × InsV)) : posI (L ++ M) = posI L ++ posI M := List.map_append ..
theorem insI_app (L M : List (Nat × InsV)) : insI (L ++ M) = insI L ++ insI M := List.map_append ..
theorem shift_snoc (b : Nat) (L : List (Nat × InsV)) (k : Nat) (x : InsV) : shiftP b (L ++ [(k, x)]) = shiftP b L ++ [(b + k, x)] := by simp [shiftP]
theorem shift_len (b : Nat) (L : List (Nat × InsV)) : (shiftP b L).length = L.length := List.length_map ..
theorem scan_ok {code : List Int} (hb : Go.Proofs.Ytojpcijfipdiaaa.Bytes code) {L : List (Nat × InsV)} (h : scanAt code 0 = some L) : ∀ p ∈ L, p.2.Ok := by
  have key : ∀ (L : List (Nat × InsV)) (i : Nat), Covers code i L → ∀ p ∈ L, p.2.Ok := by
    intro L
    induction L with
    | nil => intro i _ p hp; cases hp
    | cons q t ih =>
      intro i hc p hp
      obtain ⟨j, x⟩ := q
      obtain ⟨_, _, h2, _, _, h5⟩ := hc
      rcases List.mem_cons.1 hp with rfl | hp
      · exact h2
      · exact ih _ h5 p hp
  exact key L 0 (scan_covers hb _ 0 L (Nat.le_refl _) h)
theorem scanL_ok {code : List Int} (hb : Go.Proofs.Ytojpcijfipdiaaa.Bytes code) : ∀ p ∈ scanL code, p.2.Ok := by
  rcases scan_cases code with ⟨_, _, e⟩ | ⟨_, _, _, e⟩ | ⟨_, L, h, _, e⟩
  · rw [e]; intro p hp; cases hp
  · rw [e]; intro p hp; cases hp
  · rw [e]; exact scan_ok hb h
theorem covers_len {code : List Int} : ∀ (L : List (Nat × InsV)) (i : Nat), Covers code i L → i ≤ code.length → L.length + i ≤ code.length := by
  intro L
  induction L with
  | nil => intro i _ h; simpa using h
  | cons q t ih =>
    intro i hc hi
    have hin := covers_in _ _ hc q (by simp)
    obtain ⟨j, x⟩ := q
    obtain ⟨rfl, _, h2, _, _, h5⟩ := hc
    have := lay_len h2
    have := ih _ h5 hin
    simp at this ⊢
    omega
theorem scan_len {code : List Int} (hb : Go.Proofs.Ytojpcijfipdiaaa.Bytes code) {L : List (Nat × InsV)} (h : scanAt code 0 = some L) : L.length ≤ code.length := by
  have := covers_len L 0 (scan_covers hb _ 0 L (Nat.le_refl _) h) (Nat.zero_le _)
  omega
theorem scanL_len {code : List Int} (hb : Go.Proofs.Ytojpcijfipdiaaa.Bytes code) : (scanL code).length ≤ 4096 := by
  rcases scan_cases code with ⟨_, _, e⟩ | ⟨_, _, _, e⟩ | ⟨h4, L, h, _, e⟩
  · rw [e]; simp
  · rw [e]; simp
  · rw [e]; have := scan_len hb h; have := ((sizeB_iff _).1 h4).2.1; omega
end Go.Proofs.Ytojpcijfipdiaaa.Mm
