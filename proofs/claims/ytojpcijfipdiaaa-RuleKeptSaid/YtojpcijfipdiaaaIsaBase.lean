/- The document's example; two boxed instructions side by side; a string's bytes as numbers. -/
import Derived.Test.YtojpcijfipdiaaaIsaReadAny
import Derived.Deep.RegionHeld3
namespace Go.Proofs.Ytojpcijfipdiaaa
open Go.ChangeShapes Go.WideShapes Go.ChangeAt Go.RowKit
set_option linter.unusedVariables false

theorem Res.set0 {w : World} {g : Nat} {a b c d : Value} (h : Res w g a b c d) (a' : Value) : Res (w.setCell ⟨g, 0, none⟩ a') g a' b c d := by
  obtain ⟨h0, ⟨h1, h2, h3, h4⟩, f1, f2, f3, f4⟩ := h
  refine ⟨by simpa using h0, ⟨by simp [go_sem, h1], by simp [go_sem, h2], by simp [go_sem, h3], by simp [go_sem, h4]⟩, by simpa using f1, by simpa using f2, by simpa using f3, by simpa using f4⟩
theorem Res.oth {w : World} {g g' : Nat} {a b c d : Value} (h : Res w g a b c d) (hne : g < g') (j : Nat) (v : Value) : Res (w.setCell ⟨g', j, none⟩ v) g a b c d := by
  have hb : Below (g + 1) w (w.setCell ⟨g', j, none⟩ v) := (Below.refl (g + 1) w).setCell (by simp; omega) _
  obtain ⟨h0, ⟨h1, h2, h3, h4⟩, f1, f2, f3, f4⟩ := h
  have e : ∀ j, _ = w.cell? ⟨g, j, none⟩ := fun j => hb.cell (p := ⟨g, j, none⟩) (by simp)
  have f : ∀ j, _ = w.frozen? ⟨g, j, none⟩ := fun j => hb.frozen (p := ⟨g, j, none⟩) (by simp)
  exact ⟨Nat.lt_of_lt_of_le h0 hb.size, ⟨by rw [e, h1], by rw [e, h2], by rw [e, h3], by rw [e, h4]⟩, by rw [f, f1], by rw [f, f2], by rw [f, f3], by rw [f, f4]⟩

/-- two blocks of four cells, in a world in which nothing that was there has changed -/
def Two (w : World) (g h : Nat) (a b c d a' b' c' d' : Value) (w' : World) : Prop := Res w' g a b c d ∧ Res w' h a' b' c' d' ∧ Below w.heap.size w w'
/-- its cells, one by one -/
def TwoS (w : World) (g h : Nat) (a b c d a' b' c' d' : Value) (w' : World) : Prop :=
  ((w'.cell? ⟨g, 0, none⟩ = some a ∧ w'.cell? ⟨g, 1, none⟩ = some b ∧ w'.cell? ⟨g, 2, none⟩ = some c ∧ w'.cell? ⟨g, 3, none⟩ = some d) ∧
  (w'.cell? ⟨h, 0, none⟩ = some a' ∧ w'.cell? ⟨h, 1, none⟩ = some b' ∧ w'.cell? ⟨h, 2, none⟩ = some c' ∧ w'.cell? ⟨h, 3, none⟩ = some d')) ∧ Two w g h a b c d a' b' c' d' w'
theorem Two.s {w : World} {g h : Nat} {a b c d a' b' c' d' : Value} {w' : World} (k : Two w g h a b c d a' b' c' d' w') : TwoS w g h a b c d a' b' c' d' w' := ⟨⟨k.1.2.1, k.2.1.2.1⟩, k⟩
theorem Two.below {w : World} {g h : Nat} {a b c d a' b' c' d' : Value} {v w' : World} (k : Two w g h a b c d a' b' c' d' v) (hb : Below v.heap.size v w') : Two w g h a b c d a' b' c' d' w' :=
  ⟨k.1.below hb, k.2.1.below hb, bel_then k.2.2 hb⟩
theorem Two.drew {w : World} {g h : Nat} {a b c d a' b' c' d' : Value} {v : World} (k : Two w g h a b c d a' b' c' d' v) : Two w g h a b c d a' b' c' d' v.drew := k.below (below_drew1 (Below.refl _ _))

theorem two_keep {w : World} {g h : Nat} {a b c d a' b' c' d' : Value} {v w' : World} {P : Prop} (k : P ∧ Two w g h a b c d a' b' c' d' v) (hb : Below v.heap.size v w') : TwoS w g h a b c d a' b' c' d' w' := (k.2.below hb).s

theorem Two.of {w : World} {a b c d a' b' c' d' : Value} {T T' : TypeId} {w1 : World} (hb : Below ((w.alloc (.cells #[a, b, c, d] T)).alloc (.cells #[a', b', c', d'] T')).heap.size ((w.alloc (.cells #[a, b, c, d] T)).alloc (.cells #[a', b', c', d'] T')) w1) :
    Two w w.heap.size (w.heap.size + 1) a b c d a' b' c' d' w1 := by
  have HX := ((Res.new w a b c d T).alloc (.cells #[a', b', c', d'] T')).below hb
  have HY := (Res.new (w.alloc (.cells #[a, b, c, d] T)) a' b' c' d' T').below hb
  rw [World.size_alloc] at HY
  exact ⟨HX, HY, bel_then (bel_al (bel_al (Below.refl _ _) _) _) hb⟩

theorem toList_data (s : ByteArray) : s.toList = s.data.toList := ByteArray.toList_eq s
/-- a string's bytes, as numbers -/
def nums (s : ByteArray) : List Int := s.data.toList.map fun c => (c.toNat : Int)
theorem nums_byte (s : ByteArray) : Bytes (nums s) := by
  intro x hx
  obtain ⟨c, _, rfl⟩ := List.mem_map.1 hx
  have := c.toNat_lt
  omega
theorem nums_str (L : List Int) (h : Bytes L) : nums (strOfNums L) = L := by
  unfold nums
  rw [strOfNums_data, List.map_map]
  conv => rhs; rw [← List.map_id L]
  refine List.map_congr_left fun x hx => ?_
  have := h x hx
  simp
  omega
theorem str_nums (s : ByteArray) : strOfNums (nums s) = s := by
  cases s with
  | mk d =>
    unfold strOfNums nums
    rw [List.map_map]
    have : (d.toList.map ((fun n : Int => UInt8.ofNat n.toNat) ∘ fun c : UInt8 => (c.toNat : Int))) = d.toList := by
      conv => rhs; rw [← List.map_id d.toList]
      refine List.map_congr_left fun c _ => ?_
      simp
    rw [this]
theorem nums_len (s : ByteArray) : (nums s).length = s.size := by
  unfold nums
  rw [List.length_map, Array.length_toList]
  rfl
theorem nums_toList {s t : ByteArray} (h : s.toList = t.toList) : nums s = nums t := by unfold nums; rw [← toList_data, ← toList_data, h]
theorem nums_extract (t : ByteArray) (n : Nat) : nums (t.extract 0 n) = (nums t).take n := by
  unfold nums
  rw [ByteArray.data_extract, Array.toList_extract]
  simp

theorem right_same {op1 a b imm op2 c d jmm : Int} (h1 : rightB op1 a b imm = true) (h2 : rightB op2 c d jmm = true) (i0 : 0 ≤ imm) (j0 : 0 ≤ jmm) (post : List Int) (h : layL op2 c d jmm = layL op1 a b imm ++ post) :
    op1 = op2 ∧ a = c ∧ b = d ∧ imm = jmm := by
  have q1 := rd_of_lay op1 a b imm h1 i0 post
  have q2 := rd_of_lay op2 c d jmm h2 j0 []
  rw [List.append_nil, h] at q2
  obtain ⟨e1, e2, e3, e4, _⟩ := rd_fun q1 q2
  exact ⟨e1, e2, e3, e4⟩

end Go.Proofs.Ytojpcijfipdiaaa
