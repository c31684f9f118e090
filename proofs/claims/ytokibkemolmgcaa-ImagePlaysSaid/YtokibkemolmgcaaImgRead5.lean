/- Reading an image: whatever it is given. -/
import Derived.Test.YtokibkemolmgcaaImgRead3
import Derived.Test.YtokibkemolmgcaaImgRead4
namespace Go.Proofs.Ytokibkemolmgcaa.Mm
open Go.ChangeShapes Go.WideShapes Go.ChangeAt Go.RowKit
set_option linter.unusedVariables false

/-- an image that is not read -/
def ReadN (w : World) (k : Int) (e : Ending) (w' : World) : Prop := e = .returned (.tuple #[.agg #[.slice none 0 0, .slice none 0 0], .int .i64 k]) ∧ Below w.heap.size w w'
theorem read_2a (A : Option Addr) (cap : Nat) (l : List Int) (n : Nat) (hl : n < 12) (w : World) :
    Calls Try.prog 11 #[.slice A n cap] w (ReadN w 2) := by
  have NB := HasB.new w 26 [.slice none 0 0, .slice none 0 0]
  have HB := Lib.hid (bel_al (Below.refl w.heap.size w) (.cells #[.slice none 0 0, .slice none 0 0] 26))
  have k0 := NB.cell 0
  have k1 := NB.cell 1
  have f0 := NB.frozen 0
  have f1 := NB.frozen 1
  simp only [List.getElem?_cons_succ, List.getElem?_cons_zero] at k0 k1
  clear NB
  have q1 : decide ((n : Int) < 12) = true := decide_eq_true (by omega)
  go_enter Try.func11, Try.ntmps11
  go_wp2_with fail
  refine bodyPost_ret (v := .tuple #[.agg #[.slice none 0 0, .slice none 0 0], .int .i64 2]) (by simp [results, Try.results11, go_sem, k0, k1]) rfl ⟨rfl, ?_⟩
  first | exact HB.out | exact (HB.out.setCell (Nat.le_refl _) _).setCell (Nat.le_refl _) _
theorem read_2b (A : Option Addr) (cap : Nat) (l : List Int) (n : Nat) (hn : l.length = n) (h12 : 12 ≤ n) (hl : n ≤ 100000) (w : World) (r : RowAt w A cap l) (hh : l.take 4 ≠ headL) :
    Calls Try.prog 11 #[.slice A n cap] w (ReadN w 2) := by
  obtain ⟨A1, c1, s1, r1⟩ := cut_to r n hn 4 4 rfl (by omega)
  have hb1 := bel_al (Below.refl w.heap.size w) (.cells #[.slice none 0 0, .slice none 0 0] 26)
  have cv1 := conv_row (r1 _ (r.below hb1)) 4 (by rw [List.length_take]; omega)
  have q1 : decide ((n : Int) < 12) = false := decide_eq_false (by omega)
  have q2 := head_beq (l.take 4) (take_byte r.2.2.1 4)
  rw [decide_eq_false hh] at q2
  have NB := HasB.new w 26 [.slice none 0 0, .slice none 0 0]
  have HB := Lib.hid hb1
  have k0 := NB.cell 0
  have k1 := NB.cell 1
  have f0 := NB.frozen 0
  have f1 := NB.frozen 1
  simp only [List.getElem?_cons_succ, List.getElem?_cons_zero] at k0 k1
  clear NB hb1 r r1 hh hn h12 hl
  go_enter Try.func11, Try.ntmps11
  go_wp2_with fail
  refine bodyPost_ret (v := .tuple #[.agg #[.slice none 0 0, .slice none 0 0], .int .i64 2]) (by simp [results, Try.results11, go_sem, k0, k1]) rfl ⟨rfl, ?_⟩
  first | exact HB.out | exact (HB.out.setCell (Nat.le_refl _) _).setCell (Nat.le_refl _) _

theorem Read_no (A : Option Addr) (cap : Nat) (l : List Int) (n : Nat) (hn : l.length = n) (hl : n ≤ 100000) (w : World) (r : RowAt w A cap l) (h : errL l ≠ 0) :
    Calls Try.prog 11 #[.slice A n cap] w (ReadN w (errL l)) := by
  rcases err_cases l with ⟨h1, e⟩ | ⟨h1, h2, e⟩ | ⟨h1, h2, h3, e⟩ | ⟨h1, h2, h3, h4, e⟩ | ⟨h1, h2, h3, h4, h5, e⟩ | ⟨_, _, _, _, _, e⟩
  · rw [e]; exact read_2a A cap l n (by omega) w
  · rw [e]; exact read_2b A cap l n hn (by omega) hl w r h2
  · rw [e]; exact read_3 A cap l n (l.length - 4) hn (by omega) (by omega) hl w r h2 h3
  · rw [e]; exact read_4a A cap l n (l.length - 4) hn (by omega) (by omega) hl w r h2 h3 h4
  · rw [e]; exact read_4b A cap l n (l.length - 4) hn (by omega) (by omega) hl w r h2 h3 h4 (by omega)
  · exact absurd e h
theorem Read_yes (A : Option Addr) (cap : Nat) (l : List Int) (n : Nat) (hn : l.length = n) (hl : n ≤ 100000) (w : World) (r : RowAt w A cap l) (h : errL l = 0) :
    Calls Try.prog 11 #[.slice A n cap] w (ReadY w l) := by
  rcases err_cases l with ⟨h1, e⟩ | ⟨h1, h2, e⟩ | ⟨h1, h2, h3, e⟩ | ⟨h1, h2, h3, h4, e⟩ | ⟨h1, h2, h3, h4, h5, e⟩ | ⟨h1, h2, h3, h4, h5, e⟩
  · rw [h] at e; cases e
  · rw [h] at e; cases e
  · rw [h] at e; cases e
  · rw [h] at e; cases e
  · rw [h] at e; cases e
  · exact read_0 A cap l n (l.length - 4) hn (by omega) (by omega) hl w r h2 h3 h4 (by omega)
end Go.Proofs.Ytokibkemolmgcaa.Mm
