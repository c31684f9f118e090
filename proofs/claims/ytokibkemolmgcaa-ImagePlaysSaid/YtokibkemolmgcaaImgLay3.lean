/- Laying an image: whatever it is given; the example. -/
import Derived.Test.YtokibkemolmgcaaImgLay2
namespace Go.Proofs.Ytokibkemolmgcaa.Mm
open Go.ChangeShapes Go.WideShapes Go.ChangeAt Go.RowKit
set_option linter.unusedVariables false

def LayN (w : World) (e : Ending) (w' : World) : Prop := e = .returned (.tuple #[.slice none 0 0, .int .i64 4]) ∧ Below w.heap.size w w'
theorem lay_no (A B : Option Addr) (c d ca cb : Nat) (h1 : c ≤ 9000) (h2 : d ≤ 9000) (w : World) (hq : rightB c d = false) :
    Calls Try.prog 9 #[.agg #[.slice A c ca, .slice B d cb]] w (LayN w) := by
  have RG := Lib.hid (fun W => Right_any A B c d ca cb (by unfold maxLen; omega) (by unfold maxLen; omega) W)
  rw [hq] at RG
  have NB := HasB.new w 26 [.slice A c ca, .slice B d cb]
  have HB := Lib.hid (bel_al (Below.refl w.heap.size w) (.cells #[.slice A c ca, .slice B d cb] 26))
  have k0 := NB.cell 0
  have k1 := NB.cell 1
  simp only [List.getElem?_cons_succ, List.getElem?_cons_zero] at k0 k1
  clear NB hq
  go_enter Try.func9, Try.ntmps9
  go_wp2_with fail
  refine (RG.out _).mono ?_; rintro e w2 ⟨rfl, hb2⟩
  have HB2 := Lib.hid (bel_then HB.out hb2)
  clear hb2
  go_wp2_with fail
  go_ret2
  exact ⟨rfl, HB2.out⟩

theorem make_32 (w : World) : (Instr.makeSlice 22 (.int .i64 32) (.int .i64 32)).run Try.prog w = .ok (.slice (some ⟨w.heap.size, 0, none⟩) 32 32) (w.alloc (.cells ((List.replicate 32 (0 : Int)).map (Value.int .u8)).toArray 5)) := by
  have hi : ∃ i, Try.prog.info? 5 = some i ∧ i.zero = some (.int .u8 0) ∧ i.size = 1 ∧ i.bytes = 1 := by
    refine ⟨_, rfl, ?_, ?_, ?_⟩ <;> kernel_rfl
  obtain ⟨i, hi, hz, hs, hb⟩ := hi
  have := run_makeSlice (P := Try.prog) w 22 5 i (.int .u8 0) Try.underlying22 hi hz .i64 .i64 32 32 (by omega) (by omega) (by rw [hs]; omega) (by rw [hb]; omega) (by omega)
  have e : madeCells (Value.int .u8 0).cells 32 = ((List.replicate 32 (0 : Int)).map (Value.int .u8)).toArray := by
    apply Array.toList_inj.1
    rw [show (Value.int .u8 0).cells = #[.int .u8 0] from rfl, toList_madeCells_one]
    simp
  rw [hs, show Int.toNat 32 * 1 = 32 from rfl, e] at this
  exact this
theorem rep32 : Bytes (List.replicate 32 (0 : Int)) := fun x hx => by rw [List.eq_of_mem_replicate hx]; decide
theorem awake_any (w : World) : Calls Try.prog 8 #[] w fun e w' => e = .returned (.bool true) ∧ Below w.heap.size w w' := by
  have mk := make_32 w
  obtain ⟨W, hW⟩ : ∃ W, w.alloc (.cells ((List.replicate 32 (0 : Int)).map (Value.int .u8)).toArray 5) = W := ⟨_, rfl⟩
  have hr : RowAt W (some ⟨w.heap.size, 0, none⟩) 32 (List.replicate 32 0) := by rw [← hW]; exact row_newF _ _ _ _ _ _ _ rfl rfl (by decide) (by decide) rep32
  have hb : Below w.heap.size w W := by rw [← hW]; exact bel_al (Below.refl _ _) _
  have L := Lib.hid (lay_yes (some ⟨w.heap.size, 0, none⟩) none 32 0 (List.replicate 32 0) [] 32 0 (by simp) rfl (by decide) (by decide) W hr (row_nil _ _ _ (by decide)) (by decide))
  rw [hW] at mk
  have HB := Lib.hid hb
  clear hr hb hW
  go_enter Try.func8, Try.ntmps8
  go_wp2_with fail
  refine L.out.mono ?_; rintro e w2 ⟨A2, c2, rfl, o2, hb2⟩
  have HB2 := Lib.hid (HB.out.trans (hb2.mono HB.out.size))
  clear o2 hb2
  go_wp2_with fail
  go_ret
  exact ⟨rfl, HB2.out⟩
end Go.Proofs.Ytokibkemolmgcaa.Mm
