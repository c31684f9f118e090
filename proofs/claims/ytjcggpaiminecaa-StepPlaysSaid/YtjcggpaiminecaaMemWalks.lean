/- What the calls of package mem that ask a memory answer. -/
import Derived.Test.YtjcggpaiminecaaMemBase
namespace Go.Proofs.Ytjcggpaiminecaa.Mm
open Go.ChangeShapes Go.WideShapes Go.ChangeAt Go.RowKit
set_option linter.unusedVariables false

theorem lies_nil (a n : Int) (w : World) : Calls Try.prog 27 #[.pointer none, .int .i64 a, .int .i64 n] w fun e w' => e = .returned (.bool false) ∧ w = w' := by
  go_enter Try.func27, Try.ntmps27
  go_wp2
  go_ret
  exact ⟨rfl, rfl⟩

theorem lies_any {w : World} {p g h : Nat} {B : List Int} {T : List Bool} (m : MemAt w p g h B T) (a n : Int) (ha : a ≤ 9223372036854775807) :
    Calls Try.prog 27 #[.pointer (some ⟨p, 0, none⟩), .int .i64 a, .int .i64 n] w fun e w' => e = .returned (.bool (liesB B.length a n)) ∧ w = w' := by
  have c0 := m.c0
  have hl : B.length ≤ 65536 := by have := m.len; have := m.top; omega
  have hi := liesB_iff B.length a n
  have HI := Lib.hid hi; clear hi
  generalize B.length = L at *
  clear m
  go_enter Try.func27, Try.ntmps27
  go_wp2
  all_goals go_ret
  all_goals refine ⟨ret_bool ?_, rfl⟩
  all_goals (rw [Bool.eq_iff_iff, HI.out]; (try simp) <;> omega)

theorem whole_nil (a n : Int) (w : World) : Calls Try.prog 28 #[.pointer none, .int .i64 a, .int .i64 n] w fun e w' => e = .returned (.bool false) ∧ w = w' := by
  go_enter Try.func28, Try.ntmps28
  go_wp2_with fail
  refine (lies_nil _ _ _).mono ?_; rintro e w' ⟨rfl, rfl⟩
  go_wp2
  go_ret
  exact ⟨rfl, rfl⟩

theorem whole_no {w : World} {p g h : Nat} {B : List Int} {T : List Bool} (m : MemAt w p g h B T) (a n : Int) (ha : a ≤ 9223372036854775807) (hl : liesB B.length a n = false) :
    Calls Try.prog 28 #[.pointer (some ⟨p, 0, none⟩), .int .i64 a, .int .i64 n] w fun e w' => e = .returned (.bool false) ∧ w = w' := by
  have C := lies_any m a n ha
  rw [hl] at C
  have C := Lib.hid C; clear hl
  clear m
  go_enter Try.func28, Try.ntmps28
  go_wp2_with fail
  refine C.out.mono ?_; rintro e w' ⟨rfl, rfl⟩
  go_wp2
  go_ret
  exact ⟨rfl, rfl⟩

theorem whole_zero {w : World} {p g h : Nat} {B : List Int} {T : List Bool} (m : MemAt w p g h B T) (a : Int) (ha : a ≤ 9223372036854775807) (hl : liesB B.length a 0 = true) :
    Calls Try.prog 28 #[.pointer (some ⟨p, 0, none⟩), .int .i64 a, .int .i64 0] w fun e w' => e = .returned (.bool true) ∧ w = w' := by
  have C := lies_any m a 0 ha
  rw [hl] at C
  have C := Lib.hid C; clear hl
  clear m
  go_enter Try.func28, Try.ntmps28
  go_wp2_with fail
  refine C.out.mono ?_; rintro e w' ⟨rfl, rfl⟩
  go_wp2
  go_ret
  exact ⟨rfl, rfl⟩

theorem whole_yes {w : World} {p g h : Nat} {B : List Int} {T : List Bool} (m : MemAt w p g h B T) (a n : Nat) (hn : 0 < n) (hl : a + n ≤ 64 * T.length) :
    Calls Try.prog 28 #[.pointer (some ⟨p, 0, none⟩), .int .i64 a, .int .i64 n] w fun e w' => e = .returned (.bool (thr T a n)) ∧ w = w' := by
  have ht := m.top
  have C := lies_any m a n (by omega)
  rw [(liesB_iff _ _ _).2 (by have := m.len; omega)] at C
  have C := Lib.hid C
  have c1 := m.c1
  have Z := Lib.hid m.zc
  have TZ := Lib.hid (thr_zones T a n hn)
  clear m
  have q0 : (n : Int) ≠ 0 := by omega
  have q1 : ((n : Int) == 0) = false := by simpa using q0
  have s1 : (a : Int) + (n : Int) - 1 = ((a + n - 1 : Nat) : Int) := by omega
  generalize hL : T.length = L at *
  have HL := Lib.hid hL; clear hL
  go_enter Try.func28, Try.ntmps28
  go_wp2_with fail
  refine C.out.mono ?_; rintro e w' ⟨rfl, rfl⟩
  go_wp2_with fail
  obtain ⟨z0, hz0⟩ : ∃ z, z = a / 64 := ⟨_, rfl⟩
  obtain ⟨z1, hz1⟩ : ∃ z, z = (a + n - 1) / 64 + 1 := ⟨_, rfl⟩
  have hz : z0 < z1 := by omega
  have hzL : z1 ≤ L := by omega
  rw [← hz0, ← hz1] at TZ ⊢
  clear hz0 hz1
  go_loop [30] (fun i => ∃ k : Nat, k ≤ z1 - z0 ∧ i = .int .i64 k ∧ ∀ z, z0 ≤ z → z < z0 + k → T.getD z false = true) (fun i => z1 - z0 - (intOf i).toNat)
  case atStart => exact ⟨0, Nat.zero_le _, rfl, fun z h1 h2 => by omega⟩
  case round =>
    obtain ⟨k, hk, rfl, hall⟩ := hrel
    have HA := Lib.hid hall; clear hall
    by_cases hlt : k < z1 - z0
    · have hc := Z.out (z0 + k) (by have := HL.out; omega)
      obtain ⟨b, hb⟩ : ∃ b, T.getD (z0 + k) false = b := ⟨_, rfl⟩
      rw [hb] at hc
      have HB := Lib.hid hb; clear hb
      cases b
      · go_wp2
        go_ret
        refine ⟨ret_bool ?_, rfl⟩
        have : ¬ thr T a n = true := fun ht => by
          have := TZ.out.1 ht (z0 + k) (by omega) (by omega)
          rw [HB.out] at this
          cases this
        simpa using this
      · go_wp2
        go_round
        case rel => exact ⟨k + 1, by omega, by go_num, fun z h1 h2 => by
          by_cases e : z = z0 + k
          · rw [e]; exact HB.out
          · exact HA.out z h1 (by omega)⟩
        case measure => simp [intOf]; omega
    · go_wp2
      go_ret
      refine ⟨ret_bool ?_, rfl⟩
      exact (TZ.out.2 fun z h1 h2 => HA.out z h1 (by omega)).symm

theorem whole_any {w : World} {p g h : Nat} {B : List Int} {T : List Bool} (m : MemAt w p g h B T) (a n : Int) (ha : a ≤ 9223372036854775807) :
    Calls Try.prog 28 #[.pointer (some ⟨p, 0, none⟩), .int .i64 a, .int .i64 n] w fun e w' => e = .returned (.bool (wholeB T a n)) ∧ w = w' := by
  unfold wholeB
  rw [← m.len]
  by_cases hl : liesB B.length a n = false
  · rw [hl]; exact whole_no m a n ha hl
  · have hl : liesB B.length a n = true := by simpa using hl
    obtain ⟨h1, h2, h3⟩ := (liesB_iff _ _ _).1 hl
    rw [hl, Bool.true_and]
    obtain ⟨k, rfl⟩ : ∃ k : Nat, n = k := ⟨n.toNat, by omega⟩
    obtain ⟨b, rfl⟩ : ∃ k : Nat, a = k := ⟨a.toNat, by omega⟩
    rw [Int.toNat_natCast, Int.toNat_natCast]
    by_cases h0 : k = 0
    · subst h0; exact whole_zero m _ ha hl
    · exact whole_yes m b k (by omega) (by have := m.len; omega)

theorem there_nil (a : Int) (w : World) : Calls Try.prog 20 #[.pointer none, .int .i64 a] w fun e w' => e = .returned (.bool false) ∧ w = w' := by
  go_enter Try.func20, Try.ntmps20
  go_wp2_with fail
  refine (whole_nil _ _ _).mono ?_; rintro e w' ⟨rfl, rfl⟩
  go_wp2
  go_ret
  exact ⟨rfl, rfl⟩
theorem there_any {w : World} {p g h : Nat} {B : List Int} {T : List Bool} (m : MemAt w p g h B T) (a : Int) (ha : a ≤ 9223372036854775807) :
    Calls Try.prog 20 #[.pointer (some ⟨p, 0, none⟩), .int .i64 a] w fun e w' => e = .returned (.bool (wholeB T a 1)) ∧ w = w' := by
  have C := Lib.hid (whole_any m a 1 ha); clear m
  generalize wholeB T a 1 = b at *
  go_enter Try.func20, Try.ntmps20
  go_wp2_with fail
  refine C.out.mono ?_; rintro e w' ⟨rfl, rfl⟩
  go_wp2
  go_ret
  exact ⟨rfl, rfl⟩

theorem size_nil (w : World) : Calls Try.prog 8 #[.pointer none] w fun e w' => e = .returned (.int .i64 0) ∧ w = w' := by
  go_enter Try.func8, Try.ntmps8
  go_wp2
  go_ret
  exact ⟨rfl, rfl⟩
theorem size_any {w : World} {p g h : Nat} {B : List Int} {T : List Bool} (m : MemAt w p g h B T) :
    Calls Try.prog 8 #[.pointer (some ⟨p, 0, none⟩)] w fun e w' => e = .returned (.int .i64 B.length) ∧ w = w' := by
  have c0 := m.c0
  go_enter Try.func8, Try.ntmps8
  go_wp2
  go_ret
  exact ⟨rfl, rfl⟩

theorem new_no (n : Int) (h : ¬ (64 ≤ n ∧ n ≤ 65536 ∧ n % 64 = 0)) (w : World) :
    Calls Try.prog 7 #[.int .i64 n] w fun e w' => e = .returned (.tuple #[.pointer none, .int .i64 1]) ∧ w = w' := by
  by_cases h1 : n < 64
  · go_enter Try.func7, Try.ntmps7
    go_wp2
    go_ret2
    exact ⟨rfl, rfl⟩
  by_cases h2 : 65536 < n
  · go_enter Try.func7, Try.ntmps7
    go_wp2
    go_ret2
    exact ⟨rfl, rfl⟩
  have h3 : ¬ n % 64 = 0 := by omega
  clear h
  go_enter Try.func7, Try.ntmps7
  go_wp2
  go_ret2
  exact ⟨rfl, rfl⟩

/-- a memory that was made -/
def Made (w : World) (z : Nat) (e : Ending) (w' : World) : Prop :=
  ∃ p g h, e = .returned (.tuple #[.pointer (some ⟨p, 0, none⟩), .int .i64 0]) ∧ MemAt w' p g h (List.replicate (64 * z) 0) (List.replicate z false) ∧ w.heap.size ≤ p ∧ w.heap.size ≤ g ∧ w.heap.size ≤ h ∧ Below w.heap.size w w'

theorem made_rep (n : Nat) (v : Value) (h : v.cells = #[v]) : madeCells v.cells n = (List.replicate n v).toArray := by
  rw [h]
  apply Array.ext
  · rw [size_madeCells]; simp
  · intro i h1 h2
    simp [madeCells, Nat.mod_one]
set_option maxRecDepth 100000 in
theorem make_u8 (n : Nat) (h : n ≤ 65536) (w : World) :
    (Instr.makeSlice 30 (.int .i64 n) (.int .i64 n)).run Try.prog w = .ok (.slice (some ⟨w.heap.size, 0, none⟩) n n) (w.alloc (.cells (List.replicate n (Value.int .u8 0)).toArray 5)) := by
  have hi : ∃ i, Try.prog.info? 5 = some i ∧ i.zero = some (.int .u8 0) ∧ i.size = 1 ∧ i.bytes = 1 := by
    refine ⟨_, rfl, ?_, ?_, ?_⟩ <;> kernel_rfl
  obtain ⟨i, hi, hz, hs, hb⟩ := hi
  have := run_makeSlice (P := Try.prog) w 30 5 i (.int .u8 0) Try.underlying30 hi hz .i64 .i64 n n (by omega) (by omega) (by rw [hs]; omega) (by rw [hb]; omega) (by omega)
  rw [hs, made_rep _ _ rfl] at this
  simpa using this
set_option maxRecDepth 100000 in
theorem make_bool (n : Nat) (h : n ≤ 65536) (w : World) :
    (Instr.makeSlice 31 (.int .i64 n) (.int .i64 n)).run Try.prog w = .ok (.slice (some ⟨w.heap.size, 0, none⟩) n n) (w.alloc (.cells (List.replicate n (Value.bool false)).toArray 4)) := by
  have hi : ∃ i, Try.prog.info? 4 = some i ∧ i.zero = some (.bool false) ∧ i.size = 1 ∧ i.bytes = 1 := by
    refine ⟨_, rfl, ?_, ?_, ?_⟩ <;> kernel_rfl
  obtain ⟨i, hi, hz, hs, hb⟩ := hi
  have := run_makeSlice (P := Try.prog) w 31 4 i (.bool false) Try.underlying31 hi hz .i64 .i64 n n (by omega) (by omega) (by rw [hs]; omega) (by rw [hb]; omega) (by omega)
  rw [hs, made_rep _ _ rfl] at this
  simpa using this

theorem drew_has {w : World} {g : Nat} {t : TypeId} {cs : List Value} (h : HasB w g t cs) : HasB w.drew g t cs := h
theorem rep_u8 (n : Nat) : (Array.replicate n (Value.int .u8 0)) = ((List.replicate n (0 : Int)).map (Value.int .u8)).toArray := by simp
theorem rep_bool (n : Nat) : (Array.replicate n (Value.bool false)) = ((List.replicate n false).map Value.bool).toArray := by simp
theorem made_mk {w w' : World} {p g h n z : Nat} (hn : n = 64 * z) (h1 : 1 ≤ z) (h2 : z ≤ 1024) (hp : HasB w' p 68 [.slice (some ⟨g, 0, none⟩) n n, .slice (some ⟨h, 0, none⟩) z z])
    (hg : HasB w' g 5 ((List.replicate n (0 : Int)).map (Value.int .u8))) (hh : HasB w' h 4 ((List.replicate z false).map Value.bool)) (lp : w.heap.size ≤ p) (lg : w.heap.size ≤ g) (lh : w.heap.size ≤ h) (hb : Below w.heap.size w w') :
    Made w z (.returned (.tuple #[.pointer (some ⟨p, 0, none⟩), .int .i64 0])) w' := by
  subst hn
  exact ⟨p, g, h, rfl, ⟨by rw [List.length_replicate, List.length_replicate]; exact hp, hg, hh, by simp, by simpa using h1, by simpa using h2, rep_byte _⟩, lp, lg, lh, hb⟩
theorem made_1 {w : World} {n z : Nat} (hn : n = 64 * z) (h1 : 1 ≤ z) (h2 : z ≤ 1024) : Made w z (.returned (.tuple #[.pointer (some ⟨w.heap.size + 1 + 1, 0, none⟩), .int .i64 0]))
    (((w.alloc (.cells (Array.replicate n (Value.int .u8 0)) 5)).alloc (.cells (Array.replicate z (Value.bool false)) 4)).alloc (.cells #[.slice (some ⟨w.heap.size, 0, none⟩) n n, .slice (some ⟨w.heap.size + 1, 0, none⟩) z z] 68)).drew := by
  rw [rep_u8, rep_bool]
  refine made_mk (g := w.heap.size) (h := w.heap.size + 1) hn h1 h2 (drew_has ?_) (drew_has ?_) (drew_has ?_) (by omega) (by omega) (by omega) (bel_al (bel_al (bel_al (Below.refl _ _) _) _) _).drew
  · have := HasB.new ((w.alloc (.cells ((List.replicate n (0 : Int)).map (Value.int .u8)).toArray 5)).alloc (.cells ((List.replicate z false).map Value.bool).toArray 4)) 68 [.slice (some ⟨w.heap.size, 0, none⟩) n n, .slice (some ⟨w.heap.size + 1, 0, none⟩) z z]
    simpa using this
  · exact ((HasB.new w _ _).below (bel_al (Below.refl _ _) _)).below (bel_al (Below.refl _ _) _)
  · have := (HasB.new (w.alloc (.cells ((List.replicate n (0 : Int)).map (Value.int .u8)).toArray 5)) 4 ((List.replicate z false).map Value.bool)).below (bel_al (Below.refl _ _) (.cells #[.slice (some ⟨w.heap.size, 0, none⟩) n n, .slice (some ⟨w.heap.size + 1, 0, none⟩) z z] 68))
    rwa [World.size_alloc] at this
theorem made_2 {w : World} {n z : Nat} (hn : n = 64 * z) (h1 : 1 ≤ z) (h2 : z ≤ 1024) : Made w z (.returned (.tuple #[.pointer (some ⟨w.heap.size + 1 + 1, 0, none⟩), .int .i64 0]))
    (((w.alloc (.cells (Array.replicate z (Value.bool false)) 4)).alloc (.cells (Array.replicate n (Value.int .u8 0)) 5)).alloc (.cells #[.slice (some ⟨w.heap.size + 1, 0, none⟩) n n, .slice (some ⟨w.heap.size, 0, none⟩) z z] 68)).drew := by
  rw [rep_u8, rep_bool]
  refine made_mk (g := w.heap.size + 1) (h := w.heap.size) hn h1 h2 (drew_has ?_) (drew_has ?_) (drew_has ?_) (by omega) (by omega) (by omega) (bel_al (bel_al (bel_al (Below.refl _ _) _) _) _).drew
  · have := HasB.new ((w.alloc (.cells ((List.replicate z false).map Value.bool).toArray 4)).alloc (.cells ((List.replicate n (0 : Int)).map (Value.int .u8)).toArray 5)) 68 [.slice (some ⟨w.heap.size + 1, 0, none⟩) n n, .slice (some ⟨w.heap.size, 0, none⟩) z z]
    simpa using this
  · have := (HasB.new (w.alloc (.cells ((List.replicate z false).map Value.bool).toArray 4)) 5 ((List.replicate n (0 : Int)).map (Value.int .u8))).below (bel_al (Below.refl _ _) (.cells #[.slice (some ⟨w.heap.size + 1, 0, none⟩) n n, .slice (some ⟨w.heap.size, 0, none⟩) z z] 68))
    rwa [World.size_alloc] at this
  · exact ((HasB.new w _ _).below (bel_al (Below.refl _ _) _)).below (bel_al (Below.refl _ _) _)

theorem new_yes (n z : Nat) (hn : n = 64 * z) (h1 : 1 ≤ z) (h2 : z ≤ 1024) (w : World) : Calls Try.prog 7 #[.int .i64 n] w (Made w z) := by
  have q1 : (n : Int) % 64 = 0 := by omega
  have q2 : (n : Int) / 64 = (z : Int) := by omega
  have q3 : decide ((n : Int) < 64) = false := by rw [decide_eq_false_iff_not]; omega
  have q4 : decide (65536 < (n : Int)) = false := by rw [decide_eq_false_iff_not]; omega
  have m1 := make_u8 n (by omega)
  have m2 := make_bool z (by omega)
  have HN := Lib.hid hn; clear hn
  go_enter Try.func7, Try.ntmps7
  go_wp2_with fail
  go_region
  · go_wp2
    go_ret2
    exact made_1 HN.out h1 h2
  · go_wp2
    go_ret2
    exact made_2 HN.out h1 h2
end Go.Proofs.Ytjcggpaiminecaa.Mm
