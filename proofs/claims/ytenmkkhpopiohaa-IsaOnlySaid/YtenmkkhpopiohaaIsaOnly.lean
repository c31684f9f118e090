/- The statement IsaOnly, walked. -/
import Derived.Test.YtenmkkhpopiohaaIsaRow
namespace Go.Proofs.Ytenmkkhpopiohaa
open Go.ChangeShapes Go.WideShapes Go.ChangeAt Go.RowKit
set_option linter.unusedVariables false

/-- one block of four cells, in a world in which nothing that was there has changed, and a string that can be made -/
def One (w : World) (g : Nat) (a b c d : Value) (v : Value) (s : ByteArray) (w' : World) : Prop :=
  Res w' g a b c d ∧ (convert 30 9 v).run Try.prog w' = .ok (.string s) w' ∧ Below w.heap.size w w'
def OneS (w : World) (g : Nat) (a b c d : Value) (v : Value) (s : ByteArray) (w' : World) : Prop :=
  ((w'.cell? ⟨g, 0, none⟩ = some a ∧ w'.cell? ⟨g, 1, none⟩ = some b ∧ w'.cell? ⟨g, 2, none⟩ = some c ∧ w'.cell? ⟨g, 3, none⟩ = some d) ∧ (convert 30 9 v).run Try.prog w' = .ok (.string s) w') ∧ One w g a b c d v s w'

theorem One.s {w : World} {g : Nat} {a b c d v : Value} {s : ByteArray} {w' : World} (k : One w g a b c d v s w') : OneS w g a b c d v s w' := ⟨⟨k.1.2.1, k.2.1⟩, k⟩
theorem One.below {w : World} {g : Nat} {a b c d v : Value} {s : ByteArray} {u w' : World} (cv : ∀ w1, Below w.heap.size w w1 → (convert 30 9 v).run Try.prog w1 = .ok (.string s) w1) (k : One w g a b c d v s u) (hb : Below u.heap.size u w') : One w g a b c d v s w' :=
  ⟨k.1.below hb, cv _ (bel_then k.2.2 hb), bel_then k.2.2 hb⟩
theorem one_keep {w : World} {g : Nat} {a b c d v : Value} {s : ByteArray} {u w' : World} {P : Prop} (cv : ∀ w1, Below w.heap.size w w1 → (convert 30 9 v).run Try.prog w1 = .ok (.string s) w1) (k : P ∧ One w g a b c d v s u) (hb : Below u.heap.size u w') : OneS w g a b c d v s w' :=
  (k.2.below cv hb).s

theorem only_long (l : List Int) (A : Option Addr) (cap : Nat) (k : Int) (hl : l.length ≤ maxLen) (h : 5000 < l.length) (w : World) :
    Calls Try.prog 4 #[.slice A l.length cap, .int .i64 k] w fun e w' => e = .returned (.bool true) ∧ Below w.heap.size w w' := by
  unfold maxLen at hl
  go_enter Try.func4, Try.ntmps4
  go_wp2_with fail
  refine (awake_any _).mono ?_; rintro e w1 ⟨rfl, hb1⟩
  go_wp2_with fail
  refine (awake_any _).mono ?_; rintro e w2 ⟨rfl, hb2⟩
  go_wp2_with fail
  go_ret
  exact ⟨rfl, bel_then hb1 hb2⟩

theorem only_no (l : List Int) (A : Option Addr) (cap : Nat) (k : Int) (h : l.length ≤ 5000) (w : World)
    (c : ∀ w1, Below w.heap.size w w1 → Calls Try.prog 12 #[.slice A l.length cap, .int .i64 k] w1 fun e w' => e = .returned (.tuple #[.agg #[.int .i64 0, .int .i64 0, .int .i64 0, .int .u32 0], .int .i64 0]) ∧ Below w1.heap.size w1 w') :
    Calls Try.prog 4 #[.slice A l.length cap, .int .i64 k] w fun e w' => e = .returned (.bool true) ∧ Below w.heap.size w w' := by
  have C := Lib.hid c; clear c
  go_enter Try.func4, Try.ntmps4
  go_wp2_with fail
  refine (awake_any _).mono ?_; rintro e w1 ⟨rfl, hb1⟩
  go_wp2_with fail
  refine (C.out _ hb1).mono ?_; rintro e w2 ⟨rfl, hb2⟩
  go_wp2_with fail
  go_ret
  exact ⟨rfl, bel_al (bel_then hb1 hb2) _⟩

set_option maxHeartbeats 4000000 in
theorem only_yes (op a b imm : Int) (len cap k m : Nat) (x : Addr) (s : ByteArray) (hl : len ≤ 5000) (hm : 1 ≤ m) (hk : k + m ≤ len) (hcap : len ≤ cap) (w : World)
    (c : ∀ w1, Below w.heap.size w w1 → Calls Try.prog 12 #[.slice (some x) len cap, .int .i64 k] w1 fun e w' => e = .returned (.tuple #[.agg #[.int .i64 op, .int .i64 a, .int .i64 b, .int .u32 imm], .int .i64 m]) ∧ Below w1.heap.size w1 w')
    (c1 : ∀ w, Calls Try.prog 11 #[.agg #[.int .i64 op, .int .i64 a, .int .i64 b, .int .u32 imm]] w fun e w' => e = .returned (.bool true) ∧ Below w.heap.size w w')
    (c2 : ∀ w, Calls Try.prog 10 #[.agg #[.int .i64 op, .int .i64 a, .int .i64 b, .int .u32 imm]] w fun e w' => e = .returned (.string s) ∧ Below w.heap.size w w')
    (hcv : ∀ w1, Below w.heap.size w w1 → (convert 30 9 (.slice (some (x.add k)) m (cap - k))).run Try.prog w1 = .ok (.string s) w1) :
    Calls Try.prog 4 #[.slice (some x) len cap, .int .i64 k] w fun e w' => e = .returned (.bool true) ∧ Below w.heap.size w w' := by
  have C := Lib.hid c; clear c
  have C1 := Lib.hid c1; clear c1
  have C2 := Lib.hid c2; clear c2
  have CV := Lib.hid hcv; clear hcv
  go_enter Try.func4, Try.ntmps4
  go_wp2_with fail
  refine (awake_any _).mono ?_; rintro e w1 ⟨rfl, hb1⟩
  go_wp2_with fail
  refine (C.out _ hb1).mono ?_; rintro e w2 ⟨rfl, hb2⟩
  have HB2 := Lib.hid (bel_then hb1 hb2); clear hb1 hb2
  go_wp2_with fail
  have hbw := bel_al HB2.out (.cells #[.int .i64 op, .int .i64 a, .int .i64 b, .int .u32 imm] 24)
  have K : One w w2.heap.size (.int .i64 op) (.int .i64 a) (.int .i64 b) (.int .u32 imm) (.slice (some (x.add k)) m (cap - k)) s (w2.alloc (.cells #[.int .i64 op, .int .i64 a, .int .i64 b, .int .u32 imm] 24)) :=
    ⟨Res.new _ _ _ _ _ _, CV.out _ hbw, hbw⟩
  have K := Lib.hid K
  clear hbw
  generalize w2.alloc (.cells #[.int .i64 op, .int .i64 a, .int .i64 b, .int .u32 imm] 24) = W at *
  generalize w2.heap.size = g at *
  clear HB2 C
  have hck : ¬ cap = k := by omega
  have f1 : (0 : Int) ≤ (k : Int) := by omega
  have f2 : (k : Int) + (m : Int) ≤ (len : Int) := by omega
  have f3 : k + m ≤ cap := by omega
  have f4 : k ≤ k + m := by omega
  have f5 : (0 : Int) ≤ (k : Int) + (m : Int) := by omega
  have f6 : (k : Int) ≤ (k : Int) + (m : Int) := by omega
  have f7 : (k : Int) + (m : Int) ≤ (cap : Int) := by omega
  have f9 : k + m - k = m := by omega
  have e1 : IntKind.i64.wrap ((k : Int) + (m : Int)) = (k : Int) + (m : Int) := IntWalk.i64_in _ (by omega)
  have e3 : ((k : Int) + (m : Int)).toNat = k + m := by omega
  go_region_held3 (fun w' => ((w'.cell? ⟨g, 0, none⟩ = some (.int .i64 op) ∧ w'.cell? ⟨g, 1, none⟩ = some (.int .i64 a) ∧ w'.cell? ⟨g, 2, none⟩ = some (.int .i64 b) ∧ w'.cell? ⟨g, 3, none⟩ = some (.int .u32 imm)) ∧ (convert 30 9 (.slice (some (x.add k)) m (cap - k))).run Try.prog w' = .ok (.string s) w') ∧ One w g (.int .i64 op) (.int .i64 a) (.int .i64 b) (.int .u32 imm) (.slice (some (x.add k)) m (cap - k)) s w')
    (first | exact One.s K.out | exact One.s (One.below CV.out K.out (below_drew1 (Below.refl _ _))) | exact one_keep CV.out ‹_ ∧ One _ _ _ _ _ _ _ _ _› hb)
    (first | (go_at_call 11; (with_reducible refine (C1.out _).mono ?_); rintro e w' ⟨rfl, hb⟩) | (go_at_call 10; (with_reducible refine (C2.out _).mono ?_); rintro e w' ⟨rfl, hb⟩))
  rename_i hh
  obtain ⟨_, K2⟩ := hh
  have HB := Lib.hid K2.2.2
  clear K2 hb
  go_wp2
  go_ret
  exact ⟨rfl, HB.out⟩

theorem conv_any (w : World) (a : Addr) (cap : Nat) (L : List Int) (hc : ∀ i, i < L.length → w.cell? (a.add i) = some (.int .u8 (L.getD i 0))) :
    (convert 30 9 (.slice (some a) L.length cap)).run Try.prog w = .ok (.string (strOfNums L)) w := by
  have hl : (loadCells a L.length).run Try.prog w = .ok (L.map (Value.int .u8)).toArray w := by
    have := run_loadCells_list (P := Try.prog) w a (L.map (Value.int .u8)) (fun j v hj => by
      have hjl : j < L.length := by
        rcases Nat.lt_or_ge j L.length with h | h
        · exact h
        · rw [List.getElem?_eq_none (by simpa using h)] at hj; cases hj
      rw [hc j hjl]
      simp [List.getElem?_eq_getElem hjl] at hj
      subst hj
      simp [List.getD, List.getElem?_eq_getElem hjl])
    simpa using this
  rw [run_convert_bytes_string w 30 9 5 _ L.length cap Try.underlying30 Try.underlying5 Try.underlying9, run_bytesToString w _ L.length cap L hl, foldl_push_bytes]
  simp [strOfNums, ByteArray.empty, ByteArray.emptyWithCapacity]
  rfl

/-- a part of a slice, as a string -/
theorem row_conv {w : World} {x : Addr} {cap : Nat} {l : List Int} (h : RowAt w (some x) cap l) (k m c : Nat) (hk : k + m ≤ l.length) (hm : 1 ≤ m) :
    (convert 30 9 (.slice (some (x.add k)) m c)).run Try.prog w = .ok (.string (strOfNums ((l.drop k).take m))) w := by
  obtain ⟨h1, h2, h3, h4⟩ := h
  obtain ⟨y, hy, hx, hc⟩ := h4 (by intro h; subst h; simp at hk; omega)
  injection hy with hy; subst hy
  have hlen : ((l.drop k).take m).length = m := by rw [List.length_take, List.length_drop]; omega
  have := conv_any w (x.add k) c ((l.drop k).take m) (fun i hi => by
    rw [hlen] at hi
    have e : (x.add k).add i = x.add (k + i) := by unfold Addr.add; by_cases h : k = 0 <;> by_cases h' : i = 0 <;> simp [h, h', Nat.add_assoc]
    rw [e, hc _ (by omega)]
    simp [List.getD, hi])
  rw [hlen] at this
  exact this

theorem isaOnly_walk (A : Option Addr) (cap : Nat) (l : List Int) (k : Int) (w : World) (hr : RowAt w A cap l) (wk : (Lit.int .i64 k).wf = true) :
    Calls Try.prog 4 #[.slice A l.length cap, .int .i64 k] w fun e w' => e = .returned (.bool true) ∧ Below w.heap.size w w' := by
  have hlen : l.length ≤ maxLen := Nat.le_trans hr.1 hr.2.1
  by_cases h5 : 5000 < l.length
  · exact only_long l A cap k hlen h5 w
  have h5' : l.length ≤ 5000 := by omega
  by_cases hn : k < 0 ∨ (l.length : Int) ≤ k ∨ rdB (l.drop k.toNat) = false
  · exact only_no l A cap k h5' w (fun w1 hb => Read_no l A cap k (by omega) hn w1 (hr.below hb))
  · obtain ⟨j, rfl⟩ : ∃ j : Nat, k = j := ⟨k.toNat, by omega⟩
    rcases rd_or (l.drop j) with h0 | ⟨op, a, b, imm, n, h0⟩
    · exact absurd (.inr (.inr h0)) hn
    · have hb : Bytes (l.drop j) := fun z hz => hr.2.2.1 z (List.mem_of_mem_drop hz)
      obtain ⟨q1, q2, q3, q4, q5, q6, q7⟩ := lay_of_rd _ _ _ _ _ _ hb h0
      obtain ⟨m, rfl⟩ : ∃ m : Nat, n = m := ⟨n.toNat, by omega⟩
      rw [List.length_drop] at q6
      rw [Int.toNat_natCast] at q7
      have hne : l ≠ [] := by intro h; subst h; simp at q6; omega
      obtain ⟨x, rfl, _⟩ := hr.2.2.2 hne
      have c1 := Right_any op a b imm q2 q3
      rw [q1] at c1
      refine only_yes op a b imm l.length cap j m x _ h5' (by omega) (by omega) hr.1 w (fun w1 hb1 => Read_yes l (some x) cap j op a b imm m (by omega) h0 w1 (hr.below hb1)) c1 (Lay_any op a b imm q2 q3) (fun w1 hb1 => ?_)
      rw [← q7]
      exact row_conv (hr.below hb1) j m _ (by omega) (by omega)
end Go.Proofs.Ytenmkkhpopiohaa
