/- The bundles of code, one by one: what the range over a function hands on. -/
import Derived.RangeFuncBox
import Derived.RangeFuncLeaves
import Derived.RangeFuncNested
import Derived.WalkKit
import Derived.OwnWalkIn
import Derived.TacticsInMore
import Derived.LoopNIn
import Derived.LoopIn
import Derived.Test.YtojpcijfipdiaaaScanRow
import Derived.Test.YtojpcijfipdiaaaScanBun
namespace Go.Proofs.Ytojpcijfipdiaaa.Mm
open Go.ChangeShapes Go.WideShapes Go.ChangeAt Go.RowKit
set_option linter.unusedVariables false
attribute [local go_sem] Oper.semAt_some

theorem row_take {w : World} {A : Option Addr} {cap : Nat} {l : List Int} (r : RowAt w A cap l) (m : Nat) : RowAt w A cap (l.take m) := by
  obtain ⟨h1, h2, h3, h4⟩ := r
  have hl : (l.take m).length ≤ l.length := by rw [List.length_take]; omega
  refine ⟨by omega, h2, take_byte h3 _, fun hne => ?_⟩
  obtain ⟨x, hx, hb, hc⟩ := h4 (by intro e; subst e; simp at hne)
  exact ⟨x, hx, hb, fun i hi => by rw [hc i (by omega), getD_take' _ _ _ _ (by rw [List.length_take] at hi; omega)]⟩
theorem row_drop {w : World} {x : Addr} {cap : Nat} {l : List Int} (r : RowAt w (some x) cap l) (m : Nat) : RowAt w (some (x.add m)) (cap - m) (l.drop m) := by
  obtain ⟨h1, h2, h3, h4⟩ := r
  refine ⟨by rw [List.length_drop]; omega, by omega, drop_byte h3 _, fun hne => ?_⟩
  obtain ⟨y, hy, hb, hc⟩ := h4 (by intro e; subst e; simp at hne)
  injection hy with hy; subst hy
  exact ⟨_, rfl, by rw [block_add]; exact hb, fun i hi => by rw [List.length_drop] at hi; rw [add_add, hc _ (by omega), getD_drop']⟩
theorem u8_sz (w : World) : (sizeOf (Try.prog.elem 22)).run Try.prog w = .ok 1 w := by kernel_rfl
theorem u8_el : Try.prog.underlying 22 = some (.slice (Try.prog.elem 22)) := by kernel_rfl

theorem slice_mid (w : World) (x : Addr) (n cap k m : Nat) (hk : k + m ≤ n) (hn : n ≤ cap) (h0 : 0 < m) :
    (Instr.slice 22 (.slice (some x) n cap) (some (.int .i64 k)) (some (.int .i64 ((k : Int) + m))) none).run Try.prog w = .ok (.slice (some (x.add k)) m (cap - k)) w := by
  rw [run_slice_lh w 22 (some x) n cap u8_el .i64 .i64 k ((k : Int) + m) (by omega) (by omega) (by omega), u8_sz]
  simp only [Result.andThen, sliced, Int.toNat_natCast]
  rw [if_neg (by omega), Option.map_some, Nat.mul_one, show ((k : Int) + m).toNat - k = m by omega]

/-- 'bundles(code)': the slice is boxed; the function captures the box -/
theorem bundles_in (F : Fence) (n : Nat) (h : F.fn 30) (hro : F.round = none) (a : Option Addr) (len cap : Nat) (w : World) :
    CallsIn F n Try.prog 30 #[.slice a len cap] w fun e w' => e = .returned (.func (.func 35) #[] #[.pointer (some ⟨w.heap.size, 0, none⟩)]) ∧ w' = w.alloc (.cells #[.slice a len cap] 22) := by
  refine callsIn_of_wp Try.func30 rfl h ?_ hro
  simp only [Try.ntmps30, List.size_toArray, List.length_cons, List.length_nil, Nat.reduceAdd, Nat.reduceSub, Array.replicate_succ, Array.replicate_zero, List.push_toArray, List.append_toArray, List.nil_append, List.cons_append]
  gi_wp2
  go_ret
  exact ⟨rfl, rfl⟩

/-- what is handed on of bundle k -/
def bunE (x : Addr) (cap : Nat) (k : Nat) : Array Value := #[.int .i64 ((32 * k : Nat) : Int), .slice (some (x.add (32 * k))) 32 (cap - 32 * k)]
/-- what a round keeps: the box that the function captured -/
def KpB (B : Nat) (W W' : World) : Prop := ∀ v, Boxed W B 22 v → Boxed W' B 22 v
theorem KpB.trans {B : Nat} {X Y Z : World} (h : KpB B X Y) (k : KpB B Y Z) : KpB B X Z := fun v hv => k v (h v hv)
theorem KpB.put {B n : Nat} (hn : B < n) (W : World) (l : Nat) (o o' : Obj) (hl : n ≤ l) (_ : W.heap[l]? = some o) (_ : o.isCells = false) (_ : o.isWalk = false) : KpB B W (W.putObj l o') := fun v hv =>
  (World.putObj_heap_other (by omega)).trans hv
set_option maxRecDepth 100000 in
set_option maxHeartbeats 2000000 in
theorem iter_in (F : Fence) (n : Nat) (h : F.fn 35) (hro : F.round = none) (hn : 1 ≤ n) (l B : Nat) (x : Addr) (m len cap : Nat) (hlen : len = 32 * m) (hcap : len ≤ cap) (hmax : len ≤ 100000)
    (J Jx : List { k : Nat // k < m } → World → Prop)
    (hY : ∀ pre y W, J pre W → pre.length < m → YieldAt F (n - 1) Try.prog l (bunE x cap y.1) W fun e W' =>
      (e = .returned (.bool true) ∧ J (pre ++ [y]) W' ∧ KpB B W W') ∨ (e = .returned (.bool false) ∧ Jx (pre ++ [y]) W'))
    (W : World) (hc : Boxed W B 22 (.slice (some x) len cap)) (h0 : J [] W) :
    CallsIn F n Try.prog 35 #[.func (.yield l) #[] #[], .pointer (some ⟨B, 0, none⟩)] W fun e W' => (∃ v, e = .returned v) ∧
      ((∃ ys, ys.map (·.1) = List.range m ∧ J ys W') ∨ (∃ pre, True ∧ Jx pre W')) := by
  refine callsIn_of_wp Try.func35 rfl h ?_ hro
  simp only [Try.ntmps35, List.size_toArray, List.length_cons, List.length_nil, Nat.reduceAdd, Nat.reduceSub, Array.replicate_succ, Array.replicate_zero, List.push_toArray, List.append_toArray, List.nil_append, List.cons_append]
  have HL := Lib.hid hlen
  have HC := Lib.hid hc
  clear hlen hc
  gi_wp2
  gi_loopw [3] (fun i wr => ∃ (b k : Nat) (pre : List { k : Nat // k < m }), i = .int .i64 (b : Int) ∧ b ≤ len ∧ Hid (b = 32 * k) ∧ Hid (pre.map (·.1) = List.range k) ∧ J pre wr ∧ Hid (Boxed wr B 22 (.slice (some x) len cap))) (fun i _ => len - (intOf i).toNat)
  case atStart => exact ⟨0, 0, [], rfl, Nat.zero_le _, Lib.hid rfl, Lib.hid rfl, h0, HC⟩
  case round =>
    obtain ⟨b, k, pre, rfl, hbl, HK, HP, hJs, HB⟩ := hrel
    have hcx := HB.out.cell
    by_cases hlt : b < len
    · have hk : k < m := by have := HK.out; have := HL.out; omega
      obtain ⟨fn, tmps, assign, body, hy, hR⟩ := hY pre ⟨k, hk⟩ wr hJs (by have := congrArg List.length HP.out; rw [List.length_map, List.length_range] at this; omega)
      simp only [bunE, ← HK.out] at hy
      have hb32 : b + 32 ≤ len := by have := HK.out; have := HL.out; omega
      have hsl := fun w => slice_mid w x len cap b 32 hb32 hcap (by omega)
      have HS : Hid (∀ w, (Instr.slice 22 (.slice (some x) len cap) (some (.int .i64 b)) (some (.int .i64 ((b : Int) + 32))) none).run Try.prog w = .ok (.slice (some (x.add b)) 32 (cap - b)) w) := Lib.hid hsl
      clear hsl
      have hsl := HS.out
      gi_wp2
      refine hR.mono ?_
      rintro e W3 (⟨rfl, hJ3, hk3⟩ | ⟨rfl, hJx3⟩)
      · have HB3 := Lib.hid (hk3 _ HB.out)
        clear hk3
        gi_wp2
        go_roundw
        case rel => exact ⟨b + 32, k + 1, pre ++ [⟨k, hk⟩], by simp, hb32, Lib.hid (by have := HK.out; omega), Lib.hid (by rw [List.map_append, HP.out, List.range_succ]; rfl), hJ3, HB3⟩
        case measure => simp [intOf]; omega
      · gi_wp2
        refine bodyPost_ret (results_none rfl _ _ _) rfl ?_
        exact ⟨⟨_, rfl⟩, .inr ⟨_, trivial, hJx3⟩⟩
    · have hm : k = m := by have := HK.out; have := HL.out; omega
      subst hm
      gi_wp2
      go_end0
      exact ⟨⟨_, rfl⟩, .inl ⟨pre, HP.out, hJs⟩⟩

theorem Boxed.same {w w' : World} {B : Nat} {t : TypeId} {v : Value} (h : Boxed w B t v) (e : w'.heap[B]? = w.heap[B]?) : Boxed w' B t v := e.trans h
theorem Boxed.below {w w' : World} {B : Nat} {t : TypeId} {v : Value} (h : Boxed w B t v) (b : Below w.heap.size w w') : Boxed w' B t v := Boxed.same h (b.block _ h.lt)
theorem iter_stops (F : Fence) (n : Nat) (h : F.fn 35) (hro : F.round = none) (hn : 1 ≤ n) (B : Nat) (x : Addr) (m len cap : Nat) (hlen : len = 32 * m) (hcap : len ≤ cap) (hmax : len ≤ 100000) (w : World)
    (hc : Boxed w B 22 (.slice (some x) len cap)) :
    SeqStopsK F n Try.prog 35 #[.pointer (some ⟨B, 0, none⟩)] (fun y : { k : Nat // k < m } => bunE x cap y.1) (KpB B) (fun ys => ys.map (·.1) = List.range m) (fun _ => True) m w := fun l J Jx W hW hJ hJx hY h0 =>
  iter_in F n h hro hn l B x m len cap hlen hcap hmax J Jx hY W (Boxed.below hc hW) h0
end Go.Proofs.Ytojpcijfipdiaaa.Mm
