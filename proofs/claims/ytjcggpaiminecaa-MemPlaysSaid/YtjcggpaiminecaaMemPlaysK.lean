/- The statement MemPlays: what its kinds of acts have in common; the code of the switch over them. -/
import Derived.Test.YtjcggpaiminecaaMemPlaysA
import Derived.Deep.DeepCutAuto
import Derived.Deep.CutBlock
namespace Go.Proofs.Ytjcggpaiminecaa.Mm
open Go.ChangeShapes Go.WideShapes Go.ChangeAt Go.RowKit
set_option linter.unusedVariables false

theorem quiet_eq {P : Program} {f : FuncId} {args : Array Value} {w : World} {n : Nat} {v : Value}
    (h : Calls P f args (w.drewN n) fun e w' => e = .returned v ∧ w.drewN n = w') : Calls P f args (w.drewN n) fun e w'' => e = .returned v ∧ ∃ m, w'' = w.drewN m :=
  h.mono fun _ _ ⟨he, hm⟩ => ⟨he, n, hm.symm⟩
/-- so many bytes have been looked at -/
def InRel (n : Nat) (w7 : World) (i : Value) (w' : World) : Prop := ∃ j : Nat, j ≤ n ∧ i = .int .i64 j ∧ Sm w7 w'
/-- a part of a row, in any later world -/
theorem cut_mid {w : World} {xb cB : Nat} {B : List Int} (r : RowAt w (some ⟨xb, 0, none⟩) cB B) (N a n : Nat) (hB : B.length = N) (h : a + n ≤ N) {f : Nat → World} (hf : ∀ q, Below w.heap.size w (f q)) :
    ∃ AS cs, (∀ W, (Instr.slice 30 (.slice (some ⟨xb, 0, none⟩) N cB) (some (.int .i64 a)) (some (.int .i64 ((a : Int) + (n : Int)))) none).run Try.prog W = .ok (.slice AS n cs) W) ∧ ∀ q, RowAt (f q) AS cs ((B.drop a).take n) := by
  have hc := r.1
  have hm := r.2.1
  refine ⟨if cB = a then some ⟨xb, 0, none⟩ else (some (⟨xb, 0, none⟩ : Addr)).map (·.add (a * 1)), cB - a, fun W => ?_, fun q => ?_⟩
  · rw [run_slice_lh W 30 _ N cB u8_el .i64 .i64 a ((a : Int) + (n : Int)) (by omega) (by omega) (by omega), u8_sz]
    have e : ((a : Int) + (n : Int)).toNat - (a : Int).toNat = n := by omega
    rw [Int.toNat_natCast] at e
    simp only [Result.andThen, sliced, Int.toNat_natCast, e]
  · have r' := r.below (hf q)
    by_cases h0 : n = 0
    · subst h0
      rw [List.take_zero]
      exact row_nil _ _ _ (by omega)
    · rw [if_neg (by omega), Nat.mul_one]
      exact row_take (row_drop r' a) n
theorem rBytes_arm {w6 W : World} {X g h N xb cB yb cU : Nat} {B : List Int} {U : List Bool} {v : Int} (v0 : 0 ≤ v) (v1 : v < 4294967296) (hsm : Sm w6 W) (r : RSt w6 X g h N B U xb cB yb cU) :
    Calls Try.prog 15 #[.int .u32 v] W fun e w7 => ∃ q, e = .returned (.slice (some ⟨q, 0, none⟩) 4 4) ∧ (RowAt w7 (some ⟨q, 0, none⟩) 4 (b4 v) ∧ RSt w7 X g h N B U xb cB yb cU ∧ Below w6.heap.size w6 w7) ∧ w7.cell? ⟨X, 0, none⟩ = some (.slice (some ⟨xb, 0, none⟩) N cB) ∧ w7.cell? ⟨X, 1, none⟩ = some (.slice (some ⟨yb, 0, none⟩) N cU) := by
  refine (rBytes_any v v0 v1 W).mono ?_
  rintro e w7 ⟨rfl, rfl⟩
  have b7 := bel_then hsm.bel (put4_bel W v)
  have r7 := r.below b7
  exact ⟨_, rfl, ⟨put4_row W v v0 v1, r7, b7⟩, r7.own.cell 0, r7.own.cell 1⟩
theorem rWrite_arm {w0 w5 w6 w7 W : World} {p g h X N xb cB yb cU u q : Nat} {B : List Int} {T U : List Bool} {v : Int} (s : PSt w0 p g h X N B T U xb cB yb cU w5) (m6 : MSt w0 p g h (splice B u (b4 v)) T w6) (c6 : Chg g g w5 w6) (b7 : Below w6.heap.size w6 w7) (r7 : RSt w7 X g h N B U xb cB yb cU) (row : RowAt w7 (some ⟨q, 0, none⟩) 4 (b4 v)) (hN : N ≤ 65536) (hN0 : 0 < N) (hfit : u + 4 ≤ N) (hsm : Sm w7 W) :
    Calls Try.prog 14 #[.agg #[.slice (some ⟨xb, 0, none⟩) N cB, .slice (some ⟨yb, 0, none⟩) N cU], .int .i64 u, .slice (some ⟨q, 0, none⟩) 4 4] W fun e w8 => ∃ g' c', e = .returned (.agg #[.slice (some ⟨g', 0, none⟩) N c', .slice (some ⟨yb, 0, none⟩) N cU]) ∧
      (w8.cell? ⟨X, 0, none⟩ = some (.slice (some ⟨xb, 0, none⟩) N cB) ∧ w8.cell? ⟨X, 1, none⟩ = some (.slice (some ⟨yb, 0, none⟩) N cU) ∧ w8.frozen? ⟨X, 0, none⟩ = false ∧ w8.frozen? ⟨X, 1, none⟩ = false) ∧
      PSt w0 p g h X N (splice B u (b4 v)) T U g' c' yb cU ((w8.setCell ⟨X, 0, none⟩ (.slice (some ⟨g', 0, none⟩) N c')).setCell ⟨X, 1, none⟩ (.slice (some ⟨yb, 0, none⟩) N cU)) := by
  have r8 := r7.below hsm.bel
  refine (rWrite_any xb yb N u 4 cB cU 4 _ B (b4 v) s.lB rfl hN hN0 hfit W r8.rB r8.rU.at_.1 (row.below hsm.bel)).mono ?_
  rintro e w8 ⟨g', c', rfl, row8, l8, l8', hb8⟩
  have b8 := bel_then (bel_then b7 hsm.bel) hb8
  have r9 := r8.below hb8
  exact ⟨g', c', rfl, ⟨r9.own.cell 0, r9.own.cell 1, r9.own.frozen 0, r9.own.frozen 1⟩, s.wrote m6 c6 b8 (by rw [splice_len _ _ _ (by rw [b4_len, s.lB]; omega), s.lB]) (Nat.le_trans (bel_then b7 hsm.bel).size l8) l8' row8⟩
/-- does a place lie in it? -/
def inB (a : Int) (N : Nat) : Bool := decide (0 ≤ a ∧ a ≤ (N : Int))
theorem v_bool {a b : Bool} (h : a = b) : Value.bool a = .bool b := by rw [h]
/-- so many acts are done -/
def PRel (w0 : World) (p g h X N n : Nat) (i : Value) (w : World) : Prop := ∃ k : Nat, k ≤ n ∧ i = .int .i64 k ∧ PAny w0 p g h X N w

/-- the code of a block, taken out of a function's -/
def blkOf (n : Nat) : Code → Option Code
  | .block i c => if i = n then some (.block i c) else blkOf n c
  | .seq a b => match blkOf n a with
    | some c => some c
    | none => blkOf n b
  | .cond _ a b => match blkOf n a with
    | some c => some c
    | none => blkOf n b
  | .loop c => blkOf n c
  | .scope c => blkOf n c
  | _ => none
set_option maxRecDepth 1000000 in
/-- the frame where the acts meet again -/
def KeptJ (w : World) (N n cap p g h X k Y xb0 yb0 : Nat) (x : Addr) (d : Int) (bi : Bool) (u22 : Value) (J : Act → World → Prop) : Prop :=
  ∀ (a' : Act) (w' : World), (∃ u4 u11 u12 u13 u14 u15 u16 u17 u18 u19 u20 u21 u70 u71 u72 u73 u74 u75 u76 u77 u78 u79 u80 u81 u82 u83 u84 u85 u86 u87 u88 u89 u90 u92 u93 u94 u95 u96 u97 u98 u99 u100 u101 u102 u103 u104 u105 u106 u107 u108 u109 u110 u111 u112 u113 u114 u115 u116 u117 u118 u119 u120 u121 u122 u123 u124 u125 u126 u127 u128 u129 u130 u131 u132 u133 u134 u135 u136 u137 u138 u139 u140 u141 u142 u143 u144 u145 u146 u147 u148 u149 u150 u151 u152 u153 u154 u155 u156 u157 u158 u159 u160 u161 u162 u163 u164 u165 u166 u167 u168 u169 u170 u171 u172 u173 u174 u175 u176 u177 u178 u179 u180 u181 u182 u183 u184 u185 u186 u187 u188 u189 u190 u191 u192 u193 u194 u195 u196 u197 u198 u199 u200 u201 u202 u203 u204 u205 u206 u207 u208 u209 u210 u211 u212 u213 u214 u215 u216 u217 u218 u219 u220 u221 u222 u223 u224 u225 u226 u227 u228 u229 u230 u231 u232 u233 u234 u235 u236 u237 u238 u239 u240 u241 u242 u243 u244 u245 u246 u247 u248 u249 u250 u251 u252 u253 u254 u255 u256 u257 u258 u259 u260 u261 u262 u263 u264 u265 u266 u267 u268 u269 u270 u271 u272 u273 u274 u275 u276 u277 u278 u279 u280 u281 u282 u283 u284 u285 u286 u287 u288 u289 u290 u291 u292 u293 u294 u295 u296 u297 u298 u299 u300 u301 u302 u303 u304 u305 u306 u307 u308 u309 u310 u311 u312 u313 u314 u315, PAny w p g h X N w' ∧ a' = { tmps := #[Value.int IntKind.i64 ↑N, Value.slice (some x) n cap, undef, undef, u4, Value.pointer (some { block := p, off := 0 }), Value.int IntKind.i64 0, Value.pointer (some { block := X, off := 0 }), Value.int IntKind.i64 ↑k, Value.pointer (some { block := Y, off := 0 }), Value.bool bi, u11, u12, u13, u14, u15, u16, u17, u18, u19, u20, u21, u22, undef, undef, undef, undef, undef, Value.bool true, Value.bool false, Value.bool false, Value.slice (some x) n cap, Value.bool true, Value.bool false, Value.bool false, undef, Value.tuple #[Value.pointer (some { block := p, off := 0 }), Value.int IntKind.i64 0], Value.int IntKind.i64 ↑N, Value.tuple #[Value.pointer (some { block := p, off := 0 }), Value.int IntKind.i64 0], Value.pointer (some { block := p, off := 0 }), Value.int IntKind.i64 0, Value.int IntKind.i64 ↑N, Value.bool false, Value.bool false, Value.int IntKind.i64 ↑N, Value.bool false, Value.bool false, Value.bool false, Value.int IntKind.i64 ↑N, Value.int IntKind.i64 0, Value.bool false, Value.bool false, undef, undef, undef, undef, undef, undef, Value.int IntKind.i64 ↑N, Value.bool false, undef, undef, undef, undef, undef, undef, undef, undef, Value.int IntKind.i64 ↑N, Value.agg #[Value.slice (some { block := xb0, off := 0 }) N N, Value.slice (some { block := yb0, off := 0 }) N N], u70, u71, u72, u73, u74, u75, u76, u77, u78, u79, u80, u81, u82, u83, u84, u85, u86, u87, u88, u89, u90, Value.int IntKind.u8 (d % 5), u92, u93, u94, u95, u96, u97, u98, u99, u100, u101, u102, u103, u104, u105, u106, u107, u108, u109, u110, u111, u112, u113, u114, u115, u116, u117, u118, u119, u120, u121, u122, u123, u124, u125, u126, u127, u128, u129, u130, u131, u132, u133, u134, u135, u136, u137, u138, u139, u140, u141, u142, u143, u144, u145, u146, u147, u148, u149, u150, u151, u152, u153, u154, u155, u156, u157, u158, u159, u160, u161, u162, u163, u164, u165, u166, u167, u168, u169, u170, u171, u172, u173, u174, u175, u176, u177, u178, u179, u180, u181, u182, u183, u184, u185, u186, u187, u188, u189, u190, u191, u192, u193, u194, u195, u196, u197, u198, u199, u200, u201, u202, u203, u204, u205, u206, u207, u208, u209, u210, u211, u212, u213, u214, u215, u216, u217, u218, u219, u220, u221, u222, u223, u224, u225, u226, u227, u228, u229, u230, u231, u232, u233, u234, u235, u236, u237, u238, u239, u240, u241, u242, u243, u244, u245, u246, u247, u248, u249, u250, u251, u252, u253, u254, u255, u256, u257, u258, u259, u260, u261, u262, u263, u264, u265, u266, u267, u268, u269, u270, u271, u272, u273, u274, u275, u276, u277, u278, u279, u280, u281, u282, u283, u284, u285, u286, u287, u288, u289, u290, u291, u292, u293, u294, u295, u296, u297, u298, u299, u300, u301, u302, u303, u304, u305, u306, u307, u308, u309, u310, u311, u312, u313, u314, u315, undef, undef, undef, undef, undef, undef, undef, undef, undef, undef, undef, undef, undef, undef, undef, undef, undef, undef, undef, undef, undef, undef, undef, undef, undef, undef, undef, undef, undef, undef, undef, undef, undef, undef, undef, undef, undef, undef, undef, undef, undef, undef, undef, undef, undef, undef, undef, undef, undef, undef, undef, undef, undef, undef, undef, undef, undef, undef, undef, undef, undef, undef], defers := [] }) → J a' w'
noncomputable def blk2 : Code := (Try.f3.body.bind (blkOf 2)).getD .skip
end Go.Proofs.Ytjcggpaiminecaa.Mm
