/- The statement MemPlays: the acts of kind 3 (modulo 5). -/
import Derived.Test.YtjcggpaiminecaaMemPlaysK
namespace Go.Proofs.Ytjcggpaiminecaa.Mm
open Go.ChangeShapes Go.WideShapes Go.ChangeAt Go.RowKit
set_option linter.unusedVariables false

set_option maxRecDepth 100000 in
set_option maxHeartbeats 4000000 in
theorem kind_3 (N z n cap p g h X k Y xb0 yb0 xb cB yb cU l cap' : Nat) (w wc : World) (B : List Int) (T U : List Bool) (x : Addr) (d a m v : Int) (is bi : Bool) (A' : Option Addr) (b : List Int) (u4 u8 u11 u12 u13 u14 u15 u16 u17 u18 u19 u20 u21 u22 u70 u71 u72 u73 u74 u75 u76 u77 u78 u79 u80 u81 u82 u83 u84 u85 u86 u87 u88 u92 u93 u94 u95 u96 u97 u98 u99 u100 u101 u102 u103 u104 u105 u106 u107 u108 u109 u110 u111 u112 u113 u114 u115 u116 u117 u118 u119 u120 u121 u122 u123 u124 u125 u126 u127 u128 u129 u130 u131 u132 u133 u134 u135 u136 u137 u138 u139 u140 u141 u142 u143 u144 u145 u146 u147 u148 u149 u150 u151 u152 u153 u154 u155 u156 u157 u158 u159 u160 u161 u162 u163 u164 u165 u166 u167 u168 u169 u170 u171 u172 u173 u174 u175 u176 u177 u178 u179 u180 u181 u182 u183 u184 u185 u186 u187 u188 u189 u190 u191 u192 u193 u194 u195 u196 u197 u198 u199 u200 u201 u202 u203 u204 u205 u206 u207 u208 u209 u210 u211 u212 u213 u214 u215 u216 u217 u218 u219 u220 u221 u222 u223 u224 u225 u226 u227 u228 u229 u230 u231 u232 u233 u234 u235 u236 u237 u238 u239 u240 u241 u242 u243 u244 u245 u246 u247 u248 u249 u250 u251 u252 u253 u254 u255 u256 u257 u258 u259 u260 u261 u262 u263 u264 u265 u266 u267 u268 u269 u270 u271 u272 u273 u274 u275 u276 u277 u278 u279 u280 u281 u282 u283 u284 u285 u286 u287 u288 u289 u290 u291 u292 u293 u294 u295 u296 u297 u298 u299 u300 u301 u302 u303 u304 u305 u306 u307 u308 u309 u310 u311 u312 u313 u314 u315 : Value) (J K' : Act → World → Prop) (Q : Exit → Act → World → Prop)
    (hz0 : 1 ≤ z) (h2 : N ≤ 512) (hn : n ≤ 40) (q0 : 64 ≤ N) (q1 : (N : Int) % 64 = 0) (d2 : decide (65536 < (N : Int)) = false) (d3 : decide (512 < (N : Int)) = false) (d4 : ((N : Int) % 64 != 0) = false) (HZ : Hid (N = 64 * z)) (hk : k ≤ n) (hlt : k < n)
    (hbl : l ≤ 500) (HL : Hid (b.length = l)) (d0 : 0 ≤ d) (d1 : d ≤ 255) (a0 : -9223372036854775808 ≤ a) (a1 : a ≤ 9223372036854775807) (m0 : -9223372036854775808 ≤ m) (m1 : m ≤ 9223372036854775807) (v0 : 0 ≤ v) (v1 : v < 4294967296) (kI : (k : Int) < (n : Int))
    (HP : Hid (PSt w p g h X N B T U xb cB yb cU wc)) (HR : Hid (RowAt wc A' cap' b)) (HY : Hid (HasB wc Y 37 [.int .u8 d, .int .i64 a, .int .i64 m, .bool is, .int .u32 v, .slice A' l cap'])) (y1 : wc.cell? ⟨Y, 1, none⟩ = some (.int .i64 a)) (BI : Hid (inB a N = bi)) (R9 : Hid (RowAt w A' cap' b)) (hd : d % 5 = 3)
    (HJ : KeptJ w N n cap p g h X k Y xb0 yb0 x d bi u22 J) (HKK : Hid (∀ (a' : Act) (w' : World), Met J a' w' → K' a' w')) :
    Code.wp Try.prog blk2 (Exit.then K' Q) { tmps := #[Value.int IntKind.i64 ↑N, Value.slice (some x) n cap, undef, undef, u4, Value.pointer (some { block := p, off := 0 }), Value.int IntKind.i64 0, Value.pointer (some { block := X, off := 0 }), Value.int IntKind.i64 ↑k, Value.pointer (some { block := Y, off := 0 }), Value.bool bi, u11, u12, u13, u14, u15, u16, u17, u18, u19, u20, u21, u22, undef, undef, undef, undef, undef, Value.bool true, Value.bool false, Value.bool false, Value.slice (some x) n cap, Value.bool true, Value.bool false, Value.bool false, undef, Value.tuple #[Value.pointer (some { block := p, off := 0 }), Value.int IntKind.i64 0], Value.int IntKind.i64 ↑N, Value.tuple #[Value.pointer (some { block := p, off := 0 }), Value.int IntKind.i64 0], Value.pointer (some { block := p, off := 0 }), Value.int IntKind.i64 0, Value.int IntKind.i64 ↑N, Value.bool false, Value.bool false, Value.int IntKind.i64 ↑N, Value.bool false, Value.bool false, Value.bool false, Value.int IntKind.i64 ↑N, Value.int IntKind.i64 0, Value.bool false, Value.bool false, undef, undef, undef, undef, undef, undef, Value.int IntKind.i64 ↑N, Value.bool false, undef, undef, undef, undef, undef, undef, undef, undef, Value.int IntKind.i64 ↑N, Value.agg #[Value.slice (some { block := xb0, off := 0 }) N N, Value.slice (some { block := yb0, off := 0 }) N N], u70, u71, u72, u73, u74, u75, u76, u77, u78, u79, u80, u81, u82, u83, u84, u85, u86, u87, u88, Value.pointer (some { block := Y, off := 0 }), Value.int IntKind.u8 d, Value.int IntKind.u8 (d % 5), u92, u93, u94, u95, u96, u97, u98, u99, u100, u101, u102, u103, u104, u105, u106, u107, u108, u109, u110, u111, u112, u113, u114, u115, u116, u117, u118, u119, u120, u121, u122, u123, u124, u125, u126, u127, u128, u129, u130, u131, u132, u133, u134, u135, u136, u137, u138, u139, u140, u141, u142, u143, u144, u145, u146, u147, u148, u149, u150, u151, u152, u153, u154, u155, u156, u157, u158, u159, u160, u161, u162, u163, u164, u165, u166, u167, u168, u169, u170, u171, u172, u173, u174, u175, u176, u177, u178, u179, u180, u181, u182, u183, u184, u185, u186, u187, u188, u189, u190, u191, u192, u193, u194, u195, u196, u197, u198, u199, u200, u201, u202, u203, u204, u205, u206, u207, u208, u209, u210, u211, u212, u213, u214, u215, u216, u217, u218, u219, u220, u221, u222, u223, u224, u225, u226, u227, u228, u229, u230, u231, u232, u233, u234, u235, u236, u237, u238, u239, u240, u241, u242, u243, u244, u245, u246, u247, u248, u249, u250, u251, u252, u253, u254, u255, u256, u257, u258, u259, u260, u261, u262, u263, u264, u265, u266, u267, u268, u269, u270, u271, u272, u273, u274, u275, u276, u277, u278, u279, u280, u281, u282, u283, u284, u285, u286, u287, u288, u289, u290, u291, u292, u293, u294, u295, u296, u297, u298, u299, u300, u301, u302, u303, u304, u305, u306, u307, u308, u309, u310, u311, u312, u313, u314, u315, undef, undef, undef, undef, undef, undef, undef, undef, undef, undef, undef, undef, undef, undef, undef, undef, undef, undef, undef, undef, undef, undef, undef, undef, undef, undef, undef, undef, undef, undef, undef, undef, undef, undef, undef, undef, undef, undef, undef, undef, undef, undef, undef, undef, undef, undef, undef, undef, undef, undef, undef, undef, undef, undef, undef, undef, undef, undef, undef, undef, undef, undef], defers := [] } wc := by
  conv => arg 2; whnf
  have xc0 := HP.out.r.own.cell 0
  have xc1 := HP.out.r.own.cell 1
  have y2 := HY.out.cell 2
  have y3 := HY.out.cell 3
  have y4 := HY.out.cell 4
  have y5 := HY.out.cell 5
  simp only [List.getElem?_cons_succ, List.getElem?_cons_zero] at xc0 xc1 y2 y3 y4 y5
  have g0 : (d % 5 == 0) = false := by rw [hd]; rfl
  have g1 : (d % 5 == 1) = false := by rw [hd]; rfl
  have g2 : (d % 5 == 2) = false := by rw [hd]; rfl
  have g3 : (d % 5 == 3) = true := by rw [hd]; rfl
  clear hd
  obtain ⟨u, hu⟩ : ∃ u : Nat, a % 4294967296 = u := ⟨(a % 4294967296).toNat, by omega⟩
  have hu2 : (u : Int) < 4294967296 := by omega
  have hu3 : u < 4294967296 := by omega
  by_cases h1000 : u < 1000
  · have z1 : decide ((u : Int) < 1000) = true := decide_eq_true (by omega)
    have z2 : decide (u < 1000) = true := decide_eq_true h1000
    have CA := fun W (r : BlAt W (some ⟨yb, 0, none⟩) cU U) => rAll_any ⟨xb, 0, none⟩ ⟨yb, 0, none⟩ N u 4 cB cU U HP.out.lU (by omega) (by omega) (by omega) W r
    obtain ⟨wb, hwb⟩ : ∃ wb, allB U u 4 = wb := ⟨_, rfl⟩
    rw [hwb] at CA
    have hwb : wholeB T u 4 = wb := (HP.out.whole u 4 (.inr (by decide))).trans hwb
    have CA := Lib.hid CA
    cases wb
    · have CW := Lib.hid (get_no HP.out.m.at_ u (by omega) (by omega) hwb)
      clear hwb
      go_wp2_with fail
      refine CW.out.mono ?_; rintro e w' ⟨rfl, rfl⟩
      dsimp only
      go_wp2_with fail
      refine (CA.out _ HP.out.r.rU).mono ?_; rintro e w5 ⟨rfl, hb5⟩
      have HP5 := Lib.hid (HP.out.below hb5)
      clear hb5
      dsimp only
      go_wp2_with fail
      (refine HKK.out _ _ (Met.intro (HJ _ _ ?_)); (repeat apply Exists.intro); refine ⟨?_, rfl⟩)
      exact ⟨_, _, _, _, _, _, _, HP5.out⟩
    · have CW := get_i HP.out.m.at_ u hwb
      rw [Int.toNat_natCast] at CW
      have CW := Lib.hid CW
      have hfit := whole_lies hwb
      have hlT := HP.out.lT
      have hfit : u + 4 ≤ N := by omega
      have CN := fun W (r : RowAt W (some ⟨xb, 0, none⟩) cB B) => rNum_any ⟨xb, 0, none⟩ ⟨yb, 0, none⟩ N u cB cU B HP.out.lB (by omega) hfit W r
      have CN := Lib.hid CN
      clear hwb hlT
      generalize v4 B u = vv at CW CN
      go_wp2_with fail
      refine CW.out.mono ?_; rintro e w' ⟨rfl, rfl⟩
      dsimp only
      go_wp2_with fail
      refine (CA.out _ HP.out.r.rU).mono ?_; rintro e w5 ⟨rfl, hb5⟩
      have HP5 := Lib.hid (HP.out.below hb5)
      have e0 := HP5.out.r.own.cell 0
      have e1 := HP5.out.r.own.cell 1
      simp only [List.getElem?_cons_succ, List.getElem?_cons_zero] at e0 e1
      clear hb5
      dsimp only
      go_wp2_with fail
      refine (CN.out _ HP5.out.r.rB).mono ?_; rintro e w6 ⟨rfl, hb6⟩
      have HP6 := Lib.hid (HP5.out.below hb6)
      clear hb6
      dsimp only
      go_wp2_with fail
      (refine HKK.out _ _ (Met.intro (HJ _ _ ?_)); (repeat apply Exists.intro); refine ⟨?_, rfl⟩)
      exact ⟨_, _, _, _, _, _, _, HP6.out⟩
  · have z1 : decide ((u : Int) < 1000) = false := decide_eq_false (by omega)
    have z2 : decide (u < 1000) = false := decide_eq_false h1000
    have hwb : wholeB T u 4 = false := HP.out.out u 4 (by omega)
    have CW := Lib.hid (get_no HP.out.m.at_ u (by omega) (by omega) hwb)
    clear hwb
    go_wp2_with fail
    refine CW.out.mono ?_; rintro e w' ⟨rfl, rfl⟩
    dsimp only
    go_wp2_with fail
    (refine HKK.out _ _ (Met.intro (HJ _ _ ?_)); (repeat apply Exists.intro); refine ⟨?_, rfl⟩)
    exact ⟨_, _, _, _, _, _, _, HP.out⟩
end Go.Proofs.Ytjcggpaiminecaa.Mm
