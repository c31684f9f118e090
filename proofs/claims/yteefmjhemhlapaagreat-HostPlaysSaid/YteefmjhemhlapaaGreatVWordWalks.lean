/- What the calls of package word come to: Do, Sign, Of, divide, truth, at every argument. -/
import Derived.Test.YteefmjhemhlapaaGreatVWordMath
import Derived.Test.YteefmjhemhlapaaGreatRows
import Derived.WalkKit
import Derived.ProofKit
import Derived.OpenShut
namespace Go.Proofs.YteefmjhemhlapaaGreat
open Go.ChangeShapes Go.WideShapes Go.ChangeAt Go.RowKit
set_option linter.unusedVariables false
set_option maxRecDepth 10000
theorem ret_int {k:IntKind} {a b:Int} (h:a=b):Ending.returned (.int k a)=.returned (.int k b):=by rw [h]
theorem ret_bool {a b:Bool} (h:a=b):Ending.returned (.bool a)=.returned (.bool b):=by rw [h]
theorem ret_ib {k:IntKind} {a b:Int} {c d:Bool} (h:a=b) (h':c=d):Ending.returned (.tuple #[.int k a,.bool c])=.returned (.tuple #[.int k b,.bool d]):=by rw [h,h']
theorem truth_any (b:Bool) (w:World):Calls Tryz.prog 134 #[.bool b] w fun e w'=>e=.returned (.int .u32 (if b then 1 else 0))∧w=w':=by
  cases b
  · go_enter Tryz.func134,Tryz.ntmps134
    go_wp2
    go_ret
    exact ⟨rfl,rfl⟩
  · go_enter Tryz.func134,Tryz.ntmps134
    go_wp2
    go_ret
    exact ⟨rfl,rfl⟩
theorem sign_any (a:Int) (w:World):Calls Tryz.prog 132 #[.int .u32 a] w fun e w'=>e=.returned (.int .i64 (wrap32 a))∧w=w':=by
  go_enter Tryz.func132,Tryz.ntmps132
  go_wp2
  go_ret
  exact ⟨ret_int (wrap64_wrap32 a),rfl⟩
theorem divide_zero (a:Int) (q:Bool) (w:World):Calls Tryz.prog 133 #[.int .u32 a,.int .u32 0,.bool q] w fun e w'=>e=.returned (.tuple #[.int .u32 0,.bool false])∧w=w':=by
  go_enter Tryz.func133,Tryz.ntmps133
  go_wp2
  go_ret2
  exact ⟨rfl,rfl⟩
theorem divide_quo (a b:Int) (hb:(b == 0)=false) (hw:¬ wrap32 b=0) (w:World):Calls Tryz.prog 133 #[.int .u32 a,.int .u32 b,.bool true] w fun e w'=>e=.returned (.tuple #[.int .u32 ((wrap32 a).tdiv (wrap32 b) % 4294967296),.bool true])∧w=w':=by
  go_enter Tryz.func133,Tryz.ntmps133
  go_wp2
  go_ret2
  exact ⟨ret_ib (wrap32_mod _) rfl,rfl⟩
theorem divide_rem (a b:Int) (hb:(b == 0)=false) (hw:¬ wrap32 b=0) (w:World):Calls Tryz.prog 133 #[.int .u32 a,.int .u32 b,.bool false] w fun e w'=>e=.returned (.tuple #[.int .u32 ((wrap32 a).tmod (wrap32 b) % 4294967296),.bool true])∧w=w':=by
  go_enter Tryz.func133,Tryz.ntmps133
  go_wp2
  go_ret2
  exact ⟨ret_ib (rem_eq a b) rfl,rfl⟩
theorem do_3 (a b:Int) (h0:0≤a) (h1:a < 4294967296) (h2:0≤b) (h3:b < 4294967296) (w:World) :
    Calls Tryz.prog 120 #[.int .i64 3,.int .u32 a,.int .u32 b] w fun e w'=>e=.returned (.tuple #[.int .u32 ((a+b) % 4294967296),.bool true])∧w=w':=by
  go_enter Tryz.func120,Tryz.ntmps120
  go_wp2
  go_ret2
  exact ⟨rfl,rfl⟩
theorem do_4 (a b:Int) (h0:0≤a) (h1:a < 4294967296) (h2:0≤b) (h3:b < 4294967296) (w:World) :
    Calls Tryz.prog 120 #[.int .i64 4,.int .u32 a,.int .u32 b] w fun e w'=>e=.returned (.tuple #[.int .u32 ((a - b) % 4294967296),.bool true])∧w=w':=by
  go_enter Tryz.func120,Tryz.ntmps120
  go_wp2
  go_ret2
  exact ⟨rfl,rfl⟩
theorem do_5 (a b:Int) (h0:0≤a) (h1:a < 4294967296) (h2:0≤b) (h3:b < 4294967296) (w:World) :
    Calls Tryz.prog 120 #[.int .i64 5,.int .u32 a,.int .u32 b] w fun e w'=>e=.returned (.tuple #[.int .u32 ((a * b) % 4294967296),.bool true])∧w=w':=by
  go_enter Tryz.func120,Tryz.ntmps120
  go_wp2
  go_ret2
  exact ⟨rfl,rfl⟩
theorem do_6z (a:Int) (h0:0≤a) (h1:a < 4294967296) (w:World) :
    Calls Tryz.prog 120 #[.int .i64 6,.int .u32 a,.int .u32 0] w fun e w'=>e=.returned (.tuple #[.int .u32 0,.bool false])∧w=w':=by
  go_enter Tryz.func120,Tryz.ntmps120
  go_wp2_with (go_at_call 133;refine (divide_zero _ _ _).mono ?_;rintro e w' ⟨rfl,rfl⟩)
  go_ret2
  exact ⟨rfl,rfl⟩
theorem do_6 (a b:Int) (h0:0≤a) (h1:a < 4294967296) (h2:0≤b) (h3:b < 4294967296) (hb:(b == 0)=false) (hw:¬ wrap32 b=0) (w:World) :
    Calls Tryz.prog 120 #[.int .i64 6,.int .u32 a,.int .u32 b] w fun e w'=>e=.returned (.tuple #[.int .u32 ((wrap32 a).tdiv (wrap32 b) % 4294967296),.bool true])∧w=w':=by
  go_enter Tryz.func120,Tryz.ntmps120
  go_wp2_with (go_at_call 133;refine (divide_quo _ _ hb hw _).mono ?_;rintro e w' ⟨rfl,rfl⟩)
  go_ret2
  exact ⟨rfl,rfl⟩
theorem do_7z (a:Int) (h0:0≤a) (h1:a < 4294967296) (w:World) :
    Calls Tryz.prog 120 #[.int .i64 7,.int .u32 a,.int .u32 0] w fun e w'=>e=.returned (.tuple #[.int .u32 0,.bool false])∧w=w':=by
  go_enter Tryz.func120,Tryz.ntmps120
  go_wp2_with (go_at_call 133;refine (divide_zero _ _ _).mono ?_;rintro e w' ⟨rfl,rfl⟩)
  go_ret2
  exact ⟨rfl,rfl⟩
theorem do_7 (a b:Int) (h0:0≤a) (h1:a < 4294967296) (h2:0≤b) (h3:b < 4294967296) (hb:(b == 0)=false) (hw:¬ wrap32 b=0) (w:World) :
    Calls Tryz.prog 120 #[.int .i64 7,.int .u32 a,.int .u32 b] w fun e w'=>e=.returned (.tuple #[.int .u32 ((wrap32 a).tmod (wrap32 b) % 4294967296),.bool true])∧w=w':=by
  go_enter Tryz.func120,Tryz.ntmps120
  go_wp2_with (go_at_call 133;refine (divide_rem _ _ hb hw _).mono ?_;rintro e w' ⟨rfl,rfl⟩)
  go_ret2
  exact ⟨rfl,rfl⟩
theorem do_8 (a b:Int) (h0:0≤a) (h1:a < 4294967296) (h2:0≤b) (h3:b < 4294967296) (w:World) :
    Calls Tryz.prog 120 #[.int .i64 8,.int .u32 a,.int .u32 b] w fun e w'=>e=.returned (.tuple #[.int .u32 (bits .and .u32 a b),.bool true])∧w=w':=by
  go_enter Tryz.func120,Tryz.ntmps120
  go_wp2
  go_ret2
  exact ⟨rfl,rfl⟩
theorem do_9 (a b:Int) (h0:0≤a) (h1:a < 4294967296) (h2:0≤b) (h3:b < 4294967296) (w:World) :
    Calls Tryz.prog 120 #[.int .i64 9,.int .u32 a,.int .u32 b] w fun e w'=>e=.returned (.tuple #[.int .u32 (bits .or .u32 a b),.bool true])∧w=w':=by
  go_enter Tryz.func120,Tryz.ntmps120
  go_wp2
  go_ret2
  exact ⟨rfl,rfl⟩
theorem do_10 (a b:Int) (h0:0≤a) (h1:a < 4294967296) (h2:0≤b) (h3:b < 4294967296) (w:World) :
    Calls Tryz.prog 120 #[.int .i64 10,.int .u32 a,.int .u32 b] w fun e w'=>e=.returned (.tuple #[.int .u32 (bits .xor .u32 a b),.bool true])∧w=w':=by
  go_enter Tryz.func120,Tryz.ntmps120
  go_wp2
  go_ret2
  exact ⟨rfl,rfl⟩
theorem do_11 (a b:Int) (h0:0≤a) (h1:a < 4294967296) (h2:0≤b) (h3:b < 4294967296) (w:World) :
    Calls Tryz.prog 120 #[.int .i64 11,.int .u32 a,.int .u32 b] w fun e w'=>e=.returned (.tuple #[.int .u32 (a * 2 ^ (b % 32).toNat % 4294967296),.bool true])∧w=w':=by
  go_enter Tryz.func120,Tryz.ntmps120
  go_wp2
  go_ret2
  exact ⟨rfl,rfl⟩
theorem do_12 (a b:Int) (h0:0≤a) (h1:a < 4294967296) (h2:0≤b) (h3:b < 4294967296) (w:World) :
    Calls Tryz.prog 120 #[.int .i64 12,.int .u32 a,.int .u32 b] w fun e w'=>e=.returned (.tuple #[.int .u32 (a / 2 ^ (b % 32).toNat),.bool true])∧w=w':=by
  go_enter Tryz.func120,Tryz.ntmps120
  go_wp2
  go_ret2
  exact ⟨rfl,rfl⟩
theorem do_13y (a b:Int) (h0:0≤a) (h1:a < 4294967296) (h2:0≤b) (h3:b < 4294967296) (hl:wrap32 a < wrap32 b) (w:World) :
    Calls Tryz.prog 120 #[.int .i64 13,.int .u32 a,.int .u32 b] w fun e w'=>e=.returned (.tuple #[.int .u32 (1),.bool true])∧w=w':=by
  go_enter Tryz.func120,Tryz.ntmps120
  go_wp2_with (go_at_call 134;refine (truth_any _ _).mono ?_;rintro e w' ⟨rfl,rfl⟩)
  go_ret2
  exact ⟨rfl,rfl⟩
theorem do_13n (a b:Int) (h0:0≤a) (h1:a < 4294967296) (h2:0≤b) (h3:b < 4294967296) (hl:wrap32 b≤wrap32 a) (w:World) :
    Calls Tryz.prog 120 #[.int .i64 13,.int .u32 a,.int .u32 b] w fun e w'=>e=.returned (.tuple #[.int .u32 (0),.bool true])∧w=w':=by
  go_enter Tryz.func120,Tryz.ntmps120
  go_wp2_with (go_at_call 134;refine (truth_any _ _).mono ?_;rintro e w' ⟨rfl,rfl⟩)
  go_ret2
  exact ⟨rfl,rfl⟩
theorem do_14n (a b:Int) (h0:0≤a) (h1:a < 4294967296) (h2:0≤b) (h3:b < 4294967296) (hl:(a == b)=false) (w:World) :
    Calls Tryz.prog 120 #[.int .i64 14,.int .u32 a,.int .u32 b] w fun e w'=>e=.returned (.tuple #[.int .u32 (0),.bool true])∧w=w':=by
  go_enter Tryz.func120,Tryz.ntmps120
  go_wp2_with (go_at_call 134;refine (truth_any _ _).mono ?_;rintro e w' ⟨rfl,rfl⟩)
  go_ret2
  exact ⟨rfl,rfl⟩
theorem do_14y (a:Int) (h0:0≤a) (h1:a < 4294967296) (w:World) :
    Calls Tryz.prog 120 #[.int .i64 14,.int .u32 a,.int .u32 a] w fun e w'=>e=.returned (.tuple #[.int .u32 1,.bool true])∧w=w':=by
  go_enter Tryz.func120,Tryz.ntmps120
  go_wp2_with (go_at_call 134;refine (truth_any _ _).mono ?_;rintro e w' ⟨rfl,rfl⟩)
  go_ret2
  exact ⟨rfl,rfl⟩
theorem do_none (op a b:Int) (h:op < 3∨14 < op) (w:World) :
    Calls Tryz.prog 120 #[.int .i64 op,.int .u32 a,.int .u32 b] w fun e w'=>e=.returned (.tuple #[.int .u32 0,.bool false])∧w=w':=by
  go_enter Tryz.func120,Tryz.ntmps120
  go_wp2
  go_ret2
  exact ⟨rfl,rfl⟩
theorem do_any (op a b:Int) (h0:0≤a) (h1:a < 4294967296) (h2:0≤b) (h3:b < 4294967296) (w:World) :
    Calls Tryz.prog 120 #[.int .i64 op,.int .u32 a,.int .u32 b] w fun e w'=>e=.returned (.tuple #[.int .u32 (doV op a b),.bool (doK op b)])∧w=w':=by
  by_cases hr:op < 3∨14 < op
  · refine (do_none op a b hr w).mono ?_
    rintro e w' ⟨rfl,rfl⟩
    exact ⟨ret_ib (doV_none op a b hr).symm (doK_none op b hr).symm,rfl⟩
  have hop:op=3∨op=4∨op=5∨op=6∨op=7∨op=8∨op=9∨op=10∨op=11∨op=12∨op=13∨op=14:=by omega
  clear hr
  rcases hop with rfl | rfl | rfl | rfl | rfl | rfl | rfl | rfl | rfl | rfl | rfl | rfl
  · refine (do_3 a b h0 h1 h2 h3 w).mono ?_;rintro e w' ⟨rfl,rfl⟩;exact ⟨ret_ib ((doV_e3 _ _).symm) (doK_e _ _ (by omega)).symm,rfl⟩
  · refine (do_4 a b h0 h1 h2 h3 w).mono ?_;rintro e w' ⟨rfl,rfl⟩;exact ⟨ret_ib ((doV_e4 _ _).symm) (doK_e _ _ (by omega)).symm,rfl⟩
  · refine (do_5 a b h0 h1 h2 h3 w).mono ?_;rintro e w' ⟨rfl,rfl⟩;exact ⟨ret_ib ((doV_e5 _ _).symm) (doK_e _ _ (by omega)).symm,rfl⟩
  · by_cases hb:b=0
    · subst hb;refine (do_6z a h0 h1 w).mono ?_;rintro e w' ⟨rfl,rfl⟩;exact ⟨ret_ib (doV_e6z _).symm (doK_e6z _ (by omega)).symm,rfl⟩
    · refine (do_6 a b h0 h1 h2 h3 (beq_eq_false_iff_ne.2 hb) (fun h=>hb ((wrap32_zero b h2 h3).1 h)) w).mono ?_;rintro e w' ⟨rfl,rfl⟩
      exact ⟨ret_ib (doV_e6 _ _ hb).symm (doK_e6 _ _ (by omega) hb).symm,rfl⟩
  · by_cases hb:b=0
    · subst hb;refine (do_7z a h0 h1 w).mono ?_;rintro e w' ⟨rfl,rfl⟩;exact ⟨ret_ib (doV_e7z _).symm (doK_e6z _ (by omega)).symm,rfl⟩
    · refine (do_7 a b h0 h1 h2 h3 (beq_eq_false_iff_ne.2 hb) (fun h=>hb ((wrap32_zero b h2 h3).1 h)) w).mono ?_;rintro e w' ⟨rfl,rfl⟩
      exact ⟨ret_ib (doV_e7 _ _ hb).symm (doK_e6 _ _ (by omega) hb).symm,rfl⟩
  · refine (do_8 a b h0 h1 h2 h3 w).mono ?_;rintro e w' ⟨rfl,rfl⟩;exact ⟨ret_ib ((u32_and a b h0 h1 h2 h3).trans (doV_e8 _ _).symm) (doK_e _ _ (by omega)).symm,rfl⟩
  · refine (do_9 a b h0 h1 h2 h3 w).mono ?_;rintro e w' ⟨rfl,rfl⟩;exact ⟨ret_ib ((u32_or a b h0 h1 h2 h3).trans (doV_e9 _ _).symm) (doK_e _ _ (by omega)).symm,rfl⟩
  · refine (do_10 a b h0 h1 h2 h3 w).mono ?_;rintro e w' ⟨rfl,rfl⟩;exact ⟨ret_ib ((u32_xor a b h0 h1 h2 h3).trans (doV_e10 _ _).symm) (doK_e _ _ (by omega)).symm,rfl⟩
  · refine (do_11 a b h0 h1 h2 h3 w).mono ?_;rintro e w' ⟨rfl,rfl⟩;exact ⟨ret_ib ((doV_e11 _ _).symm) (doK_e _ _ (by omega)).symm,rfl⟩
  · refine (do_12 a b h0 h1 h2 h3 w).mono ?_;rintro e w' ⟨rfl,rfl⟩;exact ⟨ret_ib ((doV_e12 _ _).symm) (doK_e _ _ (by omega)).symm,rfl⟩
  · by_cases hl:wrap32 a < wrap32 b
    · refine (do_13y a b h0 h1 h2 h3 hl w).mono ?_;rintro e w' ⟨rfl,rfl⟩;exact ⟨ret_ib (by rw [doV_e13,if_pos hl]) (doK_e _ _ (by omega)).symm,rfl⟩
    · refine (do_13n a b h0 h1 h2 h3 (by omega) w).mono ?_;rintro e w' ⟨rfl,rfl⟩;exact ⟨ret_ib (by rw [doV_e13,if_neg hl]) (doK_e _ _ (by omega)).symm,rfl⟩
  · by_cases hl:a=b
    · subst hl;refine (do_14y a h0 h1 w).mono ?_;rintro e w' ⟨rfl,rfl⟩;exact ⟨ret_ib (by rw [doV_e14,if_pos rfl]) (doK_e _ _ (by omega)).symm,rfl⟩
    · refine (do_14n a b h0 h1 h2 h3 (beq_eq_false_iff_ne.2 hl) w).mono ?_;rintro e w' ⟨rfl,rfl⟩;exact ⟨ret_ib (by rw [doV_e14,if_neg hl]) (doK_e _ _ (by omega)).symm,rfl⟩
end Go.Proofs.YteefmjhemhlapaaGreat
