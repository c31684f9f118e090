/- Merged by wip/tools/regroup: IsaRef, IsaRefLay, IsaRefRead. -/
import Derived.Test.YteefmjhemhlapaaGreatVIsB
namespace Go.Proofs.YteefmjhemhlapaaGreat
open Go.ChangeShapes Go.WideShapes Go.ChangeAt Go.RowKit
set_option linter.unusedVariables false
set_option maxRecDepth 10000
def szR (op:Int):Int:=if op=0∨op=23 then 1 else if op=1∨op=20 then 6 else if op=19 then 5 else if 2≤op∧op≤22 then 2 else 0
theorem szR_eq (op:Int):szR op=szO op:=by
  by_cases h:0≤op∧op≤23
  · obtain ⟨n,rfl⟩:∃ n:Nat,op=n:=⟨op.toNat,by omega⟩
    have hn:n < 24:=by omega
    clear h
    revert n
    decide
  · rw [szO_no h]
    unfold szR
    rw [if_neg (by omega),if_neg (by omega),if_neg (by omega),if_neg (by omega)]
theorem rSize_any (op:Int) (w:World):Calls Tryz.prog 82 #[.int .i64 op] w fun e w'=>e=.returned (.int .i64 (szO op))∧w=w':=by
  rw [← szR_eq]
  go_enter Tryz.func82,Tryz.ntmps82
  go_wp2
  all_goals (go_ret;exact ⟨ret_int (by (try simp only [beq_iff_eq,beq_eq_false_iff_ne] at *);unfold szR;(repeat first | rw [if_pos (by omega)] | rw [if_neg (by omega)])),rfl⟩)
def twoB (op:Int):Bool:=decide (2≤op∧op≤16)
theorem two_any (op:Int) (w:World):Calls Tryz.prog 113 #[.int .i64 op] w fun e w'=>e=.returned (.bool (twoB op))∧w=w':=by
  by_cases h:2≤op
  · go_enter Tryz.func113,Tryz.ntmps113
    go_wp2
    go_ret
    exact ⟨ret_bool (by unfold twoB;simp [h]),rfl⟩
  · go_enter Tryz.func113,Tryz.ntmps113
    go_wp2
    go_ret
    exact ⟨ret_bool (by unfold twoB;simp;omega),rfl⟩
theorem rightB_of {op fa fb fn m:Int} (h:0≤op∧op≤23) (e1:fA op=fa) (e2:fB op=fb) (e3:fN op=fn) (e4:(256:Int) ^ fn.toNat=m) (a b imm:Int) :
    rightB op a b imm=decide (0≤a∧a≤fa∧0≤b∧b≤fb∧imm < m):=by
  unfold rightB fK fitsB
  rw [decide_eq_true h,e1,e2,e3,e4,Bool.true_and]
theorem right_two {op:Int} (h:2≤op∧op≤16) (a b imm:Int):rightB op a b imm=decide (0≤a∧a≤7∧0≤b∧b≤7∧imm < 1):=
  rightB_of (by omega) (by unfold fA;rw [if_pos (by omega)]) (by unfold fB;rw [if_pos (by omega)]) (by unfold fN;rw [if_neg (by omega),if_neg (by omega)]) (by rfl) a b imm
theorem right_none {op:Int} (h:op < 0∨23 < op) (a b imm:Int):rightB op a b imm=false:=by
  unfold rightB fK
  rw [decide_eq_false (by omega),Bool.false_and]
set_option maxHeartbeats 8000000 in
theorem rRight_two (op a b imm:Int) (h:2≤op∧op≤16) (h0:0≤imm) (h1:imm < 4294967296) (w:World) :
    Calls Tryz.prog 93 #[.agg #[.int .i64 op,.int .i64 a,.int .i64 b,.int .u32 imm]] w fun e w'=>e=.returned (.bool (rightB op a b imm))∧Below w.heap.size w w':=by
  have ht:twoB op=true:=decide_eq_true h
  have hs:szO op=2:=by rw [← szR_eq];unfold szR;rw [if_neg (by omega),if_neg (by omega),if_neg (by omega),if_pos (by omega)]
  have c1:=two_any op
  have c2:=rSize_any op
  rw [ht] at c1
  rw [hs] at c2
  have C1:=Lib.hid c1;clear c1
  have C2:=Lib.hid c2;clear c2 ht hs
  have hc:(0≤a∧a≤7∧0≤b∧b≤7)∨(0≤a∧a≤7∧0≤b∧¬ b≤7)∨(0≤a∧a≤7∧¬ 0≤b)∨(0≤a∧¬ a≤7)∨¬ 0≤a:=by omega
  have HR:=Lib.hid (right_two h a b imm)
  obtain ⟨p0,p1⟩:=h
  have q1:(op == 1)=false:=by simp;omega
  have q17:(op == 17)=false:=by simp;omega
  have q18:(op == 18)=false:=by simp;omega
  have q19:(op == 19)=false:=by simp;omega
  have q20:(op == 20)=false:=by simp;omega
  have q21:(op == 21)=false:=by simp;omega
  have q22:(op == 22)=false:=by simp;omega
  rcases hc with ⟨c1,c2,c3,c4⟩ | ⟨c1,c2,c3,c4⟩ | ⟨c1,c2,c3⟩ | ⟨c1,c2⟩ | c1
  all_goals
    go_enter Tryz.func93,Tryz.ntmps93
    go_wp2_with (first | (go_at_call 113;refine (C1.out _).mono ?_;rintro e w' ⟨rfl,rfl⟩) | (go_at_call 82;refine (C2.out _).mono ?_;rintro e w' ⟨rfl,rfl⟩))
  all_goals
    go_ret
    refine ⟨ret_bool ?_,bel_al (Below.refl _ _) _⟩
    rw [HR.out]
    (try simp only [bne_iff_ne,ne_eq,bne_eq_false_iff_eq] at *)
    first
      | (symm;rw [decide_eq_true_iff];omega)
      | (symm;rw [decide_eq_false_iff_not];omega)
      | (rw [Bool.eq_iff_iff];simp;omega)
set_option maxHeartbeats 8000000 in
theorem rRight_none (op a b imm:Int) (h:op < 0∨23 < op) (h0:0≤imm) (h1:imm < 4294967296) (w:World) :
    Calls Tryz.prog 93 #[.agg #[.int .i64 op,.int .i64 a,.int .i64 b,.int .u32 imm]] w fun e w'=>e=.returned (.bool (rightB op a b imm))∧Below w.heap.size w w':=by
  have ht:twoB op=false:=decide_eq_false (by omega)
  have hs:szO op=0:=szO_no (by omega)
  have c1:=two_any op
  have c2:=rSize_any op
  rw [ht] at c1
  rw [hs] at c2
  have C1:=Lib.hid c1;clear c1
  have C2:=Lib.hid c2;clear c2 ht hs
  have HR:=Lib.hid (right_none h a b imm)
  have q1:(op == 1)=false:=by simp;omega
  have q17:(op == 17)=false:=by simp;omega
  have q18:(op == 18)=false:=by simp;omega
  have q19:(op == 19)=false:=by simp;omega
  have q20:(op == 20)=false:=by simp;omega
  have q21:(op == 21)=false:=by simp;omega
  have q22:(op == 22)=false:=by simp;omega
  go_enter Tryz.func93,Tryz.ntmps93
  go_wp2_with (first | (go_at_call 113;refine (C1.out _).mono ?_;rintro e w' ⟨rfl,rfl⟩) | (go_at_call 82;refine (C2.out _).mono ?_;rintro e w' ⟨rfl,rfl⟩))
  go_ret
  exact ⟨ret_bool HR.out.symm,bel_al (Below.refl _ _) _⟩
set_option maxHeartbeats 8000000 in
theorem rRight_0 (a b imm:Int) (h0:0≤imm) (h1:imm < 4294967296) (w:World) :
    Calls Tryz.prog 93 #[.agg #[.int .i64 0,.int .i64 a,.int .i64 b,.int .u32 imm]] w fun e w'=>e=.returned (.bool (rightB 0 a b imm))∧Below w.heap.size w w':=by
  have c1:=two_any 0
  have c2:=rSize_any 0
  rw [show twoB 0=false by decide] at c1
  rw [show szO 0=1 by decide] at c2
  have C1:=Lib.hid c1;clear c1
  have C2:=Lib.hid c2;clear c2
  have hc:(0≤a∧a≤7∧0≤b∧b≤7)∨(0≤a∧a≤7∧0≤b∧¬ b≤7)∨(0≤a∧a≤7∧¬ 0≤b)∨(0≤a∧¬ a≤7)∨¬ 0≤a:=by omega
  have HR:=Lib.hid (rightB_of (op:=0) (fa:=0) (fb:=0) (fn:=0) (m:=1) (by decide) (by decide) (by decide) (by decide) (by decide) a b imm)
  rcases hc with ⟨c1,c2,c3,c4⟩ | ⟨c1,c2,c3,c4⟩ | ⟨c1,c2,c3⟩ | ⟨c1,c2⟩ | c1
  all_goals
    go_enter Tryz.func93,Tryz.ntmps93
    go_wp2_with (first | (go_at_call 113;refine (C1.out _).mono ?_;rintro e w' ⟨rfl,rfl⟩) | (go_at_call 82;refine (C2.out _).mono ?_;rintro e w' ⟨rfl,rfl⟩))
  all_goals
    go_ret
    refine ⟨ret_bool ?_,bel_al (Below.refl _ _) _⟩
    rw [HR.out]
    (try simp only [bne_iff_ne,ne_eq,bne_eq_false_iff_eq] at *)
    first
      | (symm;rw [decide_eq_true_iff];omega)
      | (symm;rw [decide_eq_false_iff_not];omega)
      | (rw [Bool.eq_iff_iff];simp;omega)
set_option maxHeartbeats 8000000 in
theorem rRight_1 (a b imm:Int) (h0:0≤imm) (h1:imm < 4294967296) (w:World) :
    Calls Tryz.prog 93 #[.agg #[.int .i64 1,.int .i64 a,.int .i64 b,.int .u32 imm]] w fun e w'=>e=.returned (.bool (rightB 1 a b imm))∧Below w.heap.size w w':=by
  have c1:=two_any 1
  have c2:=rSize_any 1
  rw [show twoB 1=false by decide] at c1
  rw [show szO 1=6 by decide] at c2
  have C1:=Lib.hid c1;clear c1
  have C2:=Lib.hid c2;clear c2
  have hc:(0≤a∧a≤7∧0≤b∧b≤7)∨(0≤a∧a≤7∧0≤b∧¬ b≤7)∨(0≤a∧a≤7∧¬ 0≤b)∨(0≤a∧¬ a≤7)∨¬ 0≤a:=by omega
  have HR:=Lib.hid (rightB_of (op:=1) (fa:=7) (fb:=0) (fn:=4) (m:=4294967296) (by decide) (by decide) (by decide) (by decide) (by decide) a b imm)
  rcases hc with ⟨c1,c2,c3,c4⟩ | ⟨c1,c2,c3,c4⟩ | ⟨c1,c2,c3⟩ | ⟨c1,c2⟩ | c1
  all_goals
    go_enter Tryz.func93,Tryz.ntmps93
    go_wp2_with (first | (go_at_call 113;refine (C1.out _).mono ?_;rintro e w' ⟨rfl,rfl⟩) | (go_at_call 82;refine (C2.out _).mono ?_;rintro e w' ⟨rfl,rfl⟩))
  all_goals
    go_ret
    refine ⟨ret_bool ?_,bel_al (Below.refl _ _) _⟩
    rw [HR.out]
    (try simp only [bne_iff_ne,ne_eq,bne_eq_false_iff_eq] at *)
    first
      | (symm;rw [decide_eq_true_iff];omega)
      | (symm;rw [decide_eq_false_iff_not];omega)
      | (rw [Bool.eq_iff_iff];simp;omega)
set_option maxHeartbeats 8000000 in
theorem rRight_17 (a b imm:Int) (h0:0≤imm) (h1:imm < 4294967296) (w:World) :
    Calls Tryz.prog 93 #[.agg #[.int .i64 17,.int .i64 a,.int .i64 b,.int .u32 imm]] w fun e w'=>e=.returned (.bool (rightB 17 a b imm))∧Below w.heap.size w w':=by
  have c1:=two_any 17
  have c2:=rSize_any 17
  rw [show twoB 17=false by decide] at c1
  rw [show szO 17=2 by decide] at c2
  have C1:=Lib.hid c1;clear c1
  have C2:=Lib.hid c2;clear c2
  have hc:(0≤a∧a≤7∧0≤b∧b≤7)∨(0≤a∧a≤7∧0≤b∧¬ b≤7)∨(0≤a∧a≤7∧¬ 0≤b)∨(0≤a∧¬ a≤7)∨¬ 0≤a:=by omega
  have HR:=Lib.hid (rightB_of (op:=17) (fa:=7) (fb:=0) (fn:=0) (m:=1) (by decide) (by decide) (by decide) (by decide) (by decide) a b imm)
  rcases hc with ⟨c1,c2,c3,c4⟩ | ⟨c1,c2,c3,c4⟩ | ⟨c1,c2,c3⟩ | ⟨c1,c2⟩ | c1
  all_goals
    go_enter Tryz.func93,Tryz.ntmps93
    go_wp2_with (first | (go_at_call 113;refine (C1.out _).mono ?_;rintro e w' ⟨rfl,rfl⟩) | (go_at_call 82;refine (C2.out _).mono ?_;rintro e w' ⟨rfl,rfl⟩))
  all_goals
    go_ret
    refine ⟨ret_bool ?_,bel_al (Below.refl _ _) _⟩
    rw [HR.out]
    (try simp only [bne_iff_ne,ne_eq,bne_eq_false_iff_eq] at *)
    first
      | (symm;rw [decide_eq_true_iff];omega)
      | (symm;rw [decide_eq_false_iff_not];omega)
      | (rw [Bool.eq_iff_iff];simp;omega)
set_option maxHeartbeats 8000000 in
theorem rRight_18 (a b imm:Int) (h0:0≤imm) (h1:imm < 4294967296) (w:World) :
    Calls Tryz.prog 93 #[.agg #[.int .i64 18,.int .i64 a,.int .i64 b,.int .u32 imm]] w fun e w'=>e=.returned (.bool (rightB 18 a b imm))∧Below w.heap.size w w':=by
  have c1:=two_any 18
  have c2:=rSize_any 18
  rw [show twoB 18=false by decide] at c1
  rw [show szO 18=2 by decide] at c2
  have C1:=Lib.hid c1;clear c1
  have C2:=Lib.hid c2;clear c2
  have hc:(0≤a∧a≤7∧0≤b∧b≤7)∨(0≤a∧a≤7∧0≤b∧¬ b≤7)∨(0≤a∧a≤7∧¬ 0≤b)∨(0≤a∧¬ a≤7)∨¬ 0≤a:=by omega
  have HR:=Lib.hid (rightB_of (op:=18) (fa:=7) (fb:=0) (fn:=0) (m:=1) (by decide) (by decide) (by decide) (by decide) (by decide) a b imm)
  rcases hc with ⟨c1,c2,c3,c4⟩ | ⟨c1,c2,c3,c4⟩ | ⟨c1,c2,c3⟩ | ⟨c1,c2⟩ | c1
  all_goals
    go_enter Tryz.func93,Tryz.ntmps93
    go_wp2_with (first | (go_at_call 113;refine (C1.out _).mono ?_;rintro e w' ⟨rfl,rfl⟩) | (go_at_call 82;refine (C2.out _).mono ?_;rintro e w' ⟨rfl,rfl⟩))
  all_goals
    go_ret
    refine ⟨ret_bool ?_,bel_al (Below.refl _ _) _⟩
    rw [HR.out]
    (try simp only [bne_iff_ne,ne_eq,bne_eq_false_iff_eq] at *)
    first
      | (symm;rw [decide_eq_true_iff];omega)
      | (symm;rw [decide_eq_false_iff_not];omega)
      | (rw [Bool.eq_iff_iff];simp;omega)
set_option maxHeartbeats 8000000 in
theorem rRight_19 (a b imm:Int) (h0:0≤imm) (h1:imm < 4294967296) (w:World) :
    Calls Tryz.prog 93 #[.agg #[.int .i64 19,.int .i64 a,.int .i64 b,.int .u32 imm]] w fun e w'=>e=.returned (.bool (rightB 19 a b imm))∧Below w.heap.size w w':=by
  have c1:=two_any 19
  have c2:=rSize_any 19
  rw [show twoB 19=false by decide] at c1
  rw [show szO 19=5 by decide] at c2
  have C1:=Lib.hid c1;clear c1
  have C2:=Lib.hid c2;clear c2
  have hc:(0≤a∧a≤7∧0≤b∧b≤7)∨(0≤a∧a≤7∧0≤b∧¬ b≤7)∨(0≤a∧a≤7∧¬ 0≤b)∨(0≤a∧¬ a≤7)∨¬ 0≤a:=by omega
  have HR:=Lib.hid (rightB_of (op:=19) (fa:=0) (fb:=0) (fn:=4) (m:=4294967296) (by decide) (by decide) (by decide) (by decide) (by decide) a b imm)
  rcases hc with ⟨c1,c2,c3,c4⟩ | ⟨c1,c2,c3,c4⟩ | ⟨c1,c2,c3⟩ | ⟨c1,c2⟩ | c1
  all_goals
    go_enter Tryz.func93,Tryz.ntmps93
    go_wp2_with (first | (go_at_call 113;refine (C1.out _).mono ?_;rintro e w' ⟨rfl,rfl⟩) | (go_at_call 82;refine (C2.out _).mono ?_;rintro e w' ⟨rfl,rfl⟩))
  all_goals
    go_ret
    refine ⟨ret_bool ?_,bel_al (Below.refl _ _) _⟩
    rw [HR.out]
    (try simp only [bne_iff_ne,ne_eq,bne_eq_false_iff_eq] at *)
    first
      | (symm;rw [decide_eq_true_iff];omega)
      | (symm;rw [decide_eq_false_iff_not];omega)
      | (rw [Bool.eq_iff_iff];simp;omega)
set_option maxHeartbeats 8000000 in
theorem rRight_20 (a b imm:Int) (h0:0≤imm) (h1:imm < 4294967296) (w:World) :
    Calls Tryz.prog 93 #[.agg #[.int .i64 20,.int .i64 a,.int .i64 b,.int .u32 imm]] w fun e w'=>e=.returned (.bool (rightB 20 a b imm))∧Below w.heap.size w w':=by
  have c1:=two_any 20
  have c2:=rSize_any 20
  rw [show twoB 20=false by decide] at c1
  rw [show szO 20=6 by decide] at c2
  have C1:=Lib.hid c1;clear c1
  have C2:=Lib.hid c2;clear c2
  have hc:(0≤a∧a≤7∧0≤b∧b≤7)∨(0≤a∧a≤7∧0≤b∧¬ b≤7)∨(0≤a∧a≤7∧¬ 0≤b)∨(0≤a∧¬ a≤7)∨¬ 0≤a:=by omega
  have HR:=Lib.hid (rightB_of (op:=20) (fa:=7) (fb:=0) (fn:=4) (m:=4294967296) (by decide) (by decide) (by decide) (by decide) (by decide) a b imm)
  rcases hc with ⟨c1,c2,c3,c4⟩ | ⟨c1,c2,c3,c4⟩ | ⟨c1,c2,c3⟩ | ⟨c1,c2⟩ | c1
  all_goals
    go_enter Tryz.func93,Tryz.ntmps93
    go_wp2_with (first | (go_at_call 113;refine (C1.out _).mono ?_;rintro e w' ⟨rfl,rfl⟩) | (go_at_call 82;refine (C2.out _).mono ?_;rintro e w' ⟨rfl,rfl⟩))
  all_goals
    go_ret
    refine ⟨ret_bool ?_,bel_al (Below.refl _ _) _⟩
    rw [HR.out]
    (try simp only [bne_iff_ne,ne_eq,bne_eq_false_iff_eq] at *)
    first
      | (symm;rw [decide_eq_true_iff];omega)
      | (symm;rw [decide_eq_false_iff_not];omega)
      | (rw [Bool.eq_iff_iff];simp;omega)
set_option maxHeartbeats 8000000 in
theorem rRight_21 (a b imm:Int) (h0:0≤imm) (h1:imm < 4294967296) (w:World) :
    Calls Tryz.prog 93 #[.agg #[.int .i64 21,.int .i64 a,.int .i64 b,.int .u32 imm]] w fun e w'=>e=.returned (.bool (rightB 21 a b imm))∧Below w.heap.size w w':=by
  have c1:=two_any 21
  have c2:=rSize_any 21
  rw [show twoB 21=false by decide] at c1
  rw [show szO 21=2 by decide] at c2
  have C1:=Lib.hid c1;clear c1
  have C2:=Lib.hid c2;clear c2
  have hc:(0≤a∧a≤7∧0≤b∧b≤7)∨(0≤a∧a≤7∧0≤b∧¬ b≤7)∨(0≤a∧a≤7∧¬ 0≤b)∨(0≤a∧¬ a≤7)∨¬ 0≤a:=by omega
  have HR:=Lib.hid (rightB_of (op:=21) (fa:=7) (fb:=0) (fn:=0) (m:=1) (by decide) (by decide) (by decide) (by decide) (by decide) a b imm)
  rcases hc with ⟨c1,c2,c3,c4⟩ | ⟨c1,c2,c3,c4⟩ | ⟨c1,c2,c3⟩ | ⟨c1,c2⟩ | c1
  all_goals
    go_enter Tryz.func93,Tryz.ntmps93
    go_wp2_with (first | (go_at_call 113;refine (C1.out _).mono ?_;rintro e w' ⟨rfl,rfl⟩) | (go_at_call 82;refine (C2.out _).mono ?_;rintro e w' ⟨rfl,rfl⟩))
  all_goals
    go_ret
    refine ⟨ret_bool ?_,bel_al (Below.refl _ _) _⟩
    rw [HR.out]
    (try simp only [bne_iff_ne,ne_eq,bne_eq_false_iff_eq] at *)
    first
      | (symm;rw [decide_eq_true_iff];omega)
      | (symm;rw [decide_eq_false_iff_not];omega)
      | (rw [Bool.eq_iff_iff];simp;omega)
set_option maxHeartbeats 8000000 in
theorem rRight_22 (a b imm:Int) (h0:0≤imm) (h1:imm < 4294967296) (w:World) :
    Calls Tryz.prog 93 #[.agg #[.int .i64 22,.int .i64 a,.int .i64 b,.int .u32 imm]] w fun e w'=>e=.returned (.bool (rightB 22 a b imm))∧Below w.heap.size w w':=by
  have c1:=two_any 22
  have c2:=rSize_any 22
  rw [show twoB 22=false by decide] at c1
  rw [show szO 22=2 by decide] at c2
  have C1:=Lib.hid c1;clear c1
  have C2:=Lib.hid c2;clear c2
  have hc:(0≤a∧a≤7∧0≤b∧b≤7)∨(0≤a∧a≤7∧0≤b∧¬ b≤7)∨(0≤a∧a≤7∧¬ 0≤b)∨(0≤a∧¬ a≤7)∨¬ 0≤a:=by omega
  have HR:=Lib.hid (rightB_of (op:=22) (fa:=0) (fb:=0) (fn:=1) (m:=256) (by decide) (by decide) (by decide) (by decide) (by decide) a b imm)
  rcases hc with ⟨c1,c2,c3,c4⟩ | ⟨c1,c2,c3,c4⟩ | ⟨c1,c2,c3⟩ | ⟨c1,c2⟩ | c1
  all_goals
    go_enter Tryz.func93,Tryz.ntmps93
    go_wp2_with (first | (go_at_call 113;refine (C1.out _).mono ?_;rintro e w' ⟨rfl,rfl⟩) | (go_at_call 82;refine (C2.out _).mono ?_;rintro e w' ⟨rfl,rfl⟩))
  all_goals
    go_ret
    refine ⟨ret_bool ?_,bel_al (Below.refl _ _) _⟩
    rw [HR.out]
    (try simp only [bne_iff_ne,ne_eq,bne_eq_false_iff_eq] at *)
    first
      | (symm;rw [decide_eq_true_iff];omega)
      | (symm;rw [decide_eq_false_iff_not];omega)
      | (rw [Bool.eq_iff_iff];simp;omega)
set_option maxHeartbeats 8000000 in
theorem rRight_23 (a b imm:Int) (h0:0≤imm) (h1:imm < 4294967296) (w:World) :
    Calls Tryz.prog 93 #[.agg #[.int .i64 23,.int .i64 a,.int .i64 b,.int .u32 imm]] w fun e w'=>e=.returned (.bool (rightB 23 a b imm))∧Below w.heap.size w w':=by
  have c1:=two_any 23
  have c2:=rSize_any 23
  rw [show twoB 23=false by decide] at c1
  rw [show szO 23=1 by decide] at c2
  have C1:=Lib.hid c1;clear c1
  have C2:=Lib.hid c2;clear c2
  have hc:(0≤a∧a≤7∧0≤b∧b≤7)∨(0≤a∧a≤7∧0≤b∧¬ b≤7)∨(0≤a∧a≤7∧¬ 0≤b)∨(0≤a∧¬ a≤7)∨¬ 0≤a:=by omega
  have HR:=Lib.hid (rightB_of (op:=23) (fa:=0) (fb:=0) (fn:=0) (m:=1) (by decide) (by decide) (by decide) (by decide) (by decide) a b imm)
  rcases hc with ⟨c1,c2,c3,c4⟩ | ⟨c1,c2,c3,c4⟩ | ⟨c1,c2,c3⟩ | ⟨c1,c2⟩ | c1
  all_goals
    go_enter Tryz.func93,Tryz.ntmps93
    go_wp2_with (first | (go_at_call 113;refine (C1.out _).mono ?_;rintro e w' ⟨rfl,rfl⟩) | (go_at_call 82;refine (C2.out _).mono ?_;rintro e w' ⟨rfl,rfl⟩))
  all_goals
    go_ret
    refine ⟨ret_bool ?_,bel_al (Below.refl _ _) _⟩
    rw [HR.out]
    (try simp only [bne_iff_ne,ne_eq,bne_eq_false_iff_eq] at *)
    first
      | (symm;rw [decide_eq_true_iff];omega)
      | (symm;rw [decide_eq_false_iff_not];omega)
      | (rw [Bool.eq_iff_iff];simp;omega)
theorem op_cases (op:Int):(2≤op∧op≤16)∨(op < 0∨23 < op)∨op=0∨op=1∨op=17∨op=18∨op=19∨op=20∨op=21∨op=22∨op=23:=by omega
theorem rRight_any (op a b imm:Int) (h0:0≤imm) (h1:imm < 4294967296) (w:World) :
    Calls Tryz.prog 93 #[.agg #[.int .i64 op,.int .i64 a,.int .i64 b,.int .u32 imm]] w fun e w'=>e=.returned (.bool (rightB op a b imm))∧Below w.heap.size w w':=by
  rcases op_cases op with h | h | rfl | rfl | rfl | rfl | rfl | rfl | rfl | rfl | rfl
  · exact rRight_two op a b imm h h0 h1 w
  · exact rRight_none op a b imm h h0 h1 w
  · exact rRight_0 a b imm h0 h1 w
  · exact rRight_1 a b imm h0 h1 w
  · exact rRight_17 a b imm h0 h1 w
  · exact rRight_18 a b imm h0 h1 w
  · exact rRight_19 a b imm h0 h1 w
  · exact rRight_20 a b imm h0 h1 w
  · exact rRight_21 a b imm h0 h1 w
  · exact rRight_22 a b imm h0 h1 w
  · exact rRight_23 a b imm h0 h1 w
end Go.Proofs.YteefmjhemhlapaaGreat
namespace Go.Proofs.YteefmjhemhlapaaGreat
open Go.ChangeShapes Go.WideShapes Go.ChangeAt Go.RowKit
set_option linter.unusedVariables false
set_option maxRecDepth 10000
end Go.Proofs.YteefmjhemhlapaaGreat
namespace Go.Proofs.YteefmjhemhlapaaGreat
open Go.ChangeShapes Go.WideShapes Go.ChangeAt Go.RowKit
set_option linter.unusedVariables false
set_option maxRecDepth 10000
theorem rRead_out (l:List Int) (A:Option Addr) (cap:Nat) (k:Int) (hl:l.length≤20000) (h:k < 0∨(l.length:Int)≤k) (w:World) :
    Calls Tryz.prog 81 #[.slice A l.length cap,.int .i64 k] w fun e w'=>e=.returned noIns∧Below w.heap.size w w':=by
  by_cases hk:k < 0
  · go_enter Tryz.func81,Tryz.ntmps81
    go_wp2_with fail
    exact bodyPost_ret (v:=noIns) (by simp [results,Tryz.results81,go_sem];rfl) rfl ⟨rfl,bel_al (Below.refl _ _) _⟩
  · have hk0:0≤k:=by omega
    have hk1:(l.length:Int)≤k:=by omega
    go_enter Tryz.func81,Tryz.ntmps81
    go_wp2_with fail
    exact bodyPost_ret (v:=noIns) (by simp [results,Tryz.results81,go_sem];rfl) rfl ⟨rfl,bel_al (Below.refl _ _) _⟩
theorem rRead_short (op sz:Int) (x:Addr) (len cap k:Nat) (hl:len≤20000) (hk:k < len) (h0:0≤op) (h1:op≤255) (hs0:0≤sz) (hs1:sz≤6) (w:World) (hx:x.block < w.heap.size) (hc:w.cell? (x.add k)=some (.int .u8 op))
    (hs:(sz == 0)=true∨((sz == 0)=false∧(len:Int) < k+sz)) (c2:∀ w,Calls Tryz.prog 82 #[.int .i64 op] w fun e w'=>e=.returned (.int .i64 sz)∧w=w') :
    Calls Tryz.prog 81 #[.slice (some x) len cap,.int .i64 k] w fun e w'=>e=.returned noIns∧Below w.heap.size w w':=by
  have C2:=Lib.hid c2;clear c2
  have hkI:(k:Int) < (len:Int):=by omega
  have hck:(w.alloc (.cells #[.int .i64 0,.int .i64 0,.int .i64 0,.int .u32 0] 134)).cell? (x.add k)=some (.int .u8 op):=by
    rw [World.cell?_alloc_lt _ _ _ (by rw [block_add];exact hx)];exact hc
  clear hc
  rcases hs with hs | ⟨hs,hs'⟩
  all_goals
    go_enter Tryz.func81,Tryz.ntmps81
    go_wp2_with fail
    refine (C2.out _).mono ?_;rintro e w' ⟨rfl,rfl⟩
    go_wp2_with fail
    exact bodyPost_ret (v:=noIns) (by simp [results,Tryz.results81,go_sem];rfl) rfl ⟨rfl,bel_al (Below.refl _ _) _⟩
theorem Two.ofD {w:World} {a b c d a' b' c' d':Value} {T T':TypeId} {m:Nat} {w1:World} (hb:Below (((w.alloc (.cells #[a,b,c,d] T)).alloc (.cells #[a',b',c',d'] T')).drewN m).heap.size (((w.alloc (.cells #[a,b,c,d] T)).alloc (.cells #[a',b',c',d'] T')).drewN m) w1) :
    Two w w.heap.size (w.heap.size+1) a b c d a' b' c' d' w1:=
  Two.of ((below_drewN (Below.refl _ _) m).trans hb)
theorem kept2w {w:World} {a:Addr} {v:Value} (h:w.cell? a=some v) (hb:a.block < w.heap.size) (o1 o2:Obj):((w.alloc o1).alloc o2).cell? a=some v:=by
  rw [World.cell?_alloc_lt _ _ _ (by simp;omega),World.cell?_alloc_lt _ _ _ hb,h]
theorem v_num {k:IntKind} {a b:Int} (h:a=b):Value.int k a=.int k b:=by rw [h]
def RReadRel (w:World) (op a:Int) (t:List Int) (top:Nat) (i:Value) (w':World):Prop:=
  ∃ j m q:Nat,j≤4∧q+j=top∧i=.int .i64 q∧w'=((w.alloc (.cells #[.int .i64 0,.int .i64 0,.int .i64 0,.int .u32 0] 134)).alloc (.cells #[.int .i64 op,.int .i64 a,.int .i64 0,.int .u32 (numV (t.drop (4 - j)))] 134)).drewN m
theorem numV_drop (t:List Int) (ht:t.length=4) (j:Nat) (hj:j < 4):numV (t.drop (4 - (j+1)))=t.getD (3 - j) 0+256 * numV (t.drop (4 - j)):=by
  have h:3 - j < t.length:=by omega
  have e:t.getD (3 - j) 0=t[3 - j]:=by simp [List.getD,List.getElem?_eq_getElem h]
  rw [show 4 - (j+1)=3 - j by omega,List.drop_eq_getElem_cons h,show 3 - j+1=4 - j by omega,e]
  rfl
theorem numV_small (t:List Int) (ht:t.length=4) (hb:Bytes t) (j:Nat) (hj:j < 4):0≤numV (t.drop (4 - j))∧numV (t.drop (4 - j))≤16777215:=by
  have h:=numV_bd (t.drop (4 - j)) (fun z hz=>hb z (List.mem_of_mem_drop hz))
  rw [List.length_drop,ht,show 4 - (4 - j)=j by omega] at h
  obtain rfl | rfl | rfl | rfl:j=0∨j=1∨j=2∨j=3:=by omega
  all_goals omega
theorem rreadRel_step {w:World} {op a:Int} {t:List Int} {top j m q g:Nat} {mk bk:Int} (hlt:j < 4) (ht:t.length=4) (hq:q+j=top) (hq0:0 < q) (hg:g=w.heap.size+1) (hmk:numV (t.drop (4 - j))=mk) (hbk:t.getD (3 - j) 0=bk) :
    RReadRel w op a t top (.int .i64 ((q:Int) - 1)) ((((w.alloc (.cells #[.int .i64 0,.int .i64 0,.int .i64 0,.int .u32 0] 134)).alloc (.cells #[.int .i64 op,.int .i64 a,.int .i64 0,.int .u32 mk] 134)).drewN m).setCell ⟨g,3,none⟩ (.int .u32 (256 * mk+bk))):=by
  rw [set4 _ _ _ _ _ _ _ _ _ (by simp [hg])]
  refine ⟨j+1,m,q - 1,hlt,by omega,by rw [show ((q - 1:Nat):Int)=(q:Int) - 1 by omega],?_⟩
  rw [numV_drop t ht j hlt,hmk,hbk,Int.add_comm bk]
set_option maxHeartbeats 4000000 in
theorem rRead_1 (op:Int) (x:Addr) (len cap k:Nat) (ok:Bool) (h0:0≤op) (h1:op≤255) (hl:len≤20000) (hk:k+1≤len) (w:World) (hx:x.block < w.heap.size) (hc:w.cell? (x.add k)=some (.int .u8 op))
    (c2:∀ w,Calls Tryz.prog 82 #[.int .i64 op] w fun e w'=>e=.returned (.int .i64 1)∧w=w')
    (c1:∀ w,Calls Tryz.prog 93 #[.agg #[.int .i64 op,.int .i64 (0),.int .i64 (0),.int .u32 (0)]] w fun e w'=>e=.returned (.bool ok)∧Below w.heap.size w w') :
    Calls Tryz.prog 81 #[.slice (some x) len cap,.int .i64 k] w fun e w'=>e=.returned (if ok then .tuple #[.agg #[.int .i64 op,.int .i64 (0),.int .i64 (0),.int .u32 (0)],.int .i64 1] else noIns)∧Below w.heap.size w w':=by
  have C1:=Lib.hid c1;clear c1
  have C2:=Lib.hid c2;clear c2
  have hkI:(k:Int) < (len:Int):=by omega
  have hck:(w.alloc (.cells #[.int .i64 0,.int .i64 0,.int .i64 0,.int .u32 0] 134)).cell? (x.add k)=some (.int .u8 op):=by
    rw [World.cell?_alloc_lt _ _ _ (by rw [block_add];exact hx)];exact hc
  clear hc
  go_enter Tryz.func81,Tryz.ntmps81
  go_wp2_with fail
  refine (C2.out _).mono ?_;rintro e w' ⟨rfl,rfl⟩
  go_wp2_with fail
  refine (C1.out _).mono ?_;rintro e w5 ⟨rfl,hb5⟩
  have K:=Two.of hb5
  obtain ⟨⟨g0,⟨r1,r2,r3,r4⟩,f1,f2,f3,f4⟩,⟨y0,⟨y1,y2,y3,y4⟩,_⟩,hbw⟩:=K
  have HB:=Lib.hid hbw;clear hbw hb5
  cases ok
  · go_wp2_with fail
    exact bodyPost_ret (v:=noIns) (by simp [results,Tryz.results81,go_sem,r1,r2,r3,r4];rfl) rfl ⟨rfl,bel_set4 HB.out _ _ _ _⟩
  · go_wp2_with fail
    exact bodyPost_ret (v:=.tuple #[.agg #[.int .i64 op,.int .i64 (0),.int .i64 (0),.int .u32 (0)],.int .i64 1]) (by simp [results,Tryz.results81,go_sem,r1,r2,r3,r4]) rfl ⟨rfl,bel_set4 HB.out _ _ _ _⟩
set_option maxHeartbeats 4000000 in
theorem rRead_22 (c:Int) (x:Addr) (len cap k:Nat) (ok:Bool) (hl:len≤20000) (hk:k+2≤len) (w:World) (hx:x.block < w.heap.size) (hc:w.cell? (x.add k)=some (.int .u8 22)) (hcc:w.cell? ⟨x.block,x.off+(k+1),none⟩=some (.int .u8 c)) (g0:0≤c) (g1:c≤255)
    (c2:∀ w,Calls Tryz.prog 82 #[.int .i64 22] w fun e w'=>e=.returned (.int .i64 2)∧w=w')
    (c1:∀ w,Calls Tryz.prog 93 #[.agg #[.int .i64 22,.int .i64 (0),.int .i64 (0),.int .u32 (c)]] w fun e w'=>e=.returned (.bool ok)∧Below w.heap.size w w') :
    Calls Tryz.prog 81 #[.slice (some x) len cap,.int .i64 k] w fun e w'=>e=.returned (if ok then .tuple #[.agg #[.int .i64 22,.int .i64 (0),.int .i64 (0),.int .u32 (c)],.int .i64 2] else noIns)∧Below w.heap.size w w':=by
  have C1:=Lib.hid c1;clear c1
  have C2:=Lib.hid c2;clear c2
  have hkI:(k:Int) < (len:Int):=by omega
  have hck:(w.alloc (.cells #[.int .i64 0,.int .i64 0,.int .i64 0,.int .u32 0] 134)).cell? (x.add k)=some (.int .u8 22):=by
    rw [World.cell?_alloc_lt _ _ _ (by rw [block_add];exact hx)];exact hc
  clear hc
  have hc1:=fun o=>kept2w hcc hx (.cells #[.int .i64 0,.int .i64 0,.int .i64 0,.int .u32 0] 134) o
  have e1:(k:Int)+1 < (len:Int):=by omega
  go_enter Tryz.func81,Tryz.ntmps81
  go_wp2_with fail
  refine (C2.out _).mono ?_;rintro e w' ⟨rfl,rfl⟩
  go_wp2_with fail
  refine (C1.out _).mono ?_;rintro e w5 ⟨rfl,hb5⟩
  have K:=Two.of hb5
  obtain ⟨⟨g0,⟨r1,r2,r3,r4⟩,f1,f2,f3,f4⟩,⟨y0,⟨y1,y2,y3,y4⟩,_⟩,hbw⟩:=K
  have HB:=Lib.hid hbw;clear hbw hb5
  cases ok
  · go_wp2_with fail
    exact bodyPost_ret (v:=noIns) (by simp [results,Tryz.results81,go_sem,r1,r2,r3,r4];rfl) rfl ⟨rfl,bel_set4 HB.out _ _ _ _⟩
  · go_wp2_with fail
    exact bodyPost_ret (v:=.tuple #[.agg #[.int .i64 22,.int .i64 (0),.int .i64 (0),.int .u32 (c)],.int .i64 2]) (by simp [results,Tryz.results81,go_sem,r1,r2,r3,r4]) rfl ⟨rfl,bel_set4 HB.out _ _ _ _⟩
set_option maxHeartbeats 4000000 in
theorem rRead_2 (op c:Int) (x:Addr) (len cap k:Nat) (ok:Bool) (h0:0≤op) (h1:op≤255) (q1:(op == 22)=false) (q2:(op != 22)=true) (hl:len≤20000) (hk:k+2≤len) (w:World) (hx:x.block < w.heap.size) (hc:w.cell? (x.add k)=some (.int .u8 op)) (hcc:w.cell? ⟨x.block,x.off+(k+1),none⟩=some (.int .u8 c)) (g0:0≤c) (g1:c≤255)
    (c2:∀ w,Calls Tryz.prog 82 #[.int .i64 op] w fun e w'=>e=.returned (.int .i64 2)∧w=w')
    (c1:∀ w,Calls Tryz.prog 93 #[.agg #[.int .i64 op,.int .i64 (c / 16),.int .i64 (c % 16),.int .u32 (0)]] w fun e w'=>e=.returned (.bool ok)∧Below w.heap.size w w') :
    Calls Tryz.prog 81 #[.slice (some x) len cap,.int .i64 k] w fun e w'=>e=.returned (if ok then .tuple #[.agg #[.int .i64 op,.int .i64 (c / 16),.int .i64 (c % 16),.int .u32 (0)],.int .i64 2] else noIns)∧Below w.heap.size w w':=by
  have C1:=Lib.hid c1;clear c1
  have C2:=Lib.hid c2;clear c2
  have hkI:(k:Int) < (len:Int):=by omega
  have hck:(w.alloc (.cells #[.int .i64 0,.int .i64 0,.int .i64 0,.int .u32 0] 134)).cell? (x.add k)=some (.int .u8 op):=by
    rw [World.cell?_alloc_lt _ _ _ (by rw [block_add];exact hx)];exact hc
  clear hc
  have hc1:=fun o=>kept2w hcc hx (.cells #[.int .i64 0,.int .i64 0,.int .i64 0,.int .u32 0] 134) o
  have e1:(k:Int)+1 < (len:Int):=by omega
  go_enter Tryz.func81,Tryz.ntmps81
  go_wp2_with fail
  refine (C2.out _).mono ?_;rintro e w' ⟨rfl,rfl⟩
  go_wp2_with fail
  refine (C1.out _).mono ?_;rintro e w5 ⟨rfl,hb5⟩
  have K:=Two.of hb5
  obtain ⟨⟨g0,⟨r1,r2,r3,r4⟩,f1,f2,f3,f4⟩,⟨y0,⟨y1,y2,y3,y4⟩,_⟩,hbw⟩:=K
  have HB:=Lib.hid hbw;clear hbw hb5
  cases ok
  · go_wp2_with fail
    exact bodyPost_ret (v:=noIns) (by simp [results,Tryz.results81,go_sem,r1,r2,r3,r4];rfl) rfl ⟨rfl,bel_set4 HB.out _ _ _ _⟩
  · go_wp2_with fail
    exact bodyPost_ret (v:=.tuple #[.agg #[.int .i64 op,.int .i64 (c / 16),.int .i64 (c % 16),.int .u32 (0)],.int .i64 2]) (by simp [results,Tryz.results81,go_sem,r1,r2,r3,r4]) rfl ⟨rfl,bel_set4 HB.out _ _ _ _⟩
set_option maxHeartbeats 4000000 in
theorem rRead_5 (op:Int) (t:List Int) (x:Addr) (len cap k:Nat) (ok:Bool) (h0:0≤op) (h1:op≤255) (hl:len≤20000) (hk:k+5≤len) (w:World) (hx:x.block < w.heap.size) (hc:w.cell? (x.add k)=some (.int .u8 op)) (ht4:t.length=4) (ht:Bytes t) (hct:∀ i,i < 4→w.cell? (x.add (k+1+i))=some (.int .u8 (t.getD i 0)))
    (c2:∀ w,Calls Tryz.prog 82 #[.int .i64 op] w fun e w'=>e=.returned (.int .i64 5)∧w=w')
    (c1:∀ w,Calls Tryz.prog 93 #[.agg #[.int .i64 op,.int .i64 (0),.int .i64 (0),.int .u32 (numV t)]] w fun e w'=>e=.returned (.bool ok)∧Below w.heap.size w w') :
    Calls Tryz.prog 81 #[.slice (some x) len cap,.int .i64 k] w fun e w'=>e=.returned (if ok then .tuple #[.agg #[.int .i64 op,.int .i64 (0),.int .i64 (0),.int .u32 (numV t)],.int .i64 5] else noIns)∧Below w.heap.size w w':=by
  have C1:=Lib.hid c1;clear c1
  have C2:=Lib.hid c2;clear c2
  have hkI:(k:Int) < (len:Int):=by omega
  have hck:(w.alloc (.cells #[.int .i64 0,.int .i64 0,.int .i64 0,.int .u32 0] 134)).cell? (x.add k)=some (.int .u8 op):=by
    rw [World.cell?_alloc_lt _ _ _ (by rw [block_add];exact hx)];exact hc
  clear hc
  go_enter Tryz.func81,Tryz.ntmps81
  go_wp2_with fail
  refine (C2.out _).mono ?_;rintro e w' ⟨rfl,rfl⟩
  go_wp2_with fail
  go_loopw [9] (fun i w'=>RReadRel w op (0) t (k+4) i w') (fun i _=>(intOf i).toNat+1)
  case atStart=>exact ⟨0,0,k+4,by omega,by omega,v_num (by simp <;> omega),by rw [show t.drop (4 - 0)=[] from List.drop_eq_nil_of_le (by omega)];rfl⟩
  case round=>
  obtain ⟨j,m,q,hj,hq,rfl,rfl⟩:=hrel
  by_cases hlt:j < 4
  · have hqk:q=k+1+(3 - j):=by omega
    have hbd:=row_byte ht (3 - j) (by omega)
    have hck2:=fun o=>kept2w (hct (3 - j) (by omega)) (by rw [block_add];exact hx) (.cells #[.int .i64 0,.int .i64 0,.int .i64 0,.int .u32 0] 134) o
    rw [← hqk] at hck2
    have hsm:=numV_small t ht4 ht j hlt
    obtain ⟨bk,hbk⟩:∃ v,t.getD (3 - j) 0=v:=⟨_,rfl⟩
    rw [hbk] at hbd
    have hck3:=hck2
    simp only [hbk] at hck3
    clear hck2
    have HBK:=Lib.hid hbk;clear hbk
    obtain ⟨b0,b1⟩:=hbd
    obtain ⟨mk,hmk⟩:∃ v,numV (t.drop (4 - j))=v:=⟨_,rfl⟩
    rw [hmk] at hsm ⊢
    have HMK:=Lib.hid hmk;clear hmk
    obtain ⟨m0,m1⟩:=hsm
    have hlo:(k:Int)+1≤(q:Int):=by omega
    have hhi:(q:Int) < (len:Int):=by omega
    have HQ:=Lib.hid hq;clear hq hqk
    have HQ1:0 < q:=by omega
    clear hck
    have u1:IntKind.u32.wrap (256 * mk)=256 * mk:=IntWalk.u32_in _ (by omega)
    have u2:IntKind.u32.wrap (256 * mk+bk)=256 * mk+bk:=IntWalk.u32_in _ (by omega)
    go_wp2_with fail
    go_region
    go_wp2
    exact ⟨rreadRel_step hlt ht4 HQ.out HQ1 rfl HMK.out HBK.out,by simp [intOf];omega⟩
  · have hj4:j=4:=by omega
    have hlo:(q:Int) < (k:Int)+1:=by omega
    have e4:numV (t.drop (4 - j))=numV t:=by rw [hj4];rfl
    rw [e4]
    clear hck hq hj4 e4
    go_wp2_with fail
    refine (C1.out _).mono ?_;rintro e w5 ⟨rfl,hb5⟩
    have K:=Two.ofD hb5
    obtain ⟨⟨g0,⟨r1,r2,r3,r4⟩,f1,f2,f3,f4⟩,⟨y0,⟨y1,y2,y3,y4⟩,_⟩,hbw⟩:=K
    have HB:=Lib.hid hbw;clear hbw hb5
    cases ok
    · go_wp2_with fail
      exact bodyPost_ret (v:=noIns) (by simp [results,Tryz.results81,go_sem,r1,r2,r3,r4];rfl) rfl ⟨rfl,bel_set4 HB.out _ _ _ _⟩
    · go_wp2_with fail
      exact bodyPost_ret (v:=.tuple #[.agg #[.int .i64 op,.int .i64 (0),.int .i64 (0),.int .u32 (numV t)],.int .i64 5]) (by simp [results,Tryz.results81,go_sem,r1,r2,r3,r4]) rfl ⟨rfl,bel_set4 HB.out _ _ _ _⟩
set_option maxHeartbeats 4000000 in
theorem rRead_6 (op c:Int) (t:List Int) (x:Addr) (len cap k:Nat) (ok:Bool) (h0:0≤op) (h1:op≤255) (hl:len≤20000) (hk:k+6≤len) (w:World) (hx:x.block < w.heap.size) (hc:w.cell? (x.add k)=some (.int .u8 op)) (hcc:w.cell? ⟨x.block,x.off+(k+1),none⟩=some (.int .u8 c)) (g0:0≤c) (g1:c≤255) (ht4:t.length=4) (ht:Bytes t) (hct:∀ i,i < 4→w.cell? (x.add (k+2+i))=some (.int .u8 (t.getD i 0)))
    (c2:∀ w,Calls Tryz.prog 82 #[.int .i64 op] w fun e w'=>e=.returned (.int .i64 6)∧w=w')
    (c1:∀ w,Calls Tryz.prog 93 #[.agg #[.int .i64 op,.int .i64 (c),.int .i64 (0),.int .u32 (numV t)]] w fun e w'=>e=.returned (.bool ok)∧Below w.heap.size w w') :
    Calls Tryz.prog 81 #[.slice (some x) len cap,.int .i64 k] w fun e w'=>e=.returned (if ok then .tuple #[.agg #[.int .i64 op,.int .i64 (c),.int .i64 (0),.int .u32 (numV t)],.int .i64 6] else noIns)∧Below w.heap.size w w':=by
  have C1:=Lib.hid c1;clear c1
  have C2:=Lib.hid c2;clear c2
  have hkI:(k:Int) < (len:Int):=by omega
  have hck:(w.alloc (.cells #[.int .i64 0,.int .i64 0,.int .i64 0,.int .u32 0] 134)).cell? (x.add k)=some (.int .u8 op):=by
    rw [World.cell?_alloc_lt _ _ _ (by rw [block_add];exact hx)];exact hc
  clear hc
  have hc1:=fun o=>kept2w hcc hx (.cells #[.int .i64 0,.int .i64 0,.int .i64 0,.int .u32 0] 134) o
  have e1:(k:Int)+1 < (len:Int):=by omega
  go_enter Tryz.func81,Tryz.ntmps81
  go_wp2_with fail
  refine (C2.out _).mono ?_;rintro e w' ⟨rfl,rfl⟩
  go_wp2_with fail
  go_loopw [9] (fun i w'=>RReadRel w op (c) t (k+5) i w') (fun i _=>(intOf i).toNat+1)
  case atStart=>exact ⟨0,0,k+5,by omega,by omega,v_num (by simp <;> omega),by rw [show t.drop (4 - 0)=[] from List.drop_eq_nil_of_le (by omega)];rfl⟩
  case round=>
  obtain ⟨j,m,q,hj,hq,rfl,rfl⟩:=hrel
  by_cases hlt:j < 4
  · have hqk:q=k+2+(3 - j):=by omega
    have hbd:=row_byte ht (3 - j) (by omega)
    have hck2:=fun o=>kept2w (hct (3 - j) (by omega)) (by rw [block_add];exact hx) (.cells #[.int .i64 0,.int .i64 0,.int .i64 0,.int .u32 0] 134) o
    rw [← hqk] at hck2
    have hsm:=numV_small t ht4 ht j hlt
    obtain ⟨bk,hbk⟩:∃ v,t.getD (3 - j) 0=v:=⟨_,rfl⟩
    rw [hbk] at hbd
    have hck3:=hck2
    simp only [hbk] at hck3
    clear hck2
    have HBK:=Lib.hid hbk;clear hbk
    obtain ⟨b0,b1⟩:=hbd
    obtain ⟨mk,hmk⟩:∃ v,numV (t.drop (4 - j))=v:=⟨_,rfl⟩
    rw [hmk] at hsm ⊢
    have HMK:=Lib.hid hmk;clear hmk
    obtain ⟨m0,m1⟩:=hsm
    have hlo:(k:Int)+2≤(q:Int):=by omega
    have hhi:(q:Int) < (len:Int):=by omega
    have HQ:=Lib.hid hq;clear hq hqk
    have HQ1:0 < q:=by omega
    clear hck
    have u1:IntKind.u32.wrap (256 * mk)=256 * mk:=IntWalk.u32_in _ (by omega)
    have u2:IntKind.u32.wrap (256 * mk+bk)=256 * mk+bk:=IntWalk.u32_in _ (by omega)
    go_wp2_with fail
    go_region
    go_wp2
    exact ⟨rreadRel_step hlt ht4 HQ.out HQ1 rfl HMK.out HBK.out,by simp [intOf];omega⟩
  · have hj4:j=4:=by omega
    have hlo:(q:Int) < (k:Int)+2:=by omega
    have e4:numV (t.drop (4 - j))=numV t:=by rw [hj4];rfl
    rw [e4]
    clear hck hq hj4 e4
    go_wp2_with fail
    refine (C1.out _).mono ?_;rintro e w5 ⟨rfl,hb5⟩
    have K:=Two.ofD hb5
    obtain ⟨⟨g0,⟨r1,r2,r3,r4⟩,f1,f2,f3,f4⟩,⟨y0,⟨y1,y2,y3,y4⟩,_⟩,hbw⟩:=K
    have HB:=Lib.hid hbw;clear hbw hb5
    cases ok
    · go_wp2_with fail
      exact bodyPost_ret (v:=noIns) (by simp [results,Tryz.results81,go_sem,r1,r2,r3,r4];rfl) rfl ⟨rfl,bel_set4 HB.out _ _ _ _⟩
    · go_wp2_with fail
      exact bodyPost_ret (v:=.tuple #[.agg #[.int .i64 op,.int .i64 (c),.int .i64 (0),.int .u32 (numV t)],.int .i64 6]) (by simp [results,Tryz.results81,go_sem,r1,r2,r3,r4]) rfl ⟨rfl,bel_set4 HB.out _ _ _ _⟩
theorem rd_right {op:Int} {t:List Int} (hs:szO op≤(t.length:Int)+1):rdB (op :: t)=rightB op (xA (fU op) t) (xB (fU op) t) (xI (fU op) (fN op) t):=by
  show (fK op && (decide (szO op≤t.length+1) && fitsB (fA op) (fB op) (fN op) (xA (fU op) t) (xB (fU op) t) (xI (fU op) (fN op) t)))=_
  rw [decide_eq_true hs,Bool.true_and];rfl
theorem rd_short {op:Int} {t:List Int} (hs:¬ szO op≤(t.length:Int)+1):rdB (op :: t)=false:=by
  show (fK op && (decide (szO op≤t.length+1) && fitsB (fA op) (fB op) (fN op) (xA (fU op) t) (xB (fU op) t) (xI (fU op) (fN op) t)))=_
  rw [decide_eq_false hs,Bool.false_and,Bool.and_false]
theorem rd_none {op:Int} {t:List Int} (h:op < 0∨23 < op):rdB (op :: t)=false:=by
  show (fK op && _)=_
  rw [show fK op=false from decide_eq_false (by omega),Bool.false_and]
theorem six (op c:Int) (t:List Int) (x:Addr) (len cap k:Nat) (ok:Bool) (hl:len≤20000) (w:World) (hx:x.block < w.heap.size) (hck:w.cell? (x.add k)=some (.int .u8 op)) (h4:4≤t.length) (htl:t.length+1=len - (k+1))
    (hbt:Bytes (c :: t)) (hcell:∀ i,i < (c :: t).length→w.cell? (x.add (k+1+i))=some (.int .u8 ((c :: t).getD i 0)))
    (hs2:∀ w,Calls Tryz.prog 82 #[.int .i64 op] w fun e w'=>e=.returned (.int .i64 6)∧w=w') (o0:0≤op) (o1:op≤255)
    (hR:∀ w,Calls Tryz.prog 93 #[.agg #[.int .i64 op,.int .i64 (xA 1 (c :: t)),.int .i64 (xB 1 (c :: t)),.int .u32 (xI 1 4 (c :: t))]] w fun e w'=>e=.returned (.bool ok)∧Below w.heap.size w w') :
    Calls Tryz.prog 81 #[.slice (some x) len cap,.int .i64 k] w
      fun e w'=>e=.returned (if ok then .tuple #[.agg #[.int .i64 op,.int .i64 (xA 1 (c :: t)),.int .i64 (xB 1 (c :: t)),.int .u32 (xI 1 4 (c :: t))],.int .i64 6] else noIns)∧Below w.heap.size w w':=by
  have hc1:=hcell 0 (by simp)
  have hcb:=hbt c (by simp)
  have ea:xA 1 (c :: t)=c:=by show c / 1=c;omega
  have eb:xB 1 (c :: t)=0:=by show c % 1=0;omega
  have ei:xI 1 4 (c :: t)=numV (t.take 4):=rfl
  rw [ea,eb,ei] at hR ⊢
  have hl4:(t.take 4).length=4:=by rw [List.length_take];omega
  exact rRead_6 op c (t.take 4) x len cap k ok o0 o1 hl (by omega) w hx hck hc1 hcb.1 hcb.2 hl4 (take_byte (fun z hz=>hbt z (by simp [hz])) 4) (fun i hi=>by
    have:=hcell (i+1) (by simp;omega)
    rw [show k+1+(i+1)=k+2+i by omega] at this
    rw [this]
    simp [List.getD,hi]) hs2 hR
theorem two16 (op:Int) (t:List Int) (x:Addr) (len cap k:Nat) (ok:Bool) (hl:len≤20000) (w:World) (hx:x.block < w.heap.size) (hck:w.cell? (x.add k)=some (.int .u8 op)) (hs:szO op≤(t.length:Int)+1) (htl:t.length=len - (k+1))
    (hbt:Bytes t) (hcell:∀ i,i < t.length→w.cell? (x.add (k+1+i))=some (.int .u8 (t.getD i 0)))
    (hs2:∀ w,Calls Tryz.prog 82 #[.int .i64 op] w fun e w'=>e=.returned (.int .i64 (szO op))∧w=w') (o0:0≤op) (o1:op≤255) (eu:fU op=16) (en:fN op=0) (hr:0≤op∧op≤21)
    (hR:∀ w,Calls Tryz.prog 93 #[.agg #[.int .i64 op,.int .i64 (xA (fU op) t),.int .i64 (xB (fU op) t),.int .u32 (xI (fU op) (fN op) t)]] w fun e w'=>e=.returned (.bool ok)∧Below w.heap.size w w') :
    Calls Tryz.prog 81 #[.slice (some x) len cap,.int .i64 k] w
      fun e w'=>e=.returned (if ok then .tuple #[.agg #[.int .i64 op,.int .i64 (xA (fU op) t),.int .i64 (xB (fU op) t),.int .u32 (xI (fU op) (fN op) t)],.int .i64 (szO op)] else noIns)∧Below w.heap.size w w':=by
  have e3:szO op=2:=by rw [szO_ok (by omega),eu,en];rfl
  rw [eu,en] at hR ⊢
  rw [e3] at hs2 hs ⊢
  obtain ⟨c,t',rfl⟩:∃ c t',t=c :: t':=by cases t with | nil=>simp at hs | cons c t'=>exact ⟨c,t',rfl⟩
  have hc1:=hcell 0 (by simp)
  have hcb:=hbt c (by simp)
  exact rRead_2 op c x len cap k ok o0 o1 (by simp;omega) (by simp;omega) hl (by simp at htl;omega) w hx hck hc1 hcb.1 hcb.2 hs2 hR
theorem rRead_at (l:List Int) (A:Option Addr) (cap k:Nat) (op:Int) (t:List Int) (hl:l.length≤20000) (hk:k < l.length) (hd:l.drop k=op :: t) (w:World) (hr:RowAt w A cap l) :
    Calls Tryz.prog 81 #[.slice A l.length cap,.int .i64 k] w
      fun e w'=>e=.returned (if rdB (op :: t) then insV op (xA (fU op) t) (xB (fU op) t) (xI (fU op) (fN op) t) (szO op) else noIns)∧Below w.heap.size w w':=by
  have hr0:=hr
  obtain ⟨h1,h2,h3,h4⟩:=hr
  obtain ⟨x,rfl,hx,hc⟩:=h4 (by intro h;subst h;simp at hk)
  have hop:l.getD k 0=op:=by
    have e:=List.drop_eq_getElem_cons hk
    rw [hd] at e
    injection e with e _
    simp [List.getD,List.getElem?_eq_getElem hk,e]
  have ht:t=l.drop (k+1):=by
    have e:=List.drop_eq_getElem_cons hk
    rw [hd] at e
    injection e
  have hck:=hc k hk
  have hbd:=row_byte h3 k hk
  rw [hop] at hck hbd
  have htl:t.length=l.length - (k+1):=by rw [ht,List.length_drop]
  have hbt:Bytes t:=by rw [ht];exact fun z hz=>h3 z (List.mem_of_mem_drop hz)
  have hcell:∀ i,i < t.length→w.cell? (x.add (k+1+i))=some (.int .u8 (t.getD i 0)):=by
    intro i hi
    rw [hc _ (by omega),ht]
    simp [List.getD,List.getElem?_drop]
  have hs2:=rSize_any op
  have hb:=szO_bd op
  by_cases hn:op < 0∨23 < op
  · rw [rd_none hn]
    rw [szO_no (by omega)] at hs2
    exact rRead_short op 0 x l.length cap k hl hk hbd.1 hbd.2 (by omega) (by omega) w hx hck (.inl rfl) hs2
  have hp:=szO_pos (op:=op) (by omega)
  by_cases hs:szO op≤(t.length:Int)+1
  · have hi:=(read_lay op _ _ _ _ t (form_of op) hbt (by rw [← szO_ok (by omega)];exact hs)).2
    have hR:=rRight_any op (xA (fU op) t) (xB (fU op) t) (xI (fU op) (fN op) t) hi.1 hi.2
    rw [rd_right hs]
    generalize hok:rightB op (xA (fU op) t) (xB (fU op) t) (xI (fU op) (fN op) t)=ok at *
    clear hok hi
    unfold insV
    rcases op_cases op with h | h | rfl | rfl | rfl | rfl | rfl | rfl | rfl | rfl | rfl
    · have e1:fU op=16:=by unfold fU;rw [if_neg (by omega),if_pos (by omega)]
      have e2:fN op=0:=by unfold fN;rw [if_neg (by omega),if_neg (by omega)]
      have e3:szO op=2:=by rw [szO_ok (by omega),e1,e2];rfl
      rw [e1,e2] at hR ⊢
      rw [e3] at hs2 hs ⊢
      obtain ⟨c,t',rfl⟩:∃ c t',t=c :: t':=by cases t with | nil=>simp at hs | cons c t'=>exact ⟨c,t',rfl⟩
      have hc1:=hcell 0 (by simp)
      have hcb:=hbt c (by simp)
      exact rRead_2 op c x l.length cap k ok hbd.1 hbd.2 (by simp;omega) (by simp;omega) hl (by simp at htl;omega) w hx hck hc1 hcb.1 hcb.2 hs2 hR
    · exact absurd h hn
    · exact rRead_1 0 x l.length cap k ok hbd.1 hbd.2 hl (by omega) w hx hck hs2 hR
    · rw [show szO 1=6 by decide] at hs2 hs ⊢
      obtain ⟨c,t',rfl⟩:∃ c t',t=c :: t':=by cases t with | nil=>simp at hs | cons c t'=>exact ⟨c,t',rfl⟩
      exact six 1 c t' x l.length cap k ok hl w hx hck (by simp at hs;omega) (by simp at htl;omega) hbt hcell hs2 hbd.1 hbd.2 (by rw [show fU 1=1 by decide,show fN 1=4 by decide] at hR;exact hR)
    · exact two16 17 t x l.length cap k ok hl w hx hck hs (by omega) hbt hcell hs2 hbd.1 hbd.2 rfl rfl (by decide) hR
    · exact two16 18 t x l.length cap k ok hl w hx hck hs (by omega) hbt hcell hs2 hbd.1 hbd.2 rfl rfl (by decide) hR
    · rw [show szO 19=5 by decide] at hs2 hs ⊢
      have hl4:(t.take 4).length=4:=by rw [List.length_take];omega
      exact rRead_5 19 (t.take 4) x l.length cap k ok hbd.1 hbd.2 hl (by omega) w hx hck hl4 (take_byte hbt 4) (fun i hi=>by rw [hcell i (by omega)];simp [List.getD,hi]) hs2 hR
    · rw [show szO 20=6 by decide] at hs2 hs ⊢
      obtain ⟨c,t',rfl⟩:∃ c t',t=c :: t':=by cases t with | nil=>simp at hs | cons c t'=>exact ⟨c,t',rfl⟩
      exact six 20 c t' x l.length cap k ok hl w hx hck (by simp at hs;omega) (by simp at htl;omega) hbt hcell hs2 hbd.1 hbd.2 (by rw [show fU 20=1 by decide,show fN 20=4 by decide] at hR;exact hR)
    · exact two16 21 t x l.length cap k ok hl w hx hck hs (by omega) hbt hcell hs2 hbd.1 hbd.2 rfl rfl (by decide) hR
    · rw [show szO 22=2 by decide] at hs2 hs ⊢
      obtain ⟨c,t',rfl⟩:∃ c t',t=c :: t':=by cases t with | nil=>simp at hs | cons c t'=>exact ⟨c,t',rfl⟩
      have hc1:=hcell 0 (by simp)
      have hcb:=hbt c (by simp)
      have ei:xI (fU 22) (fN 22) (c :: t')=c:=by
        rw [show fU 22=0 by decide,show fN 22=1 by decide]
        show c+256 * 0=c
        omega
      rw [ei] at hR ⊢
      exact rRead_22 c x l.length cap k ok hl (by simp at htl;omega) w hx hck hc1 hcb.1 hcb.2 hs2 hR
    · exact rRead_1 23 x l.length cap k ok hbd.1 hbd.2 hl (by omega) w hx hck hs2 hR
  · rw [rd_short hs]
    exact rRead_short op (szO op) x l.length cap k hl hk hbd.1 hbd.2 (by omega) (by omega) w hx hck (.inr ⟨by simp;omega,by omega⟩) hs2
theorem rRead_yes (l:List Int) (A:Option Addr) (cap k:Nat) (op a b imm n:Int) (hl:l.length≤20000) (h:Rd (l.drop k) op a b imm n) (w:World) (hr:RowAt w A cap l) :
    Calls Tryz.prog 81 #[.slice A l.length cap,.int .i64 k] w fun e w'=>e=.returned (insV op a b imm n)∧Below w.heap.size w w':=by
  obtain ⟨h1,t,h2,rfl,rfl,rfl,rfl⟩:=h
  have hk:k < l.length:=by
    rcases Nat.lt_or_ge k l.length with h | h
    · exact h
    · rw [List.drop_eq_nil_of_le h] at h2;cases h2
  have:=rRead_at l A cap k op t hl hk h2 w hr
  rw [h2] at h1
  rw [h1] at this
  exact this
theorem rRead_no (l:List Int) (A:Option Addr) (cap:Nat) (k:Int) (hl:l.length≤20000) (h:k < 0∨(l.length:Int)≤k∨rdB (l.drop k.toNat)=false) (w:World) (hr:RowAt w A cap l) :
    Calls Tryz.prog 81 #[.slice A l.length cap,.int .i64 k] w fun e w'=>e=.returned (insV 0 0 0 0 0)∧Below w.heap.size w w':=by
  by_cases h0:k < 0
  · exact rRead_out l A cap k hl (.inl h0) w
  by_cases h1:(l.length:Int)≤k
  · exact rRead_out l A cap k hl (.inr h1) w
  · obtain ⟨j,rfl⟩:∃ j:Nat,k=j:=⟨k.toNat,by omega⟩
    have hj:j < l.length:=by omega
    have e:=List.drop_eq_getElem_cons hj
    have h':rdB (l.drop j)=false:=by
      rcases h with h | h | h
      · exact absurd h h0
      · exact absurd h h1
      · exact h
    have:=rRead_at l A cap j _ _ hl hj e w hr
    rw [e] at h'
    rw [h'] at this
    exact this
end Go.Proofs.YteefmjhemhlapaaGreat
