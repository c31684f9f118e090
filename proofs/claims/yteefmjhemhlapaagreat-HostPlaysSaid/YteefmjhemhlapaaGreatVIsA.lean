/- Merged by wip/tools/regroup: IsaMath, IsaForms, IsaLay, IsaRead. -/
import Derived.RowKit
import Derived.Test.YteefmjhemhlapaaGreatRows
import Derived.WalkKit
import Derived.ProofKit
import Derived.OpenShut
import Derived.Below
import Derived.Carry
import Derived.ChangeMaps4
import Derived.Lib.Hide
import Derived.OwnWalk
import Derived.Maps.AppendAt
import Derived.Laws.OwnMore
import Derived.Laws.BytesArg
import Derived.RegionTactic
import Derived.Laws.BitsAllLaws
import Derived.ChangeAlike
import Derived.BigRegion
import Derived.StillTailTactics
import Derived.Deep.QuietTactic
import Derived.BigQuiet
namespace Go.Proofs.YteefmjhemhlapaaGreat
def fK (op:Int):Bool:=decide (0≤op∧op≤23)
def fA (op:Int):Int:=if (1≤op∧op≤18)∨op=20∨op=21 then 7 else 0
def fB (op:Int):Int:=if 2≤op∧op≤16 then 7 else 0
def fU (op:Int):Int:=if op=1∨op=20 then 1 else if (2≤op∧op≤18)∨op=21 then 16 else 0
def fN (op:Int):Int:=if op=1∨op=19∨op=20 then 4 else if op=22 then 1 else 0
def szV (u n:Int):Int:=if 0 < u then 2+n else 1+n
def szO (op:Int):Int:=if fK op then szV (fU op) (fN op) else 0
def fitsB (fa fb fn a b imm:Int):Bool:=decide (0≤a∧a≤fa∧0≤b∧b≤fb∧imm < 256 ^ fn.toNat)
def rightB (op a b imm:Int):Bool:=fK op && fitsB (fA op) (fB op) (fN op) a b imm
def numL (imm:Int):Nat→List Int
  | 0=>[]
  | n+1=>numL imm n ++ [imm / 256 ^ n % 256]
def numV:List Int→Int
  | []=>0
  | x :: t=>x+256 * numV t
def layF (op fu fn a b imm:Int):List Int:=op :: ((if 0 < fu then [a * fu+b] else []) ++ numL imm fn.toNat)
def layL (op a b imm:Int):List Int:=if rightB op a b imm then layF op (fU op) (fN op) a b imm else []
def xA (fu:Int) (t:List Int):Int:=if 0 < fu then t.headD 0 / fu else 0
def xB (fu:Int) (t:List Int):Int:=if 0 < fu then t.headD 0 % fu else 0
def xI (fu fn:Int) (t:List Int):Int:=numV ((if 0 < fu then t.drop 1 else t).take fn.toNat)
def rdB:List Int→Bool
  | []=>false
  | op :: t=>fK op && (decide (szO op≤t.length+1) && fitsB (fA op) (fB op) (fN op) (xA (fU op) t) (xB (fU op) t) (xI (fU op) (fN op) t))
def Form (fa fb fu fn:Int):Prop:=
  (fa=0∧fb=0∧fu=0∧fn=0)∨(fa=7∧fb=7∧fu=16∧fn=0)∨(fa=7∧fb=0∧fu=16∧fn=0)∨(fa=0∧fb=0∧fu=0∧fn=4)∨(fa=7∧fb=0∧fu=1∧fn=4)∨(fa=0∧fb=0∧fu=0∧fn=1)
theorem form_of (op:Int):Form (fA op) (fB op) (fU op) (fN op):=by
  unfold Form fA fB fU fN
  by_cases h1:op=1
  · subst h1;decide
  by_cases h2:op=19
  · subst h2;decide
  by_cases h3:op=20
  · subst h3;decide
  by_cases h4:op=22
  · subst h4;decide
  by_cases h5:op=21
  · subst h5;decide
  by_cases h6:2≤op∧op≤16
  · rw [if_pos (by omega),if_pos (by omega),if_neg (by omega),if_pos (by omega),if_neg (by omega),if_neg (by omega)];decide
  by_cases h7:op=17∨op=18
  · rw [if_pos (by omega),if_neg (by omega),if_neg (by omega),if_pos (by omega),if_neg (by omega),if_neg (by omega)];decide
  · rw [if_neg (by omega),if_neg (by omega),if_neg (by omega),if_neg (by omega),if_neg (by omega),if_neg (by omega)];decide
theorem numL_len (imm:Int) (n:Nat):(numL imm n).length=n:=by
  induction n with
  | zero=>rfl
  | succ n ih=>simp [numL,ih]
theorem numL_one (imm:Int):numL imm 1=[imm % 256]:=by simp [numL]
theorem numL_four (imm:Int):numL imm 4=[imm % 256,imm / 256 % 256,imm / 65536 % 256,imm / 16777216 % 256]:=by simp [numL]
theorem numL_byte (imm:Int) (n:Nat):∀ x∈numL imm n,0≤x∧x≤255:=by
  induction n with
  | zero=>simp [numL]
  | succ n ih=>
    intro x hx
    rcases List.mem_append.1 hx with h | h
    · exact ih x h
    · simp at h;subst h;omega
def Bytes (l:List Int):Prop:=∀ x∈l,0≤x∧x≤255
theorem layF_len (op fu fn a b imm:Int) (h0:0≤fn):((layF op fu fn a b imm).length:Int)=szV fu fn:=by
  unfold layF szV
  by_cases h:0 < fu <;> simp [h,numL_len] <;> omega
theorem fitsB_iff (fa fb fn a b imm:Int):fitsB fa fb fn a b imm=true↔0≤a∧a≤fa∧0≤b∧b≤fb∧imm < 256 ^ fn.toNat:=by
  unfold fitsB;rw [decide_eq_true_iff]
theorem layF_byte (op fa fb fu fn a b imm:Int) (F:Form fa fb fu fn) (h0:0≤op) (h1:op≤23) (hf:fitsB fa fb fn a b imm=true):Bytes (layF op fu fn a b imm):=by
  rw [fitsB_iff] at hf
  intro x hx
  unfold layF at hx
  rcases List.mem_cons.1 hx with h | h
  · omega
  rcases List.mem_append.1 h with h | h
  · by_cases hu:0 < fu
    · rw [if_pos hu] at h;simp at h
      rcases F with F | F | F | F | F | F <;> obtain ⟨rfl,rfl,rfl,rfl⟩:=F <;> omega
    · rw [if_neg hu] at h;simp at h
  · exact numL_byte _ _ x h
theorem lay_read (op fa fb fu fn a b imm:Int) (F:Form fa fb fu fn) (hf:fitsB fa fb fn a b imm=true) (hi:0≤imm) (post:List Int) :
    ∃ t,layF op fu fn a b imm ++ post=op :: t∧xA fu t=a∧xB fu t=b∧xI fu fn t=imm∧szV fu fn≤(t.length:Int)+1:=by
  rw [fitsB_iff] at hf
  obtain ⟨a0,a1,b0,b1,hm⟩:=hf
  refine ⟨_,rfl,?_⟩
  rcases F with F | F | F | F | F | F <;> obtain ⟨rfl,rfl,rfl,rfl⟩:=F
  · simp [xA,xB,xI,numL,numV,szV] at *;omega
  · simp [xA,xB,xI,numL,numV,szV] at *;omega
  · simp [xA,xB,xI,numL,numV,szV] at *;omega
  · have e:(4:Int).toNat=4:=rfl
    rw [e] at hm ⊢
    simp [xA,xB,xI,numV,szV,e,numL_four] at *;omega
  · have e:(4:Int).toNat=4:=rfl
    rw [e] at hm ⊢
    simp [xA,xB,xI,numV,szV,e,numL_four] at *;omega
  · have e:(1:Int).toNat=1:=rfl
    rw [e] at hm ⊢
    simp [xA,xB,xI,numV,szV,e,numL_one] at *;omega
theorem read_lay (op fa fb fu fn:Int) (t:List Int) (F:Form fa fb fu fn) (ht:Bytes t) (hs:szV fu fn≤(t.length:Int)+1) :
    (op :: t).take (szV fu fn).toNat=layF op fu fn (xA fu t) (xB fu t) (xI fu fn t)∧0≤xI fu fn t∧xI fu fn t < 4294967296:=by
  rcases F with F | F | F | F | F | F <;> obtain ⟨rfl,rfl,rfl,rfl⟩:=F
  · simp [xI,numL,numV,szV,layF] at *
  · match t,hs with
    | [],hs=>simp [szV] at hs
    | x :: t,hs=>simp [xA,xB,xI,numL,numV,szV,layF] at *;omega
  · match t,hs with
    | [],hs=>simp [szV] at hs
    | x :: t,hs=>simp [xA,xB,xI,numL,numV,szV,layF] at *;omega
  · match t,hs with
    | [],hs=>simp [szV] at hs
    | [_],hs=>simp [szV] at hs
    | [_,_],hs=>simp [szV] at hs
    | [_,_,_],hs=>simp [szV] at hs
    | x :: y :: z :: u :: t,hs=>
      have hx:=ht x (by simp)
      have hy:=ht y (by simp)
      have hz:=ht z (by simp)
      have hu:=ht u (by simp)
      have e:(4:Int).toNat=4:=rfl
      simp [xI,numV,szV,layF,e,numL_four];omega
  · match t,hs with
    | [],hs=>simp [szV] at hs
    | [_],hs=>simp [szV] at hs
    | [_,_],hs=>simp [szV] at hs
    | [_,_,_],hs=>simp [szV] at hs
    | [_,_,_,_],hs=>simp [szV] at hs
    | v :: x :: y :: z :: u :: t,hs=>
      have hx:=ht x (by simp)
      have hy:=ht y (by simp)
      have hz:=ht z (by simp)
      have hu:=ht u (by simp)
      have e:(4:Int).toNat=4:=rfl
      simp [xA,xB,xI,numV,szV,layF,e,numL_four];omega
  · match t,hs with
    | [],hs=>simp [szV] at hs
    | x :: t,hs=>
      have hx:=ht x (by simp)
      have e:(1:Int).toNat=1:=rfl
      simp [xI,numV,szV,layF,e,numL_one];omega
theorem rightB_iff (op a b imm:Int):rightB op a b imm=true↔(0≤op∧op≤23)∧fitsB (fA op) (fB op) (fN op) a b imm=true:=by
  unfold rightB fK;rw [Bool.and_eq_true,decide_eq_true_iff]
theorem szO_ok {op:Int} (h:0≤op∧op≤23):szO op=szV (fU op) (fN op):=by unfold szO fK;rw [decide_eq_true h];rfl
theorem szO_no {op:Int} (h:¬ (0≤op∧op≤23)):szO op=0:=by unfold szO fK;rw [decide_eq_false h];rfl
theorem szV_bd (fa fb fu fn:Int) (F:Form fa fb fu fn):1≤szV fu fn∧szV fu fn≤6∧0≤fn∧fn≤4:=by
  unfold szV
  rcases F with F | F | F | F | F | F <;> obtain ⟨rfl,rfl,rfl,rfl⟩:=F <;> decide
theorem layL_ok {op a b imm:Int} (h:rightB op a b imm=true):layL op a b imm=layF op (fU op) (fN op) a b imm:=by unfold layL;rw [h];rfl
theorem layL_no {op a b imm:Int} (h:rightB op a b imm=false):layL op a b imm=[]:=by unfold layL;rw [h];rfl
theorem layL_len {op a b imm:Int} (h:rightB op a b imm=true):((layL op a b imm).length:Int)=szO op:=by
  rw [layL_ok h,layF_len _ _ _ _ _ _ (szV_bd _ _ _ _ (form_of op)).2.2.1,szO_ok ((rightB_iff _ _ _ _).1 h).1]
theorem szO_bd (op:Int):0≤szO op∧szO op≤6:=by
  by_cases h:0≤op∧op≤23
  · rw [szO_ok h];have:=szV_bd _ _ _ _ (form_of op);omega
  · rw [szO_no h];omega
theorem szO_pos {op:Int} (h:0≤op∧op≤23):1≤szO op:=by rw [szO_ok h];exact (szV_bd _ _ _ _ (form_of op)).1
theorem layL_byte (op a b imm:Int):Bytes (layL op a b imm):=by
  cases h:rightB op a b imm
  · rw [layL_no h];intro x hx;simp at hx
  · rw [layL_ok h]
    obtain ⟨h1,h2⟩:=(rightB_iff _ _ _ _).1 h
    exact layF_byte _ _ _ _ _ _ _ _ (form_of op) h1.1 h1.2 h2
def Rd (l:List Int) (op a b imm n:Int):Prop:=
  rdB l=true∧∃ t,l=op :: t∧a=xA (fU op) t∧b=xB (fU op) t∧imm=xI (fU op) (fN op) t∧n=szO op
theorem rd_of_lay (op a b imm:Int) (h:rightB op a b imm=true) (hi:0≤imm) (post:List Int):Rd (layL op a b imm ++ post) op a b imm (szO op):=by
  obtain ⟨h1,h2⟩:=(rightB_iff _ _ _ _).1 h
  obtain ⟨t,ht,ea,eb,ei,hs⟩:=lay_read op _ _ _ _ a b imm (form_of op) h2 hi post
  rw [layL_ok h,ht]
  refine ⟨?_,t,rfl,ea.symm,eb.symm,ei.symm,rfl⟩
  show (fK op && (decide (szO op≤t.length+1) && fitsB (fA op) (fB op) (fN op) (xA (fU op) t) (xB (fU op) t) (xI (fU op) (fN op) t)))=true
  rw [ea,eb,ei,h2,szO_ok h1]
  unfold fK
  simp [h1,hs]
theorem lay_of_rd (l:List Int) (op a b imm n:Int) (hl:Bytes l) (h:Rd l op a b imm n) :
    rightB op a b imm=true∧0≤imm∧imm < 4294967296∧n=szO op∧1≤n∧n≤l.length∧l.take n.toNat=layL op a b imm:=by
  obtain ⟨hr,t,rfl,rfl,rfl,rfl,rfl⟩:=h
  change (fK op && (decide (szO op≤t.length+1) && fitsB (fA op) (fB op) (fN op) (xA (fU op) t) (xB (fU op) t) (xI (fU op) (fN op) t)))=true at hr
  rw [Bool.and_eq_true,Bool.and_eq_true,decide_eq_true_iff] at hr
  obtain ⟨hk,hs,hf⟩:=hr
  have hk':0≤op∧op≤23:=by unfold fK at hk;exact of_decide_eq_true hk
  have hR:rightB op (xA (fU op) t) (xB (fU op) t) (xI (fU op) (fN op) t)=true:=(rightB_iff _ _ _ _).2 ⟨hk',hf⟩
  obtain ⟨e,i0,i1⟩:=read_lay op _ _ _ _ t (form_of op) (fun x hx=>hl x (by simp [hx])) (by rw [← szO_ok hk'];exact hs)
  refine ⟨hR,i0,i1,rfl,szO_pos hk',by simp;omega,?_⟩
  rw [layL_ok hR,← e,szO_ok hk']
theorem rd_fun {l:List Int} {op a b imm n op' a' b' imm' n':Int} (h:Rd l op a b imm n) (h':Rd l op' a' b' imm' n'):op=op'∧a=a'∧b=b'∧imm=imm'∧n=n':=by
  obtain ⟨_,t,rfl,rfl,rfl,rfl,rfl⟩:=h
  obtain ⟨_,t',e,rfl,rfl,rfl,rfl⟩:=h'
  injection e with e1 e2
  subst e1;subst e2
  exact ⟨rfl,rfl,rfl,rfl,rfl⟩
theorem rd_or (l:List Int):rdB l=false∨∃ op a b imm n,Rd l op a b imm n:=by
  cases h:rdB l
  · exact .inl rfl
  · right
    match l,h with
    | op :: t,h=>exact ⟨op,_,_,_,_,h,t,rfl,rfl,rfl,rfl,rfl⟩
end Go.Proofs.YteefmjhemhlapaaGreat
namespace Go.Proofs.YteefmjhemhlapaaGreat
open Go.ChangeShapes Go.WideShapes Go.ChangeAt Go.RowKit
set_option linter.unusedVariables false
set_option maxRecDepth 10000
theorem ret_int {k:IntKind} {a b:Int} (h:a=b):Ending.returned (.int k a)=.returned (.int k b):=by rw [h]
theorem ret_bool {a b:Bool} (h:a=b):Ending.returned (.bool a)=.returned (.bool b):=by rw [h]
theorem bel_al {w w':World} (h:Below w.heap.size w w') (o:Obj):Below w.heap.size w (w'.alloc o):=h.alloc h.size o
theorem bel_then {w a b:World} (h:Below w.heap.size w a) (k:Below a.heap.size a b):Below w.heap.size w b:=h.trans (k.mono h.size)
theorem bcell {W w1:World} (hb:Below W.heap.size W w1):(∀ b o,b < W.heap.size→w1.cell? ⟨b,o,none⟩=W.cell? ⟨b,o,none⟩)∧(∀ b o,b < W.heap.size→w1.frozen? ⟨b,o,none⟩=W.frozen? ⟨b,o,none⟩):=
  ⟨fun b o h=>hb.cell (p:=⟨b,o,none⟩) h,fun b o h=>hb.frozen (p:=⟨b,o,none⟩) h⟩
def kd (op:Int):Int:=
  if op=0∨op=23 then 1 else if op=17∨op=18∨op=21 then 3 else if op=19 then 4 else if op=1∨op=20 then 5 else if op=22 then 6 else if 2≤op∧op≤16 then 2 else 0
set_option maxHeartbeats 1000000 in
theorem kindOf_any (op:Int) (w:World):Calls Tryz.prog 115 #[.int .i64 op] w fun e w'=>e=.returned (.int .i64 (kd op))∧w=w':=by
  go_enter Tryz.func115,Tryz.ntmps115
  go_wp2
  all_goals (go_ret;exact ⟨ret_int (by simp only [beq_iff_eq,beq_eq_false_iff_ne] at *;unfold kd;(repeat first | rw [if_pos (by omega)] | rw [if_neg (by omega)])),rfl⟩)
def ent (k a b u n:Int) (c:Nat):MapEntry:={ key:=.int .i64 k,val:=.agg #[.int .i64 a,.int .i64 b,.int .i64 u,.int .i64 n],born:=c }
def formsM:Array MapEntry:=#[ent 1 0 0 0 0 0,ent 2 7 7 16 0 1,ent 3 7 0 16 0 2,ent 4 0 0 0 4 3,ent 5 7 0 1 4 4,ent 6 0 0 0 1 5]
theorem set_alloc (w:World) (o o':Obj):{ w.alloc o with heap:=(w.alloc o).heap.setIfInBounds w.heap.size o' }=w.alloc o':=by
  have e:(w.alloc o).heap.setIfInBounds w.heap.size o'=(w.alloc o').heap:=by
    show (w.heap.push o).setIfInBounds w.heap.size o'=w.heap.push o'
    apply Array.toList_inj.1
    simp
  rw [e];rfl
theorem ins_new (w:World) (es:Array MapEntry) (c:Nat) (k:Int) (v:Value) (h:Instr.findNow (.int .i64) (.int .i64 k) es.toList 0=some none) :
    (Instr.mapUpdate 186 (.map (some w.heap.size)) (.int .i64 k) v).run Tryz.prog (w.alloc (.map es c))=.ok () (w.alloc (.map (es.push { key:=.int .i64 k,val:=v,born:=c }) (c+1))):=by
  have hb:(w.alloc (.map es c)).heap[w.heap.size]?=some (.map es c):=heap_alloc_new w _
  have hk:MapKept.IsKey (.int .i64) (.int .i64 k):=rfl
  simp [Instr.mapUpdate,run_underlying Tryz.underlying186,MapKept.run_getObj_map hb,MapKept.run_checkKey Tryz.underlying3 hk,MapKept.run_findKey Tryz.underlying3 h,MapKept.run_setObj_map _ hb,Result.andThen]
  exact set_alloc w _ _
theorem forms_any (w:World):Calls Tryz.prog 114 #[] w fun e w'=>e=.returned (.map (some w.heap.size))∧w.alloc (.map formsM 6)=w':=by
  have hmm:=@run_makeMap Tryz.prog
  have h1:(Instr.mapUpdate 186 (.map (some w.heap.size)) (.int .i64 1) (.agg #[.int .i64 0,.int .i64 0,.int .i64 0,.int .i64 0])).run Tryz.prog (w.alloc (.map #[] 0))=.ok () (w.alloc (.map #[{ key:=.int .i64 1,val:=.agg #[.int .i64 0,.int .i64 0,.int .i64 0,.int .i64 0],born:=0 }] 1)):=ins_new w #[] 0 1 (.agg #[.int .i64 0,.int .i64 0,.int .i64 0,.int .i64 0]) rfl
  have h2:(Instr.mapUpdate 186 (.map (some w.heap.size)) (.int .i64 2) (.agg #[.int .i64 7,.int .i64 7,.int .i64 16,.int .i64 0])).run Tryz.prog (w.alloc (.map #[{ key:=.int .i64 1,val:=.agg #[.int .i64 0,.int .i64 0,.int .i64 0,.int .i64 0],born:=0 }] 1))=.ok () (w.alloc (.map #[{ key:=.int .i64 1,val:=.agg #[.int .i64 0,.int .i64 0,.int .i64 0,.int .i64 0],born:=0 },{ key:=.int .i64 2,val:=.agg #[.int .i64 7,.int .i64 7,.int .i64 16,.int .i64 0],born:=1 }] 2)):=ins_new w #[{ key:=.int .i64 1,val:=.agg #[.int .i64 0,.int .i64 0,.int .i64 0,.int .i64 0],born:=0 }] 1 2 (.agg #[.int .i64 7,.int .i64 7,.int .i64 16,.int .i64 0]) rfl
  have h3:(Instr.mapUpdate 186 (.map (some w.heap.size)) (.int .i64 3) (.agg #[.int .i64 7,.int .i64 0,.int .i64 16,.int .i64 0])).run Tryz.prog (w.alloc (.map #[{ key:=.int .i64 1,val:=.agg #[.int .i64 0,.int .i64 0,.int .i64 0,.int .i64 0],born:=0 },{ key:=.int .i64 2,val:=.agg #[.int .i64 7,.int .i64 7,.int .i64 16,.int .i64 0],born:=1 }] 2))=.ok () (w.alloc (.map #[{ key:=.int .i64 1,val:=.agg #[.int .i64 0,.int .i64 0,.int .i64 0,.int .i64 0],born:=0 },{ key:=.int .i64 2,val:=.agg #[.int .i64 7,.int .i64 7,.int .i64 16,.int .i64 0],born:=1 },{ key:=.int .i64 3,val:=.agg #[.int .i64 7,.int .i64 0,.int .i64 16,.int .i64 0],born:=2 }] 3)):=ins_new w #[{ key:=.int .i64 1,val:=.agg #[.int .i64 0,.int .i64 0,.int .i64 0,.int .i64 0],born:=0 },{ key:=.int .i64 2,val:=.agg #[.int .i64 7,.int .i64 7,.int .i64 16,.int .i64 0],born:=1 }] 2 3 (.agg #[.int .i64 7,.int .i64 0,.int .i64 16,.int .i64 0]) rfl
  have h4:(Instr.mapUpdate 186 (.map (some w.heap.size)) (.int .i64 4) (.agg #[.int .i64 0,.int .i64 0,.int .i64 0,.int .i64 4])).run Tryz.prog (w.alloc (.map #[{ key:=.int .i64 1,val:=.agg #[.int .i64 0,.int .i64 0,.int .i64 0,.int .i64 0],born:=0 },{ key:=.int .i64 2,val:=.agg #[.int .i64 7,.int .i64 7,.int .i64 16,.int .i64 0],born:=1 },{ key:=.int .i64 3,val:=.agg #[.int .i64 7,.int .i64 0,.int .i64 16,.int .i64 0],born:=2 }] 3))=.ok () (w.alloc (.map #[{ key:=.int .i64 1,val:=.agg #[.int .i64 0,.int .i64 0,.int .i64 0,.int .i64 0],born:=0 },{ key:=.int .i64 2,val:=.agg #[.int .i64 7,.int .i64 7,.int .i64 16,.int .i64 0],born:=1 },{ key:=.int .i64 3,val:=.agg #[.int .i64 7,.int .i64 0,.int .i64 16,.int .i64 0],born:=2 },{ key:=.int .i64 4,val:=.agg #[.int .i64 0,.int .i64 0,.int .i64 0,.int .i64 4],born:=3 }] 4)):=ins_new w #[{ key:=.int .i64 1,val:=.agg #[.int .i64 0,.int .i64 0,.int .i64 0,.int .i64 0],born:=0 },{ key:=.int .i64 2,val:=.agg #[.int .i64 7,.int .i64 7,.int .i64 16,.int .i64 0],born:=1 },{ key:=.int .i64 3,val:=.agg #[.int .i64 7,.int .i64 0,.int .i64 16,.int .i64 0],born:=2 }] 3 4 (.agg #[.int .i64 0,.int .i64 0,.int .i64 0,.int .i64 4]) rfl
  have h5:(Instr.mapUpdate 186 (.map (some w.heap.size)) (.int .i64 5) (.agg #[.int .i64 7,.int .i64 0,.int .i64 1,.int .i64 4])).run Tryz.prog (w.alloc (.map #[{ key:=.int .i64 1,val:=.agg #[.int .i64 0,.int .i64 0,.int .i64 0,.int .i64 0],born:=0 },{ key:=.int .i64 2,val:=.agg #[.int .i64 7,.int .i64 7,.int .i64 16,.int .i64 0],born:=1 },{ key:=.int .i64 3,val:=.agg #[.int .i64 7,.int .i64 0,.int .i64 16,.int .i64 0],born:=2 },{ key:=.int .i64 4,val:=.agg #[.int .i64 0,.int .i64 0,.int .i64 0,.int .i64 4],born:=3 }] 4))=.ok () (w.alloc (.map #[{ key:=.int .i64 1,val:=.agg #[.int .i64 0,.int .i64 0,.int .i64 0,.int .i64 0],born:=0 },{ key:=.int .i64 2,val:=.agg #[.int .i64 7,.int .i64 7,.int .i64 16,.int .i64 0],born:=1 },{ key:=.int .i64 3,val:=.agg #[.int .i64 7,.int .i64 0,.int .i64 16,.int .i64 0],born:=2 },{ key:=.int .i64 4,val:=.agg #[.int .i64 0,.int .i64 0,.int .i64 0,.int .i64 4],born:=3 },{ key:=.int .i64 5,val:=.agg #[.int .i64 7,.int .i64 0,.int .i64 1,.int .i64 4],born:=4 }] 5)):=ins_new w #[{ key:=.int .i64 1,val:=.agg #[.int .i64 0,.int .i64 0,.int .i64 0,.int .i64 0],born:=0 },{ key:=.int .i64 2,val:=.agg #[.int .i64 7,.int .i64 7,.int .i64 16,.int .i64 0],born:=1 },{ key:=.int .i64 3,val:=.agg #[.int .i64 7,.int .i64 0,.int .i64 16,.int .i64 0],born:=2 },{ key:=.int .i64 4,val:=.agg #[.int .i64 0,.int .i64 0,.int .i64 0,.int .i64 4],born:=3 }] 4 5 (.agg #[.int .i64 7,.int .i64 0,.int .i64 1,.int .i64 4]) rfl
  have h6:(Instr.mapUpdate 186 (.map (some w.heap.size)) (.int .i64 6) (.agg #[.int .i64 0,.int .i64 0,.int .i64 0,.int .i64 1])).run Tryz.prog (w.alloc (.map #[{ key:=.int .i64 1,val:=.agg #[.int .i64 0,.int .i64 0,.int .i64 0,.int .i64 0],born:=0 },{ key:=.int .i64 2,val:=.agg #[.int .i64 7,.int .i64 7,.int .i64 16,.int .i64 0],born:=1 },{ key:=.int .i64 3,val:=.agg #[.int .i64 7,.int .i64 0,.int .i64 16,.int .i64 0],born:=2 },{ key:=.int .i64 4,val:=.agg #[.int .i64 0,.int .i64 0,.int .i64 0,.int .i64 4],born:=3 },{ key:=.int .i64 5,val:=.agg #[.int .i64 7,.int .i64 0,.int .i64 1,.int .i64 4],born:=4 }] 5))=.ok () (w.alloc (.map #[{ key:=.int .i64 1,val:=.agg #[.int .i64 0,.int .i64 0,.int .i64 0,.int .i64 0],born:=0 },{ key:=.int .i64 2,val:=.agg #[.int .i64 7,.int .i64 7,.int .i64 16,.int .i64 0],born:=1 },{ key:=.int .i64 3,val:=.agg #[.int .i64 7,.int .i64 0,.int .i64 16,.int .i64 0],born:=2 },{ key:=.int .i64 4,val:=.agg #[.int .i64 0,.int .i64 0,.int .i64 0,.int .i64 4],born:=3 },{ key:=.int .i64 5,val:=.agg #[.int .i64 7,.int .i64 0,.int .i64 1,.int .i64 4],born:=4 },{ key:=.int .i64 6,val:=.agg #[.int .i64 0,.int .i64 0,.int .i64 0,.int .i64 1],born:=5 }] 6)):=ins_new w #[{ key:=.int .i64 1,val:=.agg #[.int .i64 0,.int .i64 0,.int .i64 0,.int .i64 0],born:=0 },{ key:=.int .i64 2,val:=.agg #[.int .i64 7,.int .i64 7,.int .i64 16,.int .i64 0],born:=1 },{ key:=.int .i64 3,val:=.agg #[.int .i64 7,.int .i64 0,.int .i64 16,.int .i64 0],born:=2 },{ key:=.int .i64 4,val:=.agg #[.int .i64 0,.int .i64 0,.int .i64 0,.int .i64 4],born:=3 },{ key:=.int .i64 5,val:=.agg #[.int .i64 7,.int .i64 0,.int .i64 1,.int .i64 4],born:=4 }] 5 6 (.agg #[.int .i64 0,.int .i64 0,.int .i64 0,.int .i64 1]) rfl
  go_enter Tryz.func114,Tryz.ntmps114
  go_wp2
  go_ret
  exact ⟨rfl,rfl⟩
def kA (k:Int):Int:=if k=2∨k=3∨k=5 then 7 else 0
def kB (k:Int):Int:=if k=2 then 7 else 0
def kU (k:Int):Int:=if k=2∨k=3 then 16 else if k=5 then 1 else 0
def kN (k:Int):Int:=if k=4∨k=5 then 4 else if k=6 then 1 else 0
def kK (k:Int):Bool:=decide (1≤k∧k≤6)
theorem find_forms (k:Int):Instr.findNow (.int .i64) (.int .i64 k) formsM.toList 0=some (if 1≤k∧k≤6 then some ((k - 1).toNat,.agg #[.int .i64 (kA k),.int .i64 (kB k),.int .i64 (kU k),.int .i64 (kN k)]) else none):=by
  by_cases h:1≤k∧k≤6
  · rw [if_pos h]
    obtain rfl | rfl | rfl | rfl | rfl | rfl:k=1∨k=2∨k=3∨k=4∨k=5∨k=6:=by omega
    all_goals rfl
  · rw [if_neg h]
    have e1:(k == 1)=false:=by simp;omega
    have e2:(k == 2)=false:=by simp;omega
    have e3:(k == 3)=false:=by simp;omega
    have e4:(k == 4)=false:=by simp;omega
    have e5:(k == 5)=false:=by simp;omega
    have e6:(k == 6)=false:=by simp;omega
    simp [formsM,ent,Instr.findNow,Instr.sameNow,e1,e2,e3,e4,e5,e6]
theorem look_forms (w:World) (k:Int) :
    (Instr.lookup 186 (.map (some w.heap.size)) (.int .i64 k) true).run Tryz.prog (w.alloc (.map formsM 6))=.ok (.tuple #[.agg #[.int .i64 (kA k),.int .i64 (kB k),.int .i64 (kU k),.int .i64 (kN k)],.bool (kK k)]) (w.alloc (.map formsM 6)):=by
  have hb:(w.alloc (.map formsM 6)).heap[w.heap.size]?=some (.map formsM 6):=heap_alloc_new w _
  have hk:MapKept.IsKey (.int .i64) (.int .i64 k):=rfl
  have hf:=find_forms k
  by_cases h:1≤k∧k≤6
  · rw [if_pos h] at hf
    simp [Instr.lookup,run_underlying Tryz.underlying186,MapKept.run_getObj_map hb,MapKept.run_checkKey Tryz.underlying3 hk,MapKept.run_findKey Tryz.underlying3 hf,Result.andThen,kK,h]
  · rw [if_neg h] at hf
    have hz:kA k=0∧kB k=0∧kU k=0∧kN k=0:=by
      unfold kA kB kU kN
      rw [if_neg (by omega),if_neg (by omega),if_neg (by omega),if_neg (by omega),if_neg (by omega),if_neg (by omega)]
      exact ⟨rfl,rfl,rfl,rfl⟩
    have hK:kK k=false:=decide_eq_false h
    simp [Instr.lookup,run_underlying Tryz.underlying186,MapKept.run_getObj_map hb,MapKept.run_checkKey Tryz.underlying3 hk,MapKept.run_findKey Tryz.underlying3 hf,Result.andThen,hK,hz]
theorem kd_form (op:Int):kA (kd op)=fA op∧kB (kd op)=fB op∧kU (kd op)=fU op∧kN (kd op)=fN op∧kK (kd op)=fK op:=by
  by_cases h:0≤op∧op≤23
  · obtain ⟨n,rfl⟩:∃ n:Nat,op=n:=⟨op.toNat,by omega⟩
    have hn:n < 24:=by omega
    clear h
    revert n
    decide
  · have hd:kd op=0:=by
      unfold kd
      rw [if_neg (by omega),if_neg (by omega),if_neg (by omega),if_neg (by omega),if_neg (by omega),if_neg (by omega)]
    have hk:fK op=false:=decide_eq_false h
    rw [hd,hk]
    unfold fA fB fU fN
    rw [if_neg (by omega),if_neg (by omega),if_neg (by omega),if_neg (by omega),if_neg (by omega),if_neg (by omega)]
    decide
theorem formOf_k (op k a b u n:Int) (ok:Bool) (c:∀ w,Calls Tryz.prog 115 #[.int .i64 op] w fun e w'=>e=.returned (.int .i64 k)∧w=w')
    (hl:∀ w:World,(Instr.lookup 186 (.map (some w.heap.size)) (.int .i64 k) true).run Tryz.prog (w.alloc (.map formsM 6))=.ok (.tuple #[.agg #[.int .i64 a,.int .i64 b,.int .i64 u,.int .i64 n],.bool ok]) (w.alloc (.map formsM 6))) (w:World) :
    Calls Tryz.prog 94 #[.int .i64 op] w fun e w'=>e=.returned (.tuple #[.agg #[.int .i64 a,.int .i64 b,.int .i64 u,.int .i64 n],.bool ok])∧Below w.heap.size w w':=by
  have C:=Lib.hid c;clear c
  have hl1:=hl (w.alloc (.cells #[.int .i64 0,.int .i64 0,.int .i64 0,.int .i64 0] 161))
  rw [show (w.alloc (.cells #[.int .i64 0,.int .i64 0,.int .i64 0,.int .i64 0] 161)).heap.size=w.heap.size+1 by simp] at hl1
  clear hl
  go_enter Tryz.func94,Tryz.ntmps94
  go_wp2_with fail
  refine (forms_any _).mono ?_;rintro e w' ⟨rfl,rfl⟩
  go_wp2_with fail
  refine (C.out _).mono ?_;rintro e w' ⟨rfl,rfl⟩
  go_wp2_with fail
  refine bodyPost_ret (v:=.tuple #[.agg #[.int .i64 a,.int .i64 b,.int .i64 u,.int .i64 n],.bool ok]) (by simp [results,Tryz.results94,go_sem]) rfl ⟨rfl,?_⟩
  exact bel_al (bel_al (bel_al (Below.refl _ _) _) _) _
theorem formOf_any (op:Int) (w:World) :
    Calls Tryz.prog 94 #[.int .i64 op] w fun e w'=>e=.returned (.tuple #[.agg #[.int .i64 (fA op),.int .i64 (fB op),.int .i64 (fU op),.int .i64 (fN op)],.bool (fK op)])∧Below w.heap.size w w':=by
  obtain ⟨e1,e2,e3,e4,e5⟩:=kd_form op
  have h:=fun w=>look_forms w (kd op)
  rw [e1,e2,e3,e4,e5] at h
  exact formOf_k op _ _ _ _ _ _ (kindOf_any op) h w
theorem size_any (a b u n:Int) (h0:0≤n) (h1:n≤4) (w:World) :
    Calls Tryz.prog 95 #[.agg #[.int .i64 a,.int .i64 b,.int .i64 u,.int .i64 n]] w fun e w'=>e=.returned (.int .i64 (szV u n))∧Below w.heap.size w w':=by
  by_cases hu:0 < u
  · have e:szV u n=2+n:=if_pos hu
    rw [e];clear e
    go_enter Tryz.func95,Tryz.ntmps95
    go_wp2
    go_ret
    exact ⟨rfl,bel_al (Below.refl _ _) _⟩
  · have e:szV u n=1+n:=if_neg hu
    rw [e];clear e
    go_enter Tryz.func95,Tryz.ntmps95
    go_wp2
    go_ret
    exact ⟨rfl,bel_al (Below.refl _ _) _⟩
def fitsM (fa fb m a b imm:Int):Bool:=decide (0≤a∧a≤fa∧0≤b∧b≤fb∧imm < m)
theorem fits_n (n:Nat) (m fa fb op a b imm:Int) (hm:(n=0∧m=1)∨(n=1∧m=256)∨(n=4∧m=4294967296)) (u:Int) (h0:0≤imm) (h1:imm < 4294967296) (w:World) :
    Calls Tryz.prog 97 #[.agg #[.int .i64 fa,.int .i64 fb,.int .i64 u,.int .i64 n],.agg #[.int .i64 op,.int .i64 a,.int .i64 b,.int .u32 imm]] w
      fun e w'=>e=.returned (.bool (fitsM fa fb m a b imm))∧Below w.heap.size w w':=by
  have hc:(0≤a∧a≤fa∧0≤b∧b≤fb)∨(0≤a∧a≤fa∧0≤b∧¬ b≤fb)∨(0≤a∧a≤fa∧¬ 0≤b)∨(0≤a∧¬ a≤fa)∨¬ 0≤a:=by omega
  rcases hm with ⟨rfl,rfl⟩ | ⟨rfl,rfl⟩ | ⟨rfl,rfl⟩ <;> rcases hc with ⟨c1,c2,c3,c4⟩ | ⟨c1,c2,c3,c4⟩ | ⟨c1,c2,c3⟩ | ⟨c1,c2⟩ | c1
  all_goals
    go_enter Tryz.func97,Tryz.ntmps97
    go_wp2
    go_ret
    exact ⟨ret_bool (by unfold fitsM;first | (rw [Bool.eq_iff_iff,decide_eq_true_iff,decide_eq_true_iff];omega) | (symm;rw [decide_eq_false_iff_not];omega)),bel_al (bel_al (Below.refl _ _) _) _⟩
theorem fits_any (fa fb fu fn op a b imm:Int) (F:Form fa fb fu fn) (h0:0≤imm) (h1:imm < 4294967296) (w:World) :
    Calls Tryz.prog 97 #[.agg #[.int .i64 fa,.int .i64 fb,.int .i64 fu,.int .i64 fn],.agg #[.int .i64 op,.int .i64 a,.int .i64 b,.int .u32 imm]] w
      fun e w'=>e=.returned (.bool (fitsB fa fb fn a b imm))∧Below w.heap.size w w':=by
  have hn:fn=0∨fn=1∨fn=4:=by unfold Form at F;omega
  rcases hn with rfl | rfl | rfl
  · exact fits_n 0 1 fa fb op a b imm (by omega) fu h0 h1 w
  · exact fits_n 1 256 fa fb op a b imm (by omega) fu h0 h1 w
  · exact fits_n 4 4294967296 fa fb op a b imm (by omega) fu h0 h1 w
theorem Size_any (op:Int) (w:World):Calls Tryz.prog 131 #[.int .i64 op] w fun e w'=>e=.returned (.int .i64 (szO op))∧Below w.heap.size w w':=by
  obtain ⟨_,_,n0,n1⟩:=szV_bd _ _ _ _ (form_of op)
  have hf:=formOf_any op
  cases hk:fK op
  · rw [show szO op=0 by unfold szO;rw [hk];rfl]
    rw [hk] at hf
    have C:=Lib.hid hf;clear hf hk n0 n1
    go_enter Tryz.func131,Tryz.ntmps131
    go_wp2_with fail
    refine (C.out _).mono ?_;rintro e w1 ⟨rfl,hb1⟩
    go_wp2_with fail
    go_ret
    exact ⟨rfl,bel_al hb1 _⟩
  · rw [show szO op=szV (fU op) (fN op) by unfold szO;rw [hk];rfl]
    rw [hk] at hf
    have D:=Lib.hid (size_any (fA op) (fB op) (fU op) (fN op) n0 n1)
    have C:=Lib.hid hf;clear hf hk n0 n1
    go_enter Tryz.func131,Tryz.ntmps131
    go_wp2_with fail
    refine (C.out _).mono ?_;rintro e w1 ⟨rfl,hb1⟩
    go_wp2_with fail
    refine (D.out _).mono ?_;rintro e w2 ⟨rfl,hb2⟩
    go_wp2_with fail
    go_ret
    exact ⟨rfl,bel_then (bel_al hb1 _) hb2⟩
theorem Right_any (op a b imm:Int) (h0:0≤imm) (h1:imm < 4294967296) (w:World) :
    Calls Tryz.prog 130 #[.agg #[.int .i64 op,.int .i64 a,.int .i64 b,.int .u32 imm]] w fun e w'=>e=.returned (.bool (rightB op a b imm))∧Below w.heap.size w w':=by
  have hf:=formOf_any op
  cases hk:fK op
  · rw [show rightB op a b imm=false by unfold rightB;rw [hk];rfl]
    rw [hk] at hf
    have C:=Lib.hid hf;clear hf hk
    go_enter Tryz.func130,Tryz.ntmps130
    go_wp2_with fail
    refine (C.out _).mono ?_;rintro e w1 ⟨rfl,hb1⟩
    go_wp2_with fail
    go_ret
    exact ⟨rfl,bel_al (bel_then (bel_al (Below.refl _ _) _) hb1) _⟩
  · rw [show rightB op a b imm=fitsB (fA op) (fB op) (fN op) a b imm by unfold rightB;rw [hk];rfl]
    rw [hk] at hf
    have D:=Lib.hid (fits_any (fA op) (fB op) (fU op) (fN op) op a b imm (form_of op) h0 h1)
    have C:=Lib.hid hf;clear hf hk
    go_enter Tryz.func130,Tryz.ntmps130
    go_wp2_with fail
    refine (C.out _).mono ?_;rintro e w1 ⟨rfl,hb1⟩
    obtain ⟨hc,hf⟩:=bcell hb1
    have hz:w.heap.size < w1.heap.size:=by have:=hb1.size;simp at this;omega
    go_wp2_with fail
    refine (D.out _).mono ?_;rintro e w2 ⟨rfl,hb2⟩
    go_wp2_with fail
    go_ret
    exact ⟨rfl,bel_then (bel_al (bel_then (bel_al (Below.refl _ _) _) hb1) _) hb2⟩
end Go.Proofs.YteefmjhemhlapaaGreat
namespace Go.Proofs.YteefmjhemhlapaaGreat
open Go.ChangeShapes Go.WideShapes Go.ChangeAt Go.RowKit
set_option linter.unusedVariables false
set_option maxRecDepth 10000
theorem pow8 (k:Nat):(2:Int) ^ (8 * k)=256 ^ k:=by rw [Int.pow_mul];rfl
end Go.Proofs.YteefmjhemhlapaaGreat
namespace Go.Proofs.YteefmjhemhlapaaGreat
open Go.ChangeShapes Go.WideShapes Go.ChangeAt Go.RowKit
set_option linter.unusedVariables false
set_option maxRecDepth 10000
def RowAt (w:World) (A:Option Addr) (cap:Nat) (l:List Int):Prop:=
  l.length≤cap∧cap≤maxLen∧Bytes l∧(l≠[]→∃ x,A=some x∧x.block < w.heap.size∧∀ i,i < l.length→w.cell? (x.add i)=some (.int .u8 (l.getD i 0)))
theorem block_add (a:Addr) (n:Nat):(a.add n).block=a.block:=by unfold Addr.add;split <;> rfl
theorem kept3 {w:World} {a:Addr} {v:Value} (h:w.cell? a=some v) (hb:a.block < w.heap.size) (o1 o2 o3:Obj):(((w.alloc o1).alloc o2).alloc o3).cell? a=some v:=by
  rw [World.cell?_alloc_lt _ _ _ (by simp;omega),World.cell?_alloc_lt _ _ _ (by simp;omega),World.cell?_alloc_lt _ _ _ hb,h]
theorem row_byte {l:List Int} (h:Bytes l) (k:Nat) (hk:k < l.length):0≤l.getD k 0∧l.getD k 0≤255:=by
  have e:l.getD k 0=l[k]:=by simp [List.getD,List.getElem?_eq_getElem hk]
  rw [e];exact h _ (List.getElem_mem hk)
theorem numV_bd (l:List Int) (h:Bytes l):0≤numV l∧numV l < 256 ^ l.length:=by
  induction l with
  | nil=>decide
  | cons x t ih=>
    have h1:=h x (by simp)
    have h2:=ih (fun y hy=>h y (by simp [hy]))
    show 0≤x+256 * numV t∧x+256 * numV t < 256 ^ (t.length+1)
    rw [Int.pow_succ]
    omega
theorem numV_snoc (l:List Int) (x:Int):numV (l ++ [x])=numV l+256 ^ l.length * x:=by
  induction l with
  | nil=>simp [numV]
  | cons y t ih=>
    show y+256 * numV (t ++ [x])=y+256 * numV t+256 ^ (t.length+1) * x
    rw [ih,Int.pow_succ,Int.mul_add,← Int.mul_assoc,Int.mul_comm 256 (256 ^ t.length),Int.add_assoc]
theorem numV_take (t:List Int) (k:Nat) (h:k < t.length):numV (t.take (k+1))=numV (t.take k)+256 ^ k * t.getD k 0:=by
  have e:t.getD k 0=t[k]:=by simp [List.getD,List.getElem?_eq_getElem h]
  rw [List.take_succ_eq_append_getElem h,numV_snoc,List.length_take,Nat.min_eq_left (by omega),e]
theorem take_byte {l:List Int} (h:Bytes l) (k:Nat):Bytes (l.take k):=fun x hx=>h x (List.mem_of_mem_take hx)
theorem or_join (mk bk:Int) (k:Nat) (hk:k < 4) (h0:0≤mk) (h1:mk < 256 ^ k) (h2:0≤bk) (h3:bk≤255):bits .or .u32 mk (bk * 2 ^ (8 * k) % 4294967296)=mk+256 ^ k * bk:=by
  rw [pow8]
  obtain ⟨x,rfl⟩:∃ n:Nat,mk=n:=⟨mk.toNat,by omega⟩
  obtain ⟨y,rfl⟩:∃ n:Nat,bk=n:=⟨bk.toNat,by omega⟩
  have hj:(x ||| y * 256 ^ k)=x+y * 256 ^ k:=by
    rw [Nat.or_comm,Nat.add_comm]
    refine nat_join (8 * k) _ _ ?_ ?_
    · rw [Nat.pow_mul];exact Nat.mul_mod_left _ _
    · rw [Nat.pow_mul]
      have h1':(x:Int) < ((256 ^ k:Nat):Int):=by rw [Int.natCast_pow];exact h1
      exact Int.ofNat_lt.1 h1'
  have hy:y≤255:=by omega
  have hm:(y:Int) * 256 ^ k % 4294967296=((y * 256 ^ k:Nat):Int)∧y * 256 ^ k < 4294967296∧x < 4294967296:=by
    obtain rfl | rfl | rfl | rfl:k=0∨k=1∨k=2∨k=3:=by omega
    all_goals (refine ⟨?_,?_,?_⟩ <;> omega)
  rw [hm.1,u32_or_nat _ _ hm.2.2 hm.2.1,hj]
  rw [Int.natCast_add,Int.natCast_mul,Int.natCast_pow,Int.mul_comm (y:Int)]
  rfl
theorem set4 (W:World) (a b c d v:Value) (T:TypeId) (m g:Nat) (hg:g=W.heap.size):((W.alloc (.cells #[a,b,c,d] T)).drewN m).setCell ⟨g,3,none⟩ v=(W.alloc (.cells #[a,b,c,v] T)).drewN m:=by
  subst hg
  have e:(W.heap.push (.cells #[a,b,c,d] T)).modify W.heap.size (fun o=>match o with
      | .cells c elem frozen=>.cells (c.setIfInBounds 3 v) elem frozen
      | o=>o)=W.heap.push (.cells #[a,b,c,v] T):=by
    apply Array.ext
    · simp
    · intro i h1 h2
      simp only [Array.getElem_modify,Array.getElem_push]
      by_cases hi:i < W.heap.size
      · rw [dif_pos hi,if_neg (by omega),dif_pos hi]
      · rw [dif_neg hi,if_pos (by simp at h2;omega),dif_neg hi];rfl
  unfold World.setCell
  show ({ (W.alloc (.cells #[a,b,c,d] T)).drewN m with heap:=(W.heap.push (.cells #[a,b,c,d] T)).modify W.heap.size (fun o=>match o with
      | .cells c elem frozen=>.cells (c.setIfInBounds 3 v) elem frozen
      | o=>o) }:World)=_
  rw [e];rfl
def ReadRel (w:World) (fO:Obj) (op a b:Int) (n:Nat) (t:List Int) (i:Value) (w':World):Prop:=
  ∃ k m:Nat,k≤n∧i=.int .i64 k∧w'=(((w.alloc fO).alloc (.cells #[.int .i64 0,.int .i64 0,.int .i64 0,.int .u32 0] 134)).alloc (.cells #[.int .i64 op,.int .i64 a,.int .i64 b,.int .u32 (numV (t.take k))] 134)).drewN m
theorem below_drewN {B:Nat} {w w':World} (h:Below B w w') (n:Nat):Below B w (w'.drewN n):=⟨h.os,h.tape,h.output,h.size,h.block⟩
theorem mk_bd {n k:Nat} {t:List Int} {mk:Int} (hlt:k < n) (hn:n≤4) (hl:n≤t.length) (hby:Bytes t) (hmk:numV (t.take k)=mk):0≤mk∧mk < 4294967296:=by
  have hv:=numV_bd _ (take_byte hby k)
  rw [List.length_take,Nat.min_eq_left (by omega),hmk] at hv
  obtain rfl | rfl | rfl | rfl:k=0∨k=1∨k=2∨k=3:=by omega
  all_goals (simp at hv;omega)
theorem readRel_step {w:World} {fO:Obj} {op a b:Int} {n k m g:Nat} {t:List Int} {mk bk:Int} (hlt:k < n) (hn:n≤4) (hl:n≤t.length) (hby:Bytes t) (hg:g=w.heap.size+2) (hmk:numV (t.take k)=mk) (hbk:t.getD k 0=bk) :
    ReadRel w fO op a b n t (.int .i64 ((k:Int)+1)) (((((w.alloc fO).alloc (.cells #[.int .i64 0,.int .i64 0,.int .i64 0,.int .u32 0] 134)).alloc (.cells #[.int .i64 op,.int .i64 a,.int .i64 b,.int .u32 mk] 134)).drewN m).setCell ⟨g,3,none⟩
      (.int .u32 (bits .or .u32 mk (bk * 2 ^ (8 * k) % 4294967296)))):=by
  have hb:=row_byte hby k (by omega)
  have hv:=numV_bd _ (take_byte hby k)
  rw [List.length_take,Nat.min_eq_left (by omega),hmk] at hv
  rw [hbk] at hb
  rw [set4 _ _ _ _ _ _ _ _ _ (by simp [hg]),or_join mk bk k (by omega) hv.1 hv.2 hb.1 hb.2]
  exact ⟨k+1,m,hlt,by simp,by rw [numV_take t k (by omega),hmk,hbk]⟩
theorem read_0 (fa fb fu op:Int) (n:Nat) (hu:¬ 0 < fu) (hn:n≤4) (t:List Int) (A:Option Addr) (cap:Nat) (w:World) (hr:RowAt w A cap t) (hl:n≤t.length) :
    Calls Tryz.prog 96 #[.agg #[.int .i64 fa,.int .i64 fb,.int .i64 fu,.int .i64 n],.int .i64 op,.slice A t.length cap] w
      fun e w'=>e=.returned (.agg #[.int .i64 op,.int .i64 0,.int .i64 0,.int .u32 (numV (t.take n))])∧Below w.heap.size w w':=by
  go_enter Tryz.func96,Tryz.ntmps96
  go_wp2_with fail
  go_loopw [34] (fun i w'=>ReadRel w (.cells #[.int .i64 fa,.int .i64 fb,.int .i64 fu,.int .i64 n] 161) op 0 0 n t i w') (fun i _=>n - (intOf i).toNat)
  case atStart=>exact ⟨0,0,Nat.zero_le _,rfl,rfl⟩
  case round=>
    obtain ⟨k,m,hk,rfl,rfl⟩:=hrel
    by_cases hlt:k < n
    · obtain ⟨hl1,hl2,hby,hex⟩:=hr
      obtain ⟨x,rfl,hx,hc⟩:=hex (by intro h;subst h;simp at hl;omega)
      have hkl:k < t.length:=by omega
      have hbd:=row_byte hby k hkl
      have hck:=kept3 (hc k hkl) (by rw [block_add];exact hx) (.cells #[.int .i64 fa,.int .i64 fb,.int .i64 fu,.int .i64 n] 161) (.cells #[.int .i64 0,.int .i64 0,.int .i64 0,.int .u32 0] 134) (.cells #[.int .i64 op,.int .i64 0,.int .i64 0,.int .u32 (numV (t.take k))] 134)
      clear hc hex
      obtain ⟨bk,hbk⟩:∃ v,t.getD k 0=v:=⟨_,rfl⟩
      rw [hbk] at hck hbd
      have HBK:=Lib.hid hbk;clear hbk
      obtain ⟨hb0,hb1⟩:=hbd
      obtain ⟨mk,hmk⟩:∃ v,numV (t.take k)=v:=⟨_,rfl⟩
      rw [hmk] at hck ⊢
      have HMK:=Lib.hid hmk;clear hmk
      obtain ⟨hm0,hm1⟩:=mk_bd hlt hn hl hby HMK.out
      have hkI:(k:Int) < (t.length:Int):=by omega
      go_wp2_with fail
      go_region
      go_wp2
      exact ⟨readRel_step hlt hn hl hby rfl HMK.out HBK.out,by simp [intOf];omega⟩
    · have hkn:k=n:=by omega
      have HK:=Lib.hid hkn;clear hkn
      go_wp2
      rw [HK.out]
      refine bodyPost_ret (v:=.agg #[.int .i64 op,.int .i64 0,.int .i64 0,.int .u32 (numV (t.take n))]) (by simp [results,Tryz.results96,go_sem]) rfl ⟨rfl,?_⟩
      exact ((((below_drewN (bel_al (bel_al (bel_al (Below.refl _ _) _) _) _) m).setCell (by simp) _).setCell (by simp) _).setCell (by simp) _).setCell (by simp) _
theorem read_u (fa fb fu op:Int) (n:Nat) (hu:0 < fu) (hu2:fu≤16) (hn:n≤4) (h:Int) (t:List Int) (A:Option Addr) (cap:Nat) (w:World) (hr:RowAt w A cap (h :: t)) (hl:n≤t.length) :
    Calls Tryz.prog 96 #[.agg #[.int .i64 fa,.int .i64 fb,.int .i64 fu,.int .i64 n],.int .i64 op,.slice A (t.length+1) cap] w
      fun e w'=>e=.returned (.agg #[.int .i64 op,.int .i64 (h / fu),.int .i64 (h % fu),.int .u32 (numV (t.take n))])∧Below w.heap.size w w':=by
  obtain ⟨hl1,hl2,hby,hex⟩:=hr
  obtain ⟨x,rfl,hx,hc⟩:=hex (by simp)
  have hh:=hby h (by simp)
  obtain ⟨hh0,hh1⟩:=hh
  have hck:=fun o=>kept3 (hc 0 (by simp)) (by rw [block_add];exact hx) (.cells #[.int .i64 fa,.int .i64 fb,.int .i64 fu,.int .i64 n] 161) (.cells #[.int .i64 0,.int .i64 0,.int .i64 0,.int .u32 0] 134) o
  simp only [List.getD_cons_zero,show x.add 0=x by unfold Addr.add;simp] at hck
  have hsh:∀ k,k < t.length→w.cell? ⟨x.block,x.off+1+k,none⟩=some (.int .u8 (t.getD k 0)):=by
    intro k hk
    have:=hc (k+1) (by simp;omega)
    rw [show (⟨x.block,x.off+1+k,none⟩:Addr)=x.add (k+1) by unfold Addr.add;simp;omega,this];simp
  have HC:=Lib.hid hsh;clear hc hex hsh
  have hby':Bytes t:=fun y hy=>hby y (by simp [hy])
  rw [List.length_cons] at hl1
  clear hby
  by_cases hcap:cap=1
  · have hn0:¬ 0 < n:=by omega
    obtain rfl:cap=1:=hcap
    go_enter Tryz.func96,Tryz.ntmps96
    go_wp2_with fail
    go_region
    go_wp2_with fail
    go_loopw [34] (fun i w'=>ReadRel w (.cells #[.int .i64 fa,.int .i64 fb,.int .i64 fu,.int .i64 n] 161) op (h / fu) (h % fu) n t i w') (fun i _=>n - (intOf i).toNat)
    case atStart=>exact ⟨0,1,Nat.zero_le _,rfl,rfl⟩
    case round=>
    obtain ⟨k,m,hk,rfl,rfl⟩:=hrel
    by_cases hlt:k < n
    · skip
      exfalso;omega
    · have hkn:k=n:=by omega
      have HK:=Lib.hid hkn;clear hkn
      clear hck
      go_wp2
      rw [HK.out]
      refine bodyPost_ret (v:=.agg #[.int .i64 op,.int .i64 (h / fu),.int .i64 (h % fu),.int .u32 (numV (t.take n))]) (by simp [results,Tryz.results96,go_sem]) rfl ⟨rfl,?_⟩
      exact ((((below_drewN (bel_al (bel_al (bel_al (Below.refl _ _) _) _) _) m).setCell (by simp) _).setCell (by simp) _).setCell (by simp) _).setCell (by simp) _
  · skip
    go_enter Tryz.func96,Tryz.ntmps96
    go_wp2_with fail
    go_region
    go_wp2_with fail
    go_loopw [34] (fun i w'=>ReadRel w (.cells #[.int .i64 fa,.int .i64 fb,.int .i64 fu,.int .i64 n] 161) op (h / fu) (h % fu) n t i w') (fun i _=>n - (intOf i).toNat)
    case atStart=>exact ⟨0,1,Nat.zero_le _,rfl,rfl⟩
    case round=>
    obtain ⟨k,m,hk,rfl,rfl⟩:=hrel
    by_cases hlt:k < n
    · skip
      have hkl:k < t.length:=by omega
      have hbd:=row_byte hby' k hkl
      have hck2:=kept3 (HC.out k hkl) hx (.cells #[.int .i64 fa,.int .i64 fb,.int .i64 fu,.int .i64 n] 161) (.cells #[.int .i64 0,.int .i64 0,.int .i64 0,.int .u32 0] 134) (.cells #[.int .i64 op,.int .i64 (h / fu),.int .i64 (h % fu),.int .u32 (numV (t.take k))] 134)
      obtain ⟨bk,hbk⟩:∃ v,t.getD k 0=v:=⟨_,rfl⟩
      rw [hbk] at hck2 hbd
      have HBK:=Lib.hid hbk;clear hbk
      obtain ⟨hb0,hb1⟩:=hbd
      obtain ⟨mk,hmk⟩:∃ v,numV (t.take k)=v:=⟨_,rfl⟩
      rw [hmk] at hck2 ⊢
      have HMK:=Lib.hid hmk;clear hmk
      obtain ⟨hm0,hm1⟩:=mk_bd hlt hn hl hby' HMK.out
      have hkI:(k:Int) < (t.length:Int):=by omega
      clear hck
      go_wp2_with fail
      go_region
      go_wp2
      exact ⟨readRel_step hlt hn hl hby' rfl HMK.out HBK.out,by simp [intOf];omega⟩
    · have hkn:k=n:=by omega
      have HK:=Lib.hid hkn;clear hkn
      clear hck
      go_wp2
      rw [HK.out]
      refine bodyPost_ret (v:=.agg #[.int .i64 op,.int .i64 (h / fu),.int .i64 (h % fu),.int .u32 (numV (t.take n))]) (by simp [results,Tryz.results96,go_sem]) rfl ⟨rfl,?_⟩
      exact ((((below_drewN (bel_al (bel_al (bel_al (Below.refl _ _) _) _) _) m).setCell (by simp) _).setCell (by simp) _).setCell (by simp) _).setCell (by simp) _
end Go.Proofs.YteefmjhemhlapaaGreat
