/- Merged by wip/tools/regroup: MemMath, MemBase, FnvMath, FnvWalks, FnvFour, FnvApp. -/
import Derived.RowKit
import Derived.Laws.BitsAllLaws
import Derived.Laws.CopyOwn
import Derived.Test.YteefmjhemhlapaaGreatRows
import Derived.WalkKit
import Derived.ProofKit
import Derived.OpenShut
import Derived.ShutString
import Derived.ChangeOld
import Derived.Below
import Derived.Carry
import Derived.ChangeMaps4
import Derived.Lib.Hide
import Derived.Lib.SliceRun
import Derived.OwnWalk
import Derived.Maps.AppendAt
import Derived.Laws.OwnMore
import Derived.Laws.MakeOwn
import Derived.Laws.BytesArg
import Derived.RegionTactic
import Derived.ChangeAlike
import Derived.BigRegion
import Derived.StillTailTactics
import Derived.Deep.QuietTactic
import Derived.BigQuiet
import Derived.Deep.RegionHeld3
import Derived.IntWalk
import Derived.Lib.SlBytesConst
namespace Go.Proofs.YteefmjhemhlapaaGreat
theorem lsA {α:Type _} (l:List α) (i:Nat) (a:α):l.toArray.setIfInBounds i a=(l.set i a).toArray:=by simp
theorem lsZ {α:Type _} (x:α) (xs:List α) (a:α):(x :: xs).set 0 a=a :: xs:=rfl
theorem lsS {α:Type _} (x:α) (xs:List α) (n:Nat) (a:α):(x :: xs).set (n+1) a=x :: xs.set n a:=rfl
end Go.Proofs.YteefmjhemhlapaaGreat

namespace Go.Proofs.YteefmjhemhlapaaGreat.Mm
open Go.ChangeShapes Go.WideShapes Go.ChangeAt Go.RowKit
set_option linter.unusedVariables false
def nthO:List Oper→Nat→Option Oper
  | [],_=>none
  | x :: _,0=>some x
  | _ :: l,n+1=>nthO l n
theorem nthO_get {ops:Array Oper} {i:Nat} {o:Oper} (h:nthO ops.toList i=some o):ops[i]?=some o:=by
  have key:∀ (l:List Oper) (i:Nat),nthO l i=some o→l[i]?=some o:=by
    intro l
    induction l with
    | nil=>intro i h;exact nomatch h
    | cons x l ih=>intro i h;cases i with
      | zero=>simpa [nthO] using h
      | succ n=>simpa using ih n h
  rw [← Array.getElem?_toList]
  exact key _ _ h
theorem wT {P:Program} {ops:Array Oper} {Q:Exit→Act→World→Prop} {md:Region.Mode} {S:World→Prop} {oi:Oper} {v:Value} {fuel:Nat} {listed:Array Bool} {a a':Act} {w:World} (i:Nat)
    (h:wpAnyH P md ops Q S fuel (listed.setIfInBounds i true) a' w)
    (hi:nthO ops.toList i=some oi:=by exact rfl) (hs:Region.noSelect ops=true:=by kernel_rfl) (hf:Region.free md ops listed i=true:=by kernel_rfl) (hr:(Region.ready md ops listed).contains i=true:=by kernel_rfl)
    (hy:YieldsIf P ops S oi v a:=by refine Or.inl ⟨by rfl,?_⟩;intro w hSw;(try dsimp only at hSw);go_simp <;> (with_reducible rfl))
    (hS:S w:=by assumption)
    (ha:a.put oi.dst v=a':=by (try simp only [Act.put,List.setIfInBounds_toArray,List.set_cons_zero,List.set_cons_succ]) <;> exact rfl)
    (hQ:∀ c a w,Q (.panic c) (a.put oi.dst v) w→Q (.panic c) a w:=by exact fun _ _ _ h=>h):wpAnyH P md ops Q S (fuel+1) listed a w:=
  wpAnyH_take (nthO_get hi) hs hf hr hQ hy hS (ha ▸ h)
theorem wN {P:Program} {ops:Array Oper} {Q:Exit→Act→World→Prop} {md:Region.Mode} {S:World→Prop} {oi:Oper} {fuel:Nat} {listed:Array Bool} {a a':Act} {w:World} (i:Nat)
    (h:wpAnyH P md ops Q S fuel (listed.setIfInBounds i true) a' w)
    (hi:nthO ops.toList i=some oi:=by exact rfl) (hs:Region.noSelect ops=true:=by kernel_rfl) (hf:Region.free md ops listed i=true:=by kernel_rfl) (hr:(Region.ready md ops listed).contains i=true:=by kernel_rfl)
    (hy:YieldsIf P ops S oi undef a:=by exact Or.inr ⟨by rfl,rfl⟩)
    (hS:S w:=by assumption)
    (ha:a.put oi.dst undef=a':=by (try simp only [Act.put,List.setIfInBounds_toArray,List.set_cons_zero,List.set_cons_succ]) <;> exact rfl)
    (hQ:∀ c a w,Q (.panic c) (a.put oi.dst undef) w→Q (.panic c) a w:=by exact fun _ _ _ h=>h):wpAnyH P md ops Q S (fuel+1) listed a w:=
  wpAnyH_take (nthO_get hi) hs hf hr hQ hy hS (ha ▸ h)
theorem rC {P:Program} {ops:Array Oper} {Q:Exit→Act→World→Prop} {md:Region.Mode} {S:World→Prop} {fuel:Nat} {listed:Array Bool} {a:Act} {w:World} {i:Nat} {o:Oper} {rs:List Nat}
    (h:∀ K':Act→World→Prop,Shut (∀ a w,S w→(S w→wpAnyH P md ops Q S fuel (listed.setIfInBounds i true) a w)→K' a w)→if Region.wanted o (yielded ops a.tmps)=true then Oper.wp P o a w K' Q else K' (a.put o.dst undef) w)
    (hs:AllReadyH P md ops Q S fuel listed a w rs) (ho:nthO ops.toList i=some o:=by exact rfl):AllReadyH P md ops Q S fuel listed a w (i :: rs):=
  AllReadyH.cons (nthO_get ho) h hs
theorem mH {p:Prop} (h:p:=by (repeat' first | (with_reducible assumption) | ((with_reducible refine HasB.newAtI _ _ _ _ ?_);(simp;done)) | (with_reducible refine HasB.al ?_ _) | (with_reducible refine HasB.dr ?_) | (with_reducible refine HasB.below ?_ (by with_reducible assumption)))):p:=h
theorem mO {p:Prop} (h:p:=by (repeat' first | (with_reducible assumption) | (with_reducible refine Own.al ?_ _) | (with_reducible refine Own.dr ?_) | (with_reducible refine Own.below ?_ (by with_reducible assumption)))):p:=h
theorem mB {p:Prop} (h:p:=by (repeat' first | (with_reducible assumption) | (with_reducible exact Below.refl _ _) | (with_reducible refine bel_dr ?_) | (with_reducible refine bel_al ?_ _) | (with_reducible refine bel_then ?_ (by with_reducible assumption)))):p:=h
theorem mR {p:Prop} (h:p:=by (repeat' first | (with_reducible assumption) | ((with_reducible refine row_head _ _ _ _ ?_);(first | (with_reducible rfl) | (simp;done))) | (with_reducible refine RowAt.al ?_ _) | (with_reducible refine RowAt.dr ?_) | (with_reducible refine KeepR.row (by with_reducible assumption) ?_) | (with_reducible refine RowAt.below ?_ (by with_reducible assumption)))):p:=h
end Go.Proofs.YteefmjhemhlapaaGreat.Mm

namespace Go.Proofs.YteefmjhemhlapaaGreat.Mm
open Go.RowKit
set_option linter.unusedVariables false
set_option maxRecDepth 10000
def Bytes (l:List Int):Prop:=∀ x∈l,0≤x∧x≤255
def liesB (L:Nat) (a n:Int):Bool:=decide (0≤a∧0≤n∧n≤(L:Int) - a)
def thr (T:List Bool) (a n:Nat):Bool:=(List.range n).all fun i=>T.getD ((a+i) / 64) false
def wholeB (T:List Bool) (a n:Int):Bool:=liesB (64 * T.length) a n && thr T a.toNat n.toNat
theorem liesB_iff (L:Nat) (a n:Int):liesB L a n=true↔0≤a∧0≤n∧n≤(L:Int) - a:=by unfold liesB;exact decide_eq_true_iff
theorem liesB_not (L:Nat) (a n:Int):liesB L a n=false↔¬ (0≤a∧0≤n∧n≤(L:Int) - a):=by unfold liesB;exact decide_eq_false_iff_not
theorem thr_iff (T:List Bool) (a n:Nat):thr T a n=true↔∀ i,i < n→T.getD ((a+i) / 64) false=true:=by
  unfold thr
  rw [List.all_eq_true]
  exact ⟨fun h i hi=>h i (List.mem_range.2 hi),fun h i hi=>h i (List.mem_range.1 hi)⟩
theorem thr_zones (T:List Bool) (a n:Nat) (hn:0 < n):thr T a n=true↔∀ z,a / 64≤z→z < (a+n - 1) / 64+1→T.getD z false=true:=by
  rw [thr_iff]
  constructor
  · intro h z h1 h2
    by_cases hz:z=a / 64
    · have:=h 0 hn
      rw [Nat.add_zero] at this
      rw [hz];exact this
    · have:=h (64 * z - a) (by omega)
      rw [show (a+(64 * z - a)) / 64=z by omega] at this
      exact this
  · intro h i hi
    exact h _ (by omega) (by omega)
def numV:List Int→Int
  | []=>0
  | x :: t=>x+256 * numV t
theorem row_byte {l:List Int} (h:Bytes l) (k:Nat):0≤l.getD k 0∧l.getD k 0≤255:=by
  by_cases hk:k < l.length
  · have e:l.getD k 0=l[k]:=by simp [List.getD,List.getElem?_eq_getElem hk]
    rw [e];exact h _ (List.getElem_mem hk)
  · have e:l.getD k 0=0:=by simp [List.getD,List.getElem?_eq_none (by omega:l.length≤k)]
    rw [e];decide
theorem numV_bd (l:List Int) (h:Bytes l):0≤numV l∧numV l < 256 ^ l.length:=by
  induction l with
  | nil=>decide
  | cons x t ih=>
    have h1:=h x (by simp)
    have h2:=ih (fun y hy=>h y (by simp [hy]))
    show 0≤x+256 * numV t∧x+256 * numV t < 256 ^ (t.length+1)
    rw [Int.pow_succ]
    omega
theorem numV_snoc (l:List Int) (x:Int):numV (l ++ [x])=numV l+256 ^ l.length * x:=by
  induction l with
  | nil=>simp [numV]
  | cons y t ih=>
    show y+256 * numV (t ++ [x])=y+256 * numV t+256 ^ (t.length+1) * x
    rw [ih,Int.pow_succ,Int.mul_add,← Int.mul_assoc,Int.mul_comm 256 (256 ^ t.length),Int.add_assoc]
theorem numV_take (t:List Int) (k:Nat) (h:k < t.length):numV (t.take (k+1))=numV (t.take k)+256 ^ k * t.getD k 0:=by
  have e:t.getD k 0=t[k]:=by simp [List.getD,List.getElem?_eq_getElem h]
  rw [List.take_succ_eq_append_getElem h,numV_snoc,List.length_take,Nat.min_eq_left (by omega),e]
theorem take_byte {l:List Int} (h:Bytes l) (k:Nat):Bytes (l.take k):=fun x hx=>h x (List.mem_of_mem_take hx)
theorem drop_byte {l:List Int} (h:Bytes l) (k:Nat):Bytes (l.drop k):=fun x hx=>h x (List.mem_of_mem_drop hx)
theorem pow8 (k:Nat):(2:Int) ^ (8 * k)=256 ^ k:=by rw [Int.pow_mul];rfl
theorem or_join (mk bk:Int) (k:Nat) (hk:k < 4) (h0:0≤mk) (h1:mk < 256 ^ k) (h2:0≤bk) (h3:bk≤255):bits .or .u32 mk (bk * 2 ^ (8 * k) % 4294967296)=mk+256 ^ k * bk:=by
  rw [pow8]
  obtain ⟨x,rfl⟩:∃ n:Nat,mk=n:=⟨mk.toNat,by omega⟩
  obtain ⟨y,rfl⟩:∃ n:Nat,bk=n:=⟨bk.toNat,by omega⟩
  have hj:(x ||| y * 256 ^ k)=x+y * 256 ^ k:=by
    rw [Nat.or_comm,Nat.add_comm]
    refine nat_join (8 * k) _ _ ?_ ?_
    · rw [Nat.pow_mul];exact Nat.mul_mod_left _ _
    · rw [Nat.pow_mul]
      have h1':(x:Int) < ((256 ^ k:Nat):Int):=by rw [Int.natCast_pow];exact h1
      exact Int.ofNat_lt.1 h1'
  have hy:y≤255:=by omega
  have hm:(y:Int) * 256 ^ k % 4294967296=((y * 256 ^ k:Nat):Int)∧y * 256 ^ k < 4294967296∧x < 4294967296:=by
    obtain rfl | rfl | rfl | rfl:k=0∨k=1∨k=2∨k=3:=by omega
    all_goals (refine ⟨?_,?_,?_⟩ <;> omega)
  rw [hm.1,u32_or_nat _ _ hm.2.2 hm.2.1,hj]
  rw [Int.natCast_add,Int.natCast_mul,Int.natCast_pow,Int.mul_comm (y:Int)]
  rfl
def v4 (B:List Int) (a:Nat):Int:=B.getD a 0+256 * (B.getD (a+1) 0+256 * (B.getD (a+2) 0+256 * B.getD (a+3) 0))
def b4 (v:Int):List Int:=[v % 256,v / 256 % 256,v / 65536 % 256,v / 16777216]
theorem b4_byte (v:Int) (h0:0≤v) (h1:v < 4294967296):Bytes (b4 v):=by
  intro x hx
  simp [b4] at hx
  omega
theorem b4_len (v:Int):(b4 v).length=4:=rfl
theorem getD_drop' {α:Type} (l:List α) (k i:Nat) (d:α):(l.drop k).getD i d=l.getD (k+i) d:=by simp [List.getD,List.getElem?_drop]
theorem getD_take' {α:Type} (l:List α) (n i:Nat) (d:α) (h:i < n):(l.take n).getD i d=l.getD i d:=by simp [List.getD,h]
theorem v4_num (B:List Int) (a:Nat) (h:a+4≤B.length):numV ((B.drop a).take 4)=v4 B a:=by
  have hl:(B.drop a).length=B.length - a:=List.length_drop ..
  rw [numV_take _ 3 (by omega),numV_take _ 2 (by omega),numV_take _ 1 (by omega),numV_take _ 0 (by omega)]
  simp only [getD_drop',List.take_zero,numV,v4,Nat.add_zero]
  omega
theorem v4_bd (B:List Int) (a:Nat) (h:Bytes B):0≤v4 B a∧v4 B a < 4294967296:=by
  have h0:=row_byte h a
  have h1:=row_byte h (a+1)
  have h2:=row_byte h (a+2)
  have h3:=row_byte h (a+3)
  unfold v4
  omega
section
variable {α:Type}
theorem splice_len (L:List α) (o:Nat) (c:List α) (h:o+c.length≤L.length):(splice L o c).length=L.length:=length_splice L o c h
theorem splice_getD (L:List α) (o:Nat) (c:List α) (d:α) (h:o+c.length≤L.length) (i:Nat):(splice L o c).getD i d=if o≤i∧i < o+c.length then c.getD (i - o) d else L.getD i d:=by
  unfold splice
  simp only [List.getD,List.getElem?_append,List.length_take,List.getElem?_take,List.getElem?_drop]
  rw [Nat.min_eq_left (by omega)]
  by_cases h1:i < o
  · rw [if_pos h1,if_pos h1,if_neg (by omega)]
  · rw [if_neg h1]
    by_cases h2:i - o < c.length
    · rw [if_pos h2,if_pos (by omega)]
    · rw [if_neg h2,if_neg (by omega),show o+c.length+(i - o - c.length)=i by omega]
theorem splice_map {β:Type} (f:α→β) (L:List α) (o:Nat) (c:List α):splice (L.map f) o (c.map f)=(splice L o c).map f:=by
  unfold splice
  simp
theorem splice_all (L c:List α) (h:c.length=L.length):splice L 0 c=c:=by unfold splice;simp [h]
theorem splice_nil (L:List α) (o:Nat):splice L o []=L:=by unfold splice;simp
theorem splice_mem {L:List α} {o:Nat} {c:List α} {x:α} (h:x∈splice L o c):x∈L∨x∈c:=by
  unfold splice at h
  rcases List.mem_append.1 h with h | h
  · exact .inl (List.mem_of_mem_take h)
  · rcases List.mem_append.1 h with h | h
    · exact .inr h
    · exact .inl (List.mem_of_mem_drop h)
theorem ext_getD (d:α) {l m:List α} (hl:l.length=m.length) (h:∀ i,i < l.length→l.getD i d=m.getD i d):l=m:=by
  apply List.ext_getElem hl
  intro i h1 h2
  have:=h i h1
  simpa [List.getD,List.getElem?_eq_getElem h1,List.getElem?_eq_getElem h2] using this
theorem splice_snoc (L:List α) (o k:Nat) (x:α) (h:o+k < L.length):(splice L o (List.replicate k x)).set (o+k) x=splice L o (List.replicate (k+1) x):=by
  apply ext_getD x
  · rw [List.length_set,splice_len _ _ _ (by simp;omega),splice_len _ _ _ (by simp;omega)]
  · intro i hi
    rw [List.length_set,splice_len _ _ _ (by simp;omega)] at hi
    rw [splice_getD _ _ _ _ (by simp;omega)]
    have e:((splice L o (List.replicate k x)).set (o+k) x).getD i x=if o+k=i then x else (splice L o (List.replicate k x)).getD i x:=by
      simp only [List.getD,List.getElem?_set]
      rw [splice_len _ _ _ (by simp;omega)]
      by_cases hq:o+k=i
      · rw [if_pos hq,if_pos hq,if_pos (by omega)];rfl
      · rw [if_neg hq,if_neg hq]
    rw [e,splice_getD _ _ _ _ (by simp;omega)]
    have r:∀ m j,(List.replicate m x).getD j x=x:=fun m j=>by
      by_cases hj:j < m
      · simp [List.getD,hj]
      · simp [List.getD,List.getElem?_eq_none (by simp;omega:(List.replicate m x).length≤j)]
    simp only [List.length_replicate,r]
    by_cases hq:o+k=i
    · rw [if_pos hq,if_pos (by omega)]
    · rw [if_neg hq]
      by_cases h1:o≤i∧i < o+k
      · rw [if_pos h1,if_pos (by omega)]
      · rw [if_neg h1,if_neg (by omega)]
end
theorem splice_byte {B c:List Int} (hB:Bytes B) (hc:Bytes c) (o:Nat):Bytes (splice B o c):=fun x hx=>(splice_mem hx).elim (hB x) (hc x)
theorem rep_byte (n:Nat):Bytes (List.replicate n 0):=fun x hx=>by rw [List.eq_of_mem_replicate hx];decide
end Go.Proofs.YteefmjhemhlapaaGreat.Mm
namespace Go.Proofs.YteefmjhemhlapaaGreat.Mm
open Go.ChangeShapes Go.WideShapes Go.ChangeAt Go.RowKit
set_option linter.unusedVariables false
set_option maxRecDepth 10000
theorem ret_int {k:IntKind} {a b:Int} (h:a=b):Ending.returned (.int k a)=.returned (.int k b):=by rw [h]
theorem ret_bool {a b:Bool} (h:a=b):Ending.returned (.bool a)=.returned (.bool b):=by rw [h]
theorem bel_al {w w':World} (h:Below w.heap.size w w') (o:Obj):Below w.heap.size w (w'.alloc o):=h.alloc h.size o
theorem bel_then {w a b:World} (h:Below w.heap.size w a) (k:Below a.heap.size a b):Below w.heap.size w b:=h.trans (k.mono h.size)
theorem below_drewN {B:Nat} {w w':World} (h:Below B w w') (n:Nat):Below B w (w'.drewN n):=⟨h.os,h.tape,h.output,h.size,h.block⟩
def HasB (w:World) (g:Nat) (t:TypeId) (cs:List Value):Prop:=w.heap[g]?=some (.cells cs.toArray t (0,0))
theorem HasB.lt {w:World} {g:Nat} {t:TypeId} {cs:List Value} (h:HasB w g t cs):g < w.heap.size:=(Array.getElem?_eq_some_iff.1 h).1
theorem HasB.cell {w:World} {g:Nat} {t:TypeId} {cs:List Value} (h:HasB w g t cs) (i:Nat):w.cell? ⟨g,i,none⟩=cs[i]?:=by
  unfold HasB at h
  simp [World.cell?,h]
theorem HasB.frozen {w:World} {g:Nat} {t:TypeId} {cs:List Value} (h:HasB w g t cs) (i:Nat):w.frozen? ⟨g,i,none⟩=false:=by
  unfold HasB at h
  simp [World.frozen?,h]
theorem HasB.new (w:World) (t:TypeId) (cs:List Value):HasB (w.alloc (.cells cs.toArray t)) w.heap.size t cs:=by
  show (w.heap.push _)[w.heap.size]?=_
  rw [Array.getElem?_push,if_pos rfl]
theorem HasB.same {w w':World} {g:Nat} {t:TypeId} {cs:List Value} (h:HasB w g t cs) (e:w'.heap[g]?=w.heap[g]?):HasB w' g t cs:=e.trans h
theorem HasB.below {w w':World} {g:Nat} {t:TypeId} {cs:List Value} (h:HasB w g t cs) (hb:Below w.heap.size w w'):HasB w' g t cs:=h.same (hb.block _ h.lt)
theorem HasB.ne {w:World} {g g':Nat} {t t':TypeId} {cs cs':List Value} (h:HasB w g t cs) (h':HasB w g' t' cs') (hne:t≠t'):g≠g':=by
  rintro rfl
  unfold HasB at h h'
  rw [h] at h'
  injection h' with h'
  injection h' with _ ht
  exact hne ht
structure Chg (g h:Nat) (w w':World):Prop where
  os:w'.os=w.os
  tape:w'.tape=w.tape
  output:w'.output=w.output
  size:w.heap.size≤w'.heap.size
  block:∀ k,k < w.heap.size→k≠g→k≠h→w'.heap[k]?=w.heap[k]?
theorem Chg.refl (g h:Nat) (w:World):Chg g h w w:=⟨rfl,rfl,rfl,Nat.le_refl _,fun _ _ _ _=>rfl⟩
theorem Chg.of {g h:Nat} {w w':World} (b:Below w.heap.size w w'):Chg g h w w':=⟨b.os,b.tape,b.output,b.size,fun k hk _ _=>b.block k hk⟩
theorem Chg.trans {g h:Nat} {a b c:World} (x:Chg g h a b) (y:Chg g h b c):Chg g h a c:=
  ⟨y.os.trans x.os,y.tape.trans x.tape,y.output.trans x.output,Nat.le_trans x.size y.size,fun k hk h1 h2=>(y.block k (Nat.lt_of_lt_of_le hk x.size) h1 h2).trans (x.block k hk h1 h2)⟩
theorem Chg.below {g h B:Nat} {w0 w w':World} (x:Chg g h w w') (b:Below B w0 w) (hB:B≤w.heap.size) (hg:B≤g) (hh:B≤h):Below B w0 w':=
  ⟨x.os.trans b.os,x.tape.trans b.tape,x.output.trans b.output,Nat.le_trans b.size x.size,fun k hk=>(x.block k (by omega) (by omega) (by omega)).trans (b.block k hk)⟩
theorem HasB.chg {w w':World} {g h k:Nat} {t:TypeId} {cs:List Value} (x:HasB w k t cs) (c:Chg g h w w') (h1:k≠g) (h2:k≠h):HasB w' k t cs:=x.same (c.block _ x.lt h1 h2)
structure MemAt (w:World) (p g h:Nat) (B:List Int) (T:List Bool):Prop where
  own:HasB w p 107 [.slice (some ⟨g,0,none⟩) B.length B.length,.slice (some ⟨h,0,none⟩) T.length T.length]
  bytes:HasB w g 5 (B.map (Value.int .u8))
  zones:HasB w h 4 (T.map Value.bool)
  len:B.length=64 * T.length
  pos:1≤T.length
  top:T.length≤1024
  byte:Bytes B
section
variable {w w':World} {p g h:Nat} {B:List Int} {T:List Bool}
theorem MemAt.pg (m:MemAt w p g h B T):p≠g:=m.own.ne m.bytes (by decide)
theorem MemAt.ph (m:MemAt w p g h B T):p≠h:=m.own.ne m.zones (by decide)
theorem MemAt.gh (m:MemAt w p g h B T):g≠h:=m.bytes.ne m.zones (by decide)
theorem MemAt.below (m:MemAt w p g h B T) (b:Below w.heap.size w w'):MemAt w' p g h B T:=
  ⟨m.own.below b,m.bytes.below b,m.zones.below b,m.len,m.pos,m.top,m.byte⟩
theorem MemAt.chg {x y:Nat} (m:MemAt w p g h B T) (c:Chg x y w w') (px:p≠x) (py:p≠y) (gx:g≠x) (gy:g≠y) (hx:h≠x) (hy:h≠y):MemAt w' p g h B T:=
  ⟨m.own.chg c px py,m.bytes.chg c gx gy,m.zones.chg c hx hy,m.len,m.pos,m.top,m.byte⟩
theorem MemAt.c0 (m:MemAt w p g h B T):w.cell? ⟨p,0,none⟩=some (.slice (some ⟨g,0,none⟩) B.length B.length):=m.own.cell 0
theorem MemAt.c1 (m:MemAt w p g h B T):w.cell? ⟨p,1,none⟩=some (.slice (some ⟨h,0,none⟩) T.length T.length):=m.own.cell 1
theorem MemAt.bc (m:MemAt w p g h B T) (i:Nat) (hi:i < B.length):w.cell? ⟨g,i,none⟩=some (.int .u8 (B.getD i 0)):=by
  rw [m.bytes.cell i];simp [List.getD,hi]
theorem MemAt.zc (m:MemAt w p g h B T) (i:Nat) (hi:i < T.length):w.cell? ⟨h,i,none⟩=some (.bool (T.getD i false)):=by
  rw [m.zones.cell i];simp [List.getD,hi]
end
def RowAt (w:World) (A:Option Addr) (cap:Nat) (l:List Int):Prop:=
  l.length≤cap∧cap≤maxLen∧Bytes l∧(l≠[]→∃ x,A=some x∧x.block < w.heap.size∧∀ i,i < l.length→w.cell? (x.add i)=some (.int .u8 (l.getD i 0)))
theorem block_add (a:Addr) (n:Nat):(a.add n).block=a.block:=by unfold Addr.add;split <;> rfl
theorem add_add (x:Addr) (k i:Nat):(x.add k).add i=x.add (k+i):=by unfold Addr.add;by_cases h:k=0 <;> by_cases h':i=0 <;> simp [h,h',Nat.add_assoc]
theorem RowAt.below {w w':World} {A:Option Addr} {cap:Nat} {l:List Int} (r:RowAt w A cap l) (b:Below w.heap.size w w'):RowAt w' A cap l:=by
  obtain ⟨h1,h2,h3,h4⟩:=r
  refine ⟨h1,h2,h3,fun hne=>?_⟩
  obtain ⟨x,rfl,hx,hc⟩:=h4 hne
  exact ⟨x,rfl,Nat.lt_of_lt_of_le hx b.size,fun i hi=>by rw [b.cell (by rw [block_add];exact hx)];exact hc i hi⟩
theorem block_of_cell {w:World} {a:Addr} {v:Value} (h:w.cell? a=some v):a.block < w.heap.size:=by
  rcases Nat.lt_or_ge a.block w.heap.size with h' | h'
  · exact h'
  · unfold World.cell? at h
    rw [Array.getElem?_eq_none h'] at h
    simp at h
theorem row_of {H:Type} {enc:TypeId×Value→H} {P:Program} {w:World} {base:Nat} {spare:Nat→Bool} {held:Bool} {t e:TypeId} {a:Option Addr} {len cap:Nat} {d:DataW H} {ps:List MemPlace}
    (ht:P.underlying t=some (.slice e)) (he:P.underlying e=some (.int .u8)) (hc:P.cellsOf e=1) (h:DataW.Trod enc P w base spare held t (.slice a len cap) d ps) :
    ∃ l:List Int,len=l.length∧RowAt w a cap l:=by
  obtain ⟨fuel,hf⟩:=h
  rcases open_ints ht he hc hf with ⟨hcs,_⟩ | ⟨x,l,c,zs,hcs,_,hl,hm,hz,_,hcell,hwz⟩
  · simp [Value.cells] at hcs
    obtain ⟨rfl,rfl,rfl⟩:=hcs
    exact ⟨[],rfl,Nat.le_refl _,Nat.zero_le _,fun x hx=>by simp at hx,fun h=>absurd rfl h⟩
  · simp [Value.cells] at hcs
    obtain ⟨rfl,rfl,rfl⟩:=hcs
    have hlz:len≤zs.length:=by rw [hz];split <;> omega
    have hln:(zs.take len).length=len:=by rw [List.length_take];omega
    refine ⟨zs.take len,hln.symm,by omega,hm,fun n hn=>bounds_u8 (hwz n (List.mem_of_mem_take hn)),fun hne=>⟨x,rfl,?_,fun i hi=>?_⟩⟩
    · have h0:0 < (zs.take len).length:=List.length_pos_iff.2 hne
      have:=block_of_cell (hcell 0 (by omega))
      rwa [block_add] at this
    · rw [hln] at hi
      rw [hcell i (by omega)]
      simp [List.getD,hi]
theorem row_blk {w:World} {g:Nat} {l:List Int} (hb:Bytes l) (hm:l.length≤maxLen) (h:HasB w g 5 (l.map (Value.int .u8))):RowAt w (some ⟨g,0,none⟩) l.length l:=by
  refine ⟨Nat.le_refl _,hm,hb,fun _=>⟨_,rfl,h.lt,fun i hi=>?_⟩⟩
  have e:(⟨g,0,none⟩:Addr).add i=⟨g,i,none⟩:=by unfold Addr.add;by_cases h:i=0 <;> simp [h]
  rw [e,h.cell i]
  simp [List.getD,hi]
end Go.Proofs.YteefmjhemhlapaaGreat.Mm
namespace Go.Proofs.YteefmjhemhlapaaGreat.Mm
open Go.RowKit
set_option linter.unusedVariables false
set_option maxRecDepth 10000
def fx (h x:Int):Int:=bits .xor .u32 h x * 16777619 % 4294967296
def fnvL:Int→List Int→Int
  | h,[]=>h
  | h,x :: t=>fnvL (fx h x) t
theorem fx_bd (h x:Int):0≤fx h x∧fx h x < 4294967296:=by unfold fx;omega
theorem fnvL_bd (h:Int) (l:List Int) (h0:0≤h) (h1:h < 4294967296):0≤fnvL h l∧fnvL h l < 4294967296:=by
  induction l generalizing h with
  | nil=>exact ⟨h0,h1⟩
  | cons x t ih=>exact ih _ (fx_bd h x).1 (fx_bd h x).2
theorem fnvL_append (h:Int) (a b:List Int):fnvL h (a ++ b)=fnvL (fnvL h a) b:=by
  induction a generalizing h with
  | nil=>rfl
  | cons x t ih=>exact ih _
theorem fnvL_take (h:Int) (l:List Int) (k:Nat) (hk:k < l.length):fnvL h (l.take (k+1))=fx (fnvL h (l.take k)) (l.getD k 0):=by
  have e:l.getD k 0=l[k]:=by simp [List.getD,List.getElem?_eq_getElem hk]
  rw [List.take_succ_eq_append_getElem hk,fnvL_append,e]
  rfl
theorem xor_bd (h x:Int) (h0:0≤h) (h1:h < 4294967296) (x0:0≤x) (x1:x < 4294967296):0≤bits .xor .u32 h x∧bits .xor .u32 h x < 4294967296:=by
  rw [u32_xor h x h0 h1 x0 x1]
  have:h.toNat ^^^ x.toNat < 2 ^ 32:=Nat.xor_lt_two_pow (by omega) (by omega)
  omega
theorem i64_xor_nat (a b:Nat) (ha:a < 256) (hb:b < 256):bits .xor .i64 (a:Int) (b:Int)=((a ^^^ b:Nat):Int):=by
  have hx:a ^^^ b < 2 ^ 8:=Nat.xor_lt_two_pow (by omega) (by omega)
  have e:∀ n:Nat,n < 256→(BitVec.ofInt 64 (n:Int)).toNat=n:=fun n hn=>by
    rw [BitVec.ofInt_natCast,BitVec.toNat_ofNat];exact Nat.mod_eq_of_lt (by omega)
  show IntKind.i64.wrap ((BitVec.ofInt 64 (a:Int) ^^^ BitVec.ofInt 64 (b:Int)).toNat:Int)=_
  rw [BitVec.toNat_xor,e a ha,e b hb]
  exact IntWalk.i64_in _ (by omega)
theorem xor_low (h x:Int) (h0:0≤h) (h1:h < 4294967296) (x0:0≤x) (x1:x≤255):bits .xor .u32 h x=h / 256 * 256+bits .xor .i64 (h % 256) x:=by
  obtain ⟨a,rfl⟩:∃ n:Nat,h=n:=⟨h.toNat,by omega⟩
  obtain ⟨b,rfl⟩:∃ n:Nat,x=n:=⟨x.toNat,by omega⟩
  rw [u32_xor_nat a b (by omega) (by omega)]
  have e:bits .xor .i64 ((a:Int) % 256) b=((a % 256 ^^^ b:Nat):Int):=by
    have:=i64_xor_nat (a % 256) b (by omega) (by omega)
    rw [← this];rfl
  rw [e]
  have m:=Nat.xor_mod_two_pow (a:=a) (b:=b) (n:=8)
  have d:=Nat.xor_div_two_pow (a:=a) (b:=b) (n:=8)
  rw [show (2:Nat) ^ 8=256 by rfl] at m d
  rw [Nat.mod_eq_of_lt (show b < 256 by omega)] at m
  rw [Nat.div_eq_of_lt (show b < 256 by omega),Nat.xor_zero] at d
  omega
theorem xor_low_bd (h x:Int) (x0:0≤x) (x1:x≤255):0≤bits .xor .i64 (h % 256) x∧bits .xor .i64 (h % 256) x≤255:=by
  have r:=xor_low (h % 256) x (by omega) (by omega) x0 x1
  have b:bits .xor .u32 (h % 256) x < 256:=by
    rw [u32_xor _ _ (by omega) (by omega) x0 (by omega)]
    have:(h % 256).toNat ^^^ x.toNat < 2 ^ 8:=Nat.xor_lt_two_pow (by omega) (by omega)
    omega
  have b0:=(xor_bd (h % 256) x (by omega) (by omega) x0 (by omega)).1
  rw [show h % 256 % 256=h % 256 by omega] at r
  omega
theorem b4_pow (h:Int) (k:Nat) (hk:k < 4) (h0:0≤h) (h1:h < 4294967296):(b4 h).getD k 0=h / 256 ^ k % 256:=by
  obtain rfl | rfl | rfl | rfl:k=0∨k=1∨k=2∨k=3:=by omega
  all_goals (simp [b4] <;> omega)
end Go.Proofs.YteefmjhemhlapaaGreat.Mm
namespace Go.Proofs.YteefmjhemhlapaaGreat.Mm
open Go.ChangeShapes Go.WideShapes Go.ChangeAt Go.RowKit
set_option linter.unusedVariables false
set_option maxRecDepth 10000
theorem more_any (h:Int) (h0:0≤h) (h1:h < 4294967296) (A:Option Addr) (cap:Nat) (l:List Int) (w:World) (r:RowAt w A cap l) :
    Calls Tryz.prog 63 #[.int .u32 h,.slice A l.length cap] w fun e w'=>e=.returned (.int .u32 (fnvL h l))∧w=w':=by
  have R:=Lib.hid r
  have hlen:l.length≤9223372036854775807:=by have:=r.1;have:=r.2.1;unfold maxLen at *;omega
  clear r
  go_enter Tryz.func63,Tryz.ntmps63
  go_wp2
  go_loop [0,8] (fun a i=>∃ k:Nat,k≤l.length∧i=.int .i64 k∧a=.int .u32 (fnvL h (l.take k))) (fun _ i=>l.length - (intOf i).toNat)
  case atStart=>exact ⟨0,Nat.zero_le _,rfl,rfl⟩
  case round=>
    obtain ⟨k,hk,rfl,rfl⟩:=hrel
    have hq:=fnvL_bd h (l.take k) h0 h1
    by_cases hlt:k < l.length
    · obtain ⟨x,rfl,_,hc⟩:=R.out.2.2.2 (by intro e;subst e;simp at hlt)
      have hck:=hc k hlt
      clear hc
      have hx:=row_byte R.out.2.2.1 k
      have HS:=Lib.hid (fnvL_take h l k hlt)
      generalize fnvL h (l.take k)=q at *
      generalize l.getD k 0=y at *
      have hb:=xor_bd q y hq.1 hq.2 hx.1 (by omega)
      obtain ⟨q0,q1⟩:=hq
      obtain ⟨y0,y1⟩:=hx
      have HF:Hid (fx q y=bits .xor .u32 q y * 16777619 % 4294967296):=Lib.hid rfl
      obtain ⟨b0,b1⟩:=hb
      clear R
      go_wp2
      go_round
      case rel=>exact ⟨k+1,by omega,by go_num,by rw [HS.out,HF.out]⟩
      case measure=>simp [intOf];omega
    · have:k=l.length:=by omega
      subst this
      rw [List.take_length]
      go_wp2
      go_ret
      exact ⟨rfl,rfl⟩
theorem rmore_any (h:Int) (h0:0≤h) (h1:h < 4294967296) (A:Option Addr) (cap:Nat) (l:List Int) (w:World) (r:RowAt w A cap l) :
    Calls Tryz.prog 48 #[.int .u32 h,.slice A l.length cap] w fun e w'=>e=.returned (.int .u32 (fnvL h l))∧w=w':=by
  have R:=Lib.hid r
  have hlen:l.length≤9223372036854775807:=by have:=r.1;have:=r.2.1;unfold maxLen at *;omega
  clear r
  go_enter Tryz.func48,Tryz.ntmps48
  go_wp2
  go_loop [5,6] (fun a i=>∃ k:Nat,k≤l.length∧i=.int .i64 k∧a=.int .i64 (fnvL h (l.take k))) (fun _ i=>l.length - (intOf i).toNat)
  case atStart=>exact ⟨0,Nat.zero_le _,rfl,rfl⟩
  case round=>
    obtain ⟨k,hk,rfl,rfl⟩:=hrel
    have hq:=fnvL_bd h (l.take k) h0 h1
    by_cases hlt:k < l.length
    · obtain ⟨x,rfl,_,hc⟩:=R.out.2.2.2 (by intro e;subst e;simp at hlt)
      have hck:=hc k hlt
      clear hc
      have hx:=row_byte R.out.2.2.1 k
      have HS:=Lib.hid (fnvL_take h l k hlt)
      generalize fnvL h (l.take k)=q at *
      generalize l.getD k 0=y at *
      have hb:=xor_low_bd q y hx.1 hx.2
      obtain ⟨q0,q1⟩:=hq
      obtain ⟨y0,y1⟩:=hx
      have HF:Hid (fx q y=(q / 256 * 256+bits .xor .i64 (q % 256) y) * 16777619 % 4294967296):=Lib.hid (by unfold fx;rw [xor_low q y q0 q1 y0 y1])
      obtain ⟨b0,b1⟩:=hb
      clear R
      go_wp2
      go_round
      case rel=>exact ⟨k+1,by omega,by go_num,by rw [HS.out,HF.out]⟩
      case measure=>simp [intOf];omega
    · have:k=l.length:=by omega
      subst this
      rw [List.take_length] at hq ⊢
      obtain ⟨q0,q1⟩:=hq
      go_wp2
      go_ret
      exact ⟨ret_int (by omega),rfl⟩
theorem sum_any (A:Option Addr) (cap:Nat) (l:List Int) (w:World) (r:RowAt w A cap l) :
    Calls Tryz.prog 39 #[.slice A l.length cap] w fun e w'=>e=.returned (.int .u32 (fnvL 2166136261 l))∧w=w':=by
  have C:=Lib.hid (more_any 2166136261 (by decide) (by decide) A cap l w r)
  clear r
  go_enter Tryz.func39,Tryz.ntmps39
  go_wp2_with fail
  refine C.out.mono ?_;rintro e w' ⟨rfl,rfl⟩
  go_wp2
  go_ret
  exact ⟨rfl,rfl⟩
def nums (s:ByteArray):List Int:=s.data.toList.map fun c=>(c.toNat:Int)
theorem nums_str (L:List Int) (h:Bytes L):nums (strOfNums L)=L:=by
  unfold nums
  rw [strOfNums_data,List.map_map]
  conv=>rhs;rw [← List.map_id L]
  refine List.map_congr_left fun x hx=>?_
  have:=h x hx
  simp
  omega
theorem nums_get (s:ByteArray) (k:Nat) (h:k < s.size):(nums s).getD k 0=(s[k].toNat:Int):=by
  have h':k < s.data.toList.length:=by simpa using h
  simp [nums,List.getD,List.getElem?_eq_getElem h']
  rfl
end Go.Proofs.YteefmjhemhlapaaGreat.Mm
namespace Go.Proofs.YteefmjhemhlapaaGreat.Mm
open Go.ChangeShapes Go.WideShapes Go.ChangeAt Go.RowKit
set_option linter.unusedVariables false
set_option maxRecDepth 10000
theorem conv_row {w:World} {A:Option Addr} {cap:Nat} {l:List Int} (h:RowAt w A cap l) (n:Nat) (hn:l.length=n) :
    (convert 39 9 (.slice A n cap)).run Tryz.prog w=.ok (.string (strOfNums l)) w:=by
  obtain ⟨h1,h2,h3,h4⟩:=h
  cases A with
  | none=>
    have hl:l=[]:=by
      by_cases hl:l=[]
      · exact hl
      · obtain ⟨x,hx,_⟩:=h4 hl;cases hx
    subst hl
    exact run_convert_bytes_nil w _ 5 Tryz.underlying39 Tryz.underlying5 _ _ _ Tryz.underlying9
  | some a=>
    have hc:∀ i,i < l.length→w.cell? (a.add i)=some (.int .u8 (l.getD i 0)):=by
      intro i hi
      obtain ⟨x,hx,_,hc⟩:=h4 (by intro e;subst e;simp at hi)
      injection hx with hx;subst hx
      exact hc i hi
    have hl:(loadCells a n).run Tryz.prog w=.ok (l.map (Value.int .u8)).toArray w:=by
      have:=run_loadCells_list (P:=Tryz.prog) w a (l.map (Value.int .u8)) (fun j v hj=>by
        have hjl:j < l.length:=by
          rcases Nat.lt_or_ge j l.length with h | h
          · exact h
          · rw [List.getElem?_eq_none (by simpa using h)] at hj;cases hj
        rw [hc j hjl]
        simp [List.getElem?_eq_getElem hjl] at hj
        subst hj
        simp [List.getD,List.getElem?_eq_getElem hjl])
      rw [List.length_map,hn] at this
      exact this
    rw [run_convert_bytes_string w 39 9 5 _ n cap Tryz.underlying39 Tryz.underlying5 Tryz.underlying9,run_bytesToString w _ n cap l hl,foldl_push_bytes]
    simp [strOfNums,ByteArray.empty,ByteArray.emptyWithCapacity]
    rfl
theorem row_new (w:World) (l:List Int) (t:TypeId) (cap:Nat) (hc:l.length≤cap) (hm:cap≤maxLen) (hb:Bytes l):RowAt (w.alloc (.cells (l.map (Value.int .u8)).toArray t)) (some ⟨w.heap.size,0,none⟩) cap l:=by
  refine ⟨hc,hm,hb,fun _=>⟨_,rfl,by simp,fun i hi=>?_⟩⟩
  have e:(⟨w.heap.size,0,none⟩:Addr).add i=⟨w.heap.size,i,none⟩:=by unfold Addr.add;by_cases h:i=0 <;> simp [h]
  rw [e,(HasB.new w t (l.map (Value.int .u8))).cell i]
  simp [List.getD,hi]
def FourRel (w:World) (h:Int) (i:Value) (w':World):Prop:=
  ∃ (k:Nat) (C:Array Value) (L:List Int),k≤4∧i=.int .i64 k∧L.length=4∧C=(L.map (Value.int .u8)).toArray∧(∀ j,j < k→L.getD j 0=h / 256 ^ j % 256)∧w'=w.alloc (.cells C 143)
theorem four_step {w:World} {h:Int} {k:Nat} {C:Array Value} {L:List Int} (hk:k < 4) (hL:L.length=4) (hC:C=(L.map (Value.int .u8)).toArray) (hj:∀ j,j < k→L.getD j 0=h / 256 ^ j % 256) (v:Int) (hv:v=h / 256 ^ k % 256) :
    FourRel w h (.int .i64 ((k:Int)+1)) (w.alloc (.cells (C.setIfInBounds k (.int .u8 v)) 143)):=by
  refine ⟨k+1,_,L.set k v,hk,by simp,by simp [hL],by rw [hC];simp,fun j hlt=>?_,rfl⟩
  by_cases e:j=k
  · subst e
    simp [List.getD,hL,hk,hv]
  · have:=hj j (by omega)
    simp only [List.getD,List.getElem?_set] at this ⊢
    rw [if_neg (by omega)]
    exact this
theorem four_end {h:Int} {L:List Int} (h0:0≤h) (h1:h < 4294967296) (hL:L.length=4) (hj:∀ j,j < 4→L.getD j 0=h / 256 ^ j % 256):L=b4 h:=
  ext_getD 0 (by rw [hL];rfl) fun i hi=>by rw [hj i (by omega),b4_pow h i (by omega) h0 h1]
theorem four_any (h:Int) (h0:0≤h) (h1:h < 4294967296) (w:World) :
    Calls Tryz.prog 67 #[.int .u32 h] w fun e w'=>e=.returned (.string (strOfNums (b4 h)))∧Below w.heap.size w w':=by
  go_enter Tryz.func67,Tryz.ntmps67
  go_wp2
  go_loopw [5] (fun i w'=>FourRel w h i w') (fun i _=>4 - (intOf i).toNat)
  case atStart=>exact ⟨0,_,List.replicate 4 0,by omega,rfl,rfl,rfl,fun j hj=>by omega,rfl⟩
  case round=>
    obtain ⟨k,C,L,hk,rfl,hL,hC,hj,rfl⟩:=hrel
    have hsz:C.size=4:=by rw [hC];simp [hL]
    have HC:=Lib.hid hC;clear hC
    have HJ:=Lib.hid hj;clear hj
    have HL:=Lib.hid hL;clear hL
    by_cases hlt:k < 4
    · obtain ⟨v,hv⟩:∃ v,C[k]?=some v:=⟨C[k],Array.getElem?_eq_getElem (by omega)⟩
      have HS:=Lib.hid hsz;clear hsz
      go_wp2
      go_roundw
      case rel=>exact four_step hlt HL.out HC.out HJ.out _ (by rw [← pow8])
      case measure=>simp [intOf];omega
    · obtain rfl:k=4:=by omega
      have hrow:=row_new w (b4 h) 143 4 (Nat.le_refl _) (by decide) (b4_byte h h0 h1)
      rw [← four_end h0 h1 HL.out HJ.out,← HC.out] at hrow
      have hcv:=conv_row hrow 4 HL.out
      rw [four_end h0 h1 HL.out HJ.out] at hcv
      clear hrow
      go_wp2
      go_ret
      exact ⟨rfl,(Below.refl _ _).alloc (Nat.le_refl _) _⟩
theorem one_conv (W:World) (x:Int) (hx:0≤x∧x≤255) :
    (convert 39 9 (.slice (some ⟨W.heap.size,0,none⟩) 1 1)).run Tryz.prog (W.alloc (.cells #[.int .u8 x] 5))=.ok (.string (strOfNums [x])) (W.alloc (.cells #[.int .u8 x] 5)):=
  conv_row (row_new W [x] 5 1 (Nat.le_refl _) (by decide) (fun z hz=>by simp at hz;subst hz;exact hx)) 1 rfl
theorem str_app (xs ys:List Int):strOfNums xs ++ strOfNums ys=strOfNums (xs ++ ys):=by
  unfold strOfNums
  rw [ByteArray.mk_append_mk,List.map_append]
theorem v_str {a b:ByteArray} (h:a=b):Value.string a=.string b:=by rw [h]
theorem v_int {k:IntKind} {a b:Int} (h:a=b):Value.int k a=.int k b:=by rw [h]
def RFourRel (w:World) (h:Int) (a b i:Value) (w':World):Prop:=
  ∃ k:Nat,k≤4∧i=.int .i64 k∧a=.int .u32 (h / 256 ^ k)∧b=.string (strOfNums ((b4 h).take k))∧Below w.heap.size w w'
set_option maxRecDepth 10000 in
theorem rfour_any (h:Int) (h0:0≤h) (h1:h < 4294967296) (w:World) :
    Calls Tryz.prog 47 #[.int .u32 h] w fun e w'=>e=.returned (.string (strOfNums (b4 h)))∧Below w.heap.size w w':=by
  go_enter Tryz.func47,Tryz.ntmps47
  go_wp2
  go_loopw [0,3,4] (fun a b i w'=>RFourRel w h a b i w') (fun _ _ i _=>4 - (intOf i).toNat)
  case atStart=>exact ⟨0,by omega,rfl,v_int (by simp),rfl,Below.refl _ _⟩
  case round=>
    obtain ⟨k,hk,rfl,rfl,rfl,hB⟩:=hrel
    by_cases hlt:k < 4
    · have HG:=Lib.hid (b4_pow h k hlt h0 h1)
      have hq:0≤h / 256 ^ k∧h / 256 ^ k < 4294967296:=by
        obtain rfl | rfl | rfl | rfl:k=0∨k=1∨k=2∨k=3:=by omega
        all_goals (simp <;> omega)
      have HN:=Lib.hid (show h / 256 ^ (k+1)=h / 256 ^ k / 256 by
        obtain rfl | rfl | rfl | rfl:k=0∨k=1∨k=2∨k=3:=by omega
        all_goals (simp <;> omega))
      have HT:=Lib.hid (show (b4 h).take (k+1)=(b4 h).take k ++ [h / 256 ^ k % 256] by
        rw [← HG.out,List.take_succ_eq_append_getElem (show k < (b4 h).length from hlt)]
        simp [List.getD,List.getElem?_eq_getElem (show k < (b4 h).length from hlt)])
      have hsz:(strOfNums ((b4 h).take k)).size≤4:=by rw [strOfNums_size,List.length_take];omega
      have hs1:(strOfNums [h / 256 ^ k % 256]).size=1:=by rw [strOfNums_size];rfl
      obtain ⟨q,hq'⟩:∃ q,h / 256 ^ k=q:=⟨_,rfl⟩
      rw [hq'] at hq HN HT hs1 ⊢
      have HQ:=Lib.hid hq';clear hq'
      generalize (b4 h).take k=L at *
      obtain ⟨q0,q1⟩:=hq
      have hcv:=one_conv wr (q % 256) (by omega)
      go_wp2
      go_roundw
      case rel=>exact ⟨k+1,hlt,by go_num,v_int HN.out.symm,v_str (by rw [HT.out,str_app]),hB.trans (((Below.refl _ _).alloc (Nat.le_refl _) _).mono hB.size)⟩
      case measure=>simp [intOf];omega
    · obtain rfl:k=4:=by omega
      rw [List.take_of_length_le (show (b4 h).length≤4 from Nat.le_refl _)]
      go_wp2
      go_ret
      exact ⟨rfl,hB⟩
end Go.Proofs.YteefmjhemhlapaaGreat.Mm
namespace Go.Proofs.YteefmjhemhlapaaGreat.Mm
open Go.ChangeShapes Go.WideShapes Go.ChangeAt Go.RowKit
set_option linter.unusedVariables false
set_option maxRecDepth 10000
theorem u8_info:(Tryz.prog.info? 5).map (fun i=>(i.zero,i.size,i.bytes))=some (some (.int .u8 0),1,1):=by kernel_rfl
theorem row_of_own {w:World} {base n:Nat} {v:Value} {L:List Int} (h:w.ownsRow base 5 1 v n (L.map (Value.int .u8))) (hb:Bytes L):∃ A cap,v=.slice A n cap∧n=L.length∧RowAt w A cap L:=by
  have hl:L.length=n:=by have:=h.1;simpa using this
  rcases h.2 with ⟨rfl,rfl⟩ | ⟨g,cap,cur,rfl,_,hh,hc,hm,_⟩
  · have:L=[]:=List.eq_nil_of_length_eq_zero hl
    subst this
    exact ⟨none,0,rfl,rfl,Nat.le_refl _,Nat.zero_le _,hb,fun h=>absurd rfl h⟩
  · refine ⟨_,cap,rfl,hl.symm,by omega,hm,hb,fun hne=>⟨_,rfl,?_,fun i hi=>?_⟩⟩
    · have:=h.lt g rfl;exact this.2
    · exact h.cells (g:=g) rfl i (.int .u8 (L.getD i 0)) (by simp [List.getElem?_eq_getElem hi,List.getD])
theorem append_nil_run {w:World} {base:Nat} {ty:TypeId} {v:Value} {n:Nat} {xs:List Value} (hown:w.ownsRow base 5 1 v n xs) (c:Nat) :
    (Builtin.append_ #[39,39] ty #[v,.slice none 0 c]).run Tryz.prog w=.ok v w:=by
  obtain ⟨u0,hu0,hz0,hz1,hz2⟩:=info_parts u8_info
  rcases hown.2 with ⟨rfl,rfl⟩ | ⟨g,cap,cur,rfl,_,_,hnc,_⟩
  · simp [Builtin.append_,run_underlying Tryz.underlying39,sizeOf,typeInfo,hu0,Builtin.lenOf,Builtin.firstCells]
  · simp [Builtin.append_,run_underlying Tryz.underlying39,sizeOf,typeInfo,hu0,Builtin.lenOf,Builtin.firstCells,hnc,storeCells]
theorem append_row {w:World} {ops:Array Oper} {rest:List Oper} {o:Oper} {a:Act} {Q:Exit→Act→World→Prop} (hgd:o.guard=none) (s x:Operand)
    (ho:o.op=.call { callee:=.builtin .append,args:=#[s,x],argTypes:=#[39,39] })
    (base:Nat) (v:Value) (n:Nat) (L:List Int) (hs:a.eval s=v) (hown:w.ownsRow base 5 1 v n (L.map (Value.int .u8))) (hL:Bytes L)
    (A:Option Addr) (m c:Nat) (M:List Int) (hx:a.eval x=.slice A m c) (hm:m=M.length) (cap:Nat) (hr:RowAt w A cap M) (n':Nat) (hn':n'=n+m) (hlen:n+m≤1000000) (hbase:base≤w.heap.size)
    (h:∀ A' cap' w',w'.ownsRow base 5 1 (.slice A' n' cap') n' ((L ++ M).map (Value.int .u8))→RowAt w' A' cap' (L ++ M)→Below base w w'→wpList Tryz.prog ops Q rest (a.put o.dst (.slice A' n' cap')) w') :
    wpList Tryz.prog ops Q (o :: rest) a w:=by
  subst hn'
  obtain ⟨u0,hu0,hz0,hz1,hz2⟩:=info_parts u8_info
  have hLM:Bytes (L ++ M):=fun z hz=>by
    rcases List.mem_append.1 hz with h | h
    · exact hL z h
    · exact hr.2.2.1 z h
  cases A with
  | none=>
    have hM:M=[]:=by
      by_cases hne:M=[]
      · exact hne
      · obtain ⟨ad,h,_⟩:=hr.2.2.2 hne;cases h
    subst hM
    subst hm
    refine wpList_plain hgd fun K hK=>?_
    unfold Oper.wp execOp
    simp only [ho,resolve,invoke,builtin,Sem.run_bind,Sem.run_pure,Result.andThen_ok,List.map_toArray,List.map_cons,List.map_nil,hs,hx,List.length_nil,append_nil_run hown c]
    have hown':w.ownsRow base 5 1 v (n+0) ((L ++ []).map (Value.int .u8)):=by simpa using hown
    obtain ⟨A',cap',rfl,_,hrow⟩:=row_of_own hown' hLM
    exact hK _ _ (h A' cap' w hown' hrow (Below.refl _ _))
  | some ad=>
    refine wpList_append_own_at w hgd s x 39 ho base 5 u0 _ 1 1 Tryz.underlying39 hu0 hz0 hz1 hz2 rfl (by decide) v n (L.map (Value.int .u8)) hs hown ad m c (M.map (Value.int .u8)) hx (by simp [hm])
      (fun j u hj=>?_) (ints_oneCell .u8 M) (by unfold maxLen;omega) (by omega) hbase ?_
    · have hjl:j < M.length:=by
        rcases Nat.lt_or_ge j M.length with h | h
        · exact h
        · rw [List.getElem?_eq_none (by simpa using h)] at hj;cases hj
      obtain ⟨ad',e,_,hc⟩:=hr.2.2.2 (by intro h;subst h;simp at hjl)
      obtain rfl:ad=ad':=Option.some.inj e
      rw [hc j hjl]
      simp [List.getElem?_eq_getElem hjl] at hj
      subst hj
      simp [List.getD,List.getElem?_eq_getElem hjl]
    · intro v' w' hown' hg _ _
      rw [← List.map_append] at hown'
      obtain ⟨A',cap',rfl,_,hrow⟩:=row_of_own hown' hLM
      exact h A' cap' w' hown' hrow ((Below.refl base w).grown hg hbase (fun k hk=>(hown.lt k hk).1))
end Go.Proofs.YteefmjhemhlapaaGreat.Mm
