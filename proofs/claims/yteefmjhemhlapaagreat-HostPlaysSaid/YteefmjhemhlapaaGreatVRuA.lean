/- Merged by wip/tools/regroup: RuleMath, RuleMath2, RuleSet, RuleWalk, RuleStep, RuleSecond. -/
import Derived.Test.YteefmjhemhlapaaGreatVScA
import Derived.Test.YteefmjhemhlapaaGreatVIsA
import Derived.Test.YteefmjhemhlapaaGreatVBaM
import Derived.Test.YteefmjhemhlapaaGreatVScanAdd
namespace Go.Proofs.YteefmjhemhlapaaGreat.Mm
set_option linter.unusedVariables false
set_option maxRecDepth 10000
def dfl:Nat×InsV:=(0,⟨0,0,0,0⟩)
def useB (x:InsV):Bool:=x.op == 15 || x.op == 16 || x.op == 21
def gateB (x:InsV):Bool:=x.op == 22 && decide (4 < x.imm)
def pairB (a b:InsV):Bool:=if b.op=15 then a.op == 17 && a.a == b.b else if b.op=16 then a.op == 17 && a.a == b.a else b.op == 21 && (a.op == 18 && a.a == b.a)
def standsB (L:List (Nat×InsV)) (i:Nat):Bool:=!gateB (L.getD i dfl).2 && (!useB (L.getD i dfl).2 || (decide ((L.getD i dfl).1 % 32≠0) && pairB (L.getD (i - 1) dfl).2 (L.getD i dfl).2))
def ruleB (L:List (Nat×InsV)):Bool:=(List.range L.length).all (standsB L)
def secP (L:List (Nat×InsV)):List Nat:=(L.filter fun p=>useB p.2).map Prod.fst
def ruleE (code:List Int):Int:=if scanE code≠0 then scanE code else if ruleB (scanL code)=true then 0 else 5
def secL (code:List Int):List Nat:=if ruleE code=0 then secP (scanL code) else []
theorem ruleB_iff (L:List (Nat×InsV)):ruleB L=true↔∀ i,i < L.length→standsB L i=true:=by
  unfold ruleB
  rw [List.all_eq_true]
  constructor
  · intro h i hi;exact h i (List.mem_range.2 hi)
  · intro h i hi;exact h i (List.mem_range.1 hi)
theorem ruleB_no {L:List (Nat×InsV)} {i:Nat} (hi:i < L.length) (h:standsB L i=false):ruleB L=false:=by
  cases hr:ruleB L with
  | false=>rfl
  | true=>rw [(ruleB_iff L).1 hr i hi] at h;cases h
theorem ruleE_scan {code:List Int} (h:scanE code≠0):ruleE code=scanE code∧secL code=[]:=by
  have e:ruleE code=scanE code:=by unfold ruleE;rw [if_pos h]
  exact ⟨e,by unfold secL;rw [e,if_neg h]⟩
theorem ruleE_5 {code:List Int} (h:scanE code=0) (hr:ruleB (scanL code)=false):ruleE code=5∧secL code=[]:=by
  have e:ruleE code=5:=by unfold ruleE;rw [if_neg (fun k=>k h),if_neg (by rw [hr];decide)]
  exact ⟨e,by unfold secL;rw [e,if_neg (by decide)]⟩
theorem ruleE_0 {code:List Int} (h:scanE code=0) (hr:ruleB (scanL code)=true):ruleE code=0∧secL code=secP (scanL code):=by
  have e:ruleE code=0:=by unfold ruleE;rw [if_neg (fun k=>k h),if_pos hr]
  exact ⟨e,by unfold secL;rw [if_pos e]⟩
theorem rule_cases (code:List Int):(scanE code≠0∧ruleE code=scanE code∧secL code=[])∨(scanE code=0∧ruleB (scanL code)=false∧ruleE code=5∧secL code=[]) ∨
    (scanE code=0∧ruleB (scanL code)=true∧ruleE code=0∧secL code=secP (scanL code)):=by
  by_cases h:scanE code=0
  · cases hr:ruleB (scanL code)
    · exact .inr (.inl ⟨h,rfl,ruleE_5 h hr⟩)
    · exact .inr (.inr ⟨h,rfl,ruleE_0 h hr⟩)
  · exact .inl ⟨h,ruleE_scan h⟩
theorem getD_el {α:Type} (L:List α) (d:α) (k:Nat) (hk:k < L.length):L.getD k d=L[k]:=by simp [List.getD,hk]
theorem take_1 {α:Type} (L:List α) (d:α) (k:Nat) (hk:k < L.length):L.take (k+1)=L.take k ++ [L.getD k d]:=by
  rw [List.take_succ_eq_append_getElem hk,getD_el L d k hk]
theorem sec_yes {L:List (Nat×InsV)} {k:Nat} (hk:k < L.length) (h:useB (L.getD k dfl).2=true):secP (L.take (k+1))=secP (L.take k) ++ [(L.getD k dfl).1]:=by
  rw [take_1 L dfl k hk]
  unfold secP
  rw [List.filter_append,List.map_append]
  simp only [List.filter_cons,List.filter_nil,h,if_true,List.map_cons,List.map_nil]
theorem sec_no {L:List (Nat×InsV)} {k:Nat} (hk:k < L.length) (h:useB (L.getD k dfl).2=false):secP (L.take (k+1))=secP (L.take k):=by
  rw [take_1 L dfl k hk]
  unfold secP
  rw [List.filter_append,List.map_append]
  simp only [List.filter_cons,List.filter_nil,h,Bool.false_eq_true,if_false,List.map_nil,List.append_nil]
theorem sec_all (L:List (Nat×InsV)):secP (L.take L.length)=secP L:=by rw [List.take_length]
theorem with_at:∀ (l:List InsV) (s k:Nat),k < l.length→(withPos s l).getD k dfl=(s+(flatI (l.take k)).length,l.getD k ⟨0,0,0,0⟩):=by
  intro l
  induction l with
  | nil=>intro s k hk;simp at hk
  | cons x t ih=>
    intro s k hk
    cases k with
    | zero=>simp [withPos,flatI]
    | succ k=>
      show (withPos (s+x.lay.length) t).getD k dfl=_
      rw [ih _ k (by simpa using hk),List.take_succ_cons,flatI_cons,List.length_append,Nat.add_assoc]
      rfl
theorem with_ge:∀ (l:List InsV) (s:Nat),∀ p∈withPos s l,s≤p.1:=by
  intro l
  induction l with
  | nil=>intro s p hp;cases hp
  | cons x t ih=>
    intro s p hp
    rcases List.mem_cons.1 hp with rfl | hp
    · exact Nat.le_refl _
    · have:=ih _ p hp;omega
theorem with_lt:∀ (l:List InsV) (s:Nat),(∀ x∈l,x.Ok)→∀ p∈withPos s l,p.1 < s+(flatI l).length:=by
  intro l
  induction l with
  | nil=>intro s _ p hp;cases hp
  | cons x t ih=>
    intro s h p hp
    have hx:=lay_len (h x (by simp))
    rw [flatI_cons,List.length_append]
    rcases List.mem_cons.1 hp with rfl | hp
    · show s < _;omega
    · have:=ih _ (fun y hy=>h y (by simp [hy])) p hp;omega
theorem with_rise:∀ (l:List InsV) (s:Nat),(∀ x∈l,x.Ok)→((withPos s l).map Prod.fst).Pairwise (· < ·):=by
  intro l
  induction l with
  | nil=>intro s _;exact List.Pairwise.nil
  | cons x t ih=>
    intro s h
    have hx:=lay_len (h x (by simp))
    refine List.Pairwise.cons (fun q hq=>?_) (ih _ (fun y hy=>h y (by simp [hy])))
    obtain ⟨p,hp,rfl⟩:=List.mem_map.1 hq
    have:=with_ge t _ p hp
    show s < p.1
    omega
theorem sec_lt {L:List (Nat×InsV)} (h:(L.map Prod.fst).Pairwise (· < ·)) {k:Nat} (hk:k < L.length):∀ q∈secP (L.take k),q < (L.getD k dfl).1:=by
  intro q hq
  obtain ⟨p,hp,rfl⟩:=List.mem_map.1 hq
  obtain ⟨i,hi,rfl⟩:=List.mem_iff_getElem.1 ((List.mem_filter.1 hp).1)
  rw [List.length_take] at hi
  rw [getD_el L dfl k hk,List.getElem_take]
  have:=List.pairwise_iff_getElem.1 h i k (by rw [List.length_map];omega) (by rw [List.length_map];exact hk) (by omega)
  simpa using this
theorem sec_mem {L:List (Nat×InsV)} (h:(L.map Prod.fst).Pairwise (· < ·)) {k:Nat} (hk:k < L.length):(L.getD k dfl).1∈secP L↔useB (L.getD k dfl).2=true:=by
  constructor
  · intro hq
    obtain ⟨p,hp,he⟩:=List.mem_map.1 hq
    obtain ⟨h1,h2⟩:=List.mem_filter.1 hp
    obtain ⟨i,hi,rfl⟩:=List.mem_iff_getElem.1 h1
    rw [getD_el L dfl k hk] at he ⊢
    have hik:i=k:=by
      have hp:=List.pairwise_iff_getElem.1 h
      rcases Nat.lt_trichotomy i k with hl | he' | hl
      · have:=hp i k (by rw [List.length_map];exact hi) (by rw [List.length_map];exact hk) hl
        simp at this;omega
      · exact he'
      · have:=hp k i (by rw [List.length_map];exact hk) (by rw [List.length_map];exact hi) hl
        simp at this;omega
    subst hik
    exact h2
  · intro hu
    refine List.mem_map.2 ⟨L.getD k dfl,List.mem_filter.2 ⟨?_,hu⟩,rfl⟩
    rw [getD_el L dfl k hk]
    exact List.getElem_mem _
theorem scan_with {code:List Int} (hb:Go.Proofs.YteefmjhemhlapaaGreat.Bytes code) (h:scanE code=0):scanL code=withPos 0 (insI (scanL code))∧(∀ x∈insI (scanL code),x.Ok)∧code=flatI (insI (scanL code)):=by
  rcases scan_cases code with ⟨_,e,_⟩ | ⟨_,_,e,_⟩ | ⟨_,L,hs,_,e⟩
  · rw [e] at h;cases h
  · rw [e] at h;cases h
  · rw [e]
    obtain ⟨k1,k2,k3⟩:=scan_some hb hs
    exact ⟨k3,fun x hx=>by obtain ⟨p,hp,rfl⟩:=List.mem_map.1 hx;exact scan_ok hb hs p hp,k1⟩
theorem scan_rise {code:List Int} (hb:Go.Proofs.YteefmjhemhlapaaGreat.Bytes code) (h:scanE code=0):((scanL code).map Prod.fst).Pairwise (· < ·):=by
  obtain ⟨e,ho,_⟩:=scan_with hb h
  rw [e]
  exact with_rise _ 0 ho
theorem scan_below {code:List Int} (hb:Go.Proofs.YteefmjhemhlapaaGreat.Bytes code) (h:scanE code=0):∀ p∈scanL code,p.1 < code.length:=by
  obtain ⟨e,ho,e2⟩:=scan_with hb h
  intro p hp
  rw [e] at hp
  have:=with_lt _ 0 ho p hp
  rw [← e2] at this
  omega
end Go.Proofs.YteefmjhemhlapaaGreat.Mm
namespace Go.Proofs.YteefmjhemhlapaaGreat.Mm
set_option linter.unusedVariables false
set_option maxRecDepth 10000
theorem rule_free {L:List (Nat×InsV)} (h:∀ p∈L,useB p.2=false∧gateB p.2=false):ruleB L=true:=by
  rw [ruleB_iff]
  intro i hi
  obtain ⟨h1,h2⟩:=h (L.getD i dfl) (by rw [getD_el L dfl i hi];exact List.getElem_mem _)
  unfold standsB
  rw [h1,h2]
  rfl
theorem pad_mem:∀ (l:List InsV) (s:Nat),∀ y∈padI s l,y=nopI∨y∈l:=by
  intro l
  induction l with
  | nil=>intro s y hy;exact .inl (List.eq_of_mem_replicate hy)
  | cons x t ih=>
    intro s y hy
    rcases List.mem_append.1 hy with hy | hy
    · exact .inl (List.eq_of_mem_replicate hy)
    · rcases List.mem_cons.1 hy with rfl | hy
      · exact .inr (by simp)
      · rcases ih _ y hy with h | h
        · exact .inl h
        · exact .inr (by simp [h])
theorem pad_free {l:List InsV} (hok:∀ x∈l,x.Ok) (h:∀ x∈l,useB x=false∧gateB x=false) (h0:0 < (padL l).length) (h4:(padL l).length≤4096):ruleE (padL l)=0:=by
  have hs:sizeB (padL l).length=true:=(sizeB_iff _).2 ⟨by have:=pad_len32 l hok;omega,h4,pad_len32 l hok⟩
  obtain ⟨e1,e2⟩:=scanE_0 hs (pad_scan l hok)
  refine (ruleE_0 e1 ?_).1
  rw [e2]
  refine rule_free fun p hp=>?_
  have hm:p.2∈padI 0 l:=by
    have:=List.mem_map_of_mem (f:=Prod.snd) hp
    rwa [withPos_ins] at this
  rcases pad_mem l 0 _ hm with h1 | h1
  · rw [h1];exact ⟨by decide,by decide⟩
  · exact h _ h1
end Go.Proofs.YteefmjhemhlapaaGreat.Mm
namespace Go.Proofs.YteefmjhemhlapaaGreat.Mm
open Go.ChangeShapes Go.WideShapes Go.ChangeAt Go.RowKit
set_option linter.unusedVariables false
set_option maxRecDepth 10000
def SetAt (w:World) (b:Nat) (K:List Nat):Prop:=∃ es c,w.heap[b]?=some (.map es c)∧es.toList.map (fun e=>(e.key,e.val))=(K.map fun k:Nat=>(Value.int .i64 (k:Int),Value.bool true)) ∧
    MapKept.Stamped es c
theorem SetAt.made (w:World):SetAt (w.alloc (.map #[] 0)) w.heap.size []:=⟨#[],0,heap_alloc_new w _,rfl,fun x hx=>by simp at hx,List.nodup_nil,List.nodup_nil⟩
theorem SetAt.lt {w:World} {b:Nat} {K:List Nat} (h:SetAt w b K):b < w.heap.size:=by
  obtain ⟨es,c,hb,_⟩:=h
  exact (Array.getElem?_eq_some_iff.1 hb).1
theorem SetAt.below {w w':World} {b:Nat} {K:List Nat} (h:SetAt w b K) (hb:Below w.heap.size w w'):SetAt w' b K:=by
  have hl:=h.lt
  obtain ⟨es,c,h1,h2⟩:=h
  exact ⟨es,c,(hb.block b hl).trans h1,h2⟩
theorem set_find:∀ (es:List MapEntry) (K:List Nat) (i:Nat) (q:Int),es.map (fun e=>(e.key,e.val))=K.map (fun k:Nat=>(Value.int .i64 (k:Int),Value.bool true)) →
    (((∃ k∈K,(k:Int)=q)∧∃ j,Instr.findNow (.int .i64) (.int .i64 q) es i=some (some (j,.bool true)))∨((¬ ∃ k∈K,(k:Int)=q)∧Instr.findNow (.int .i64) (.int .i64 q) es i=some none)):=by
  intro es
  induction es with
  | nil=>
    intro K i q h
    cases K with
    | nil=>exact .inr ⟨by simp,rfl⟩
    | cons k t=>simp at h
  | cons e es ih=>
    intro K i q h
    cases K with
    | nil=>simp at h
    | cons k t=>
      simp only [List.map_cons,List.cons.injEq,Prod.mk.injEq] at h
      obtain ⟨⟨hk,hv⟩,ht⟩:=h
      have hs:Instr.sameNow (.int .i64) (.int .i64 q) e.key=some (q == (k:Int)):=by rw [hk];rfl
      by_cases hq:q=(k:Int)
      · left
        refine ⟨⟨k,by simp,hq.symm⟩,i,?_⟩
        unfold Instr.findNow
        rw [hs,show (q == (k:Int))=true from beq_iff_eq.2 hq,hv]
      · have hf:Instr.findNow (.int .i64) (.int .i64 q) (e :: es) i=Instr.findNow (.int .i64) (.int .i64 q) es (i+1):=by
          conv=>lhs;unfold Instr.findNow
          rw [hs,show (q == (k:Int))=false from beq_eq_false_iff_ne.2 hq]
        rw [hf]
        have hm:(∃ k'∈k :: t,(k':Int)=q)↔∃ k'∈t,(k':Int)=q:=by
          constructor
          · rintro ⟨k',hk',he⟩
            rcases List.mem_cons.1 hk' with rfl | hk'
            · exact absurd he.symm hq
            · exact ⟨k',hk',he⟩
          · rintro ⟨k',hk',he⟩;exact ⟨k',by simp [hk'],he⟩
        rw [hm]
        exact ih t (i+1) q ht
theorem set_mem (K:List Nat) (q:Nat):(∃ k∈K,(k:Int)=(q:Int))↔q∈K:=by
  constructor
  · rintro ⟨k,hk,he⟩;rwa [show q=k by omega]
  · intro h;exact ⟨q,h,rfl⟩
section
variable {P:Program} {mt kt et:TypeId}
theorem SetAt.put {w:World} {b:Nat} {K:List Nat} (h:SetAt w b K) (hm:P.underlying mt=some (.map kt et)) (hk:P.underlying kt=some (.int .i64)) (q:Nat) (hq:q ∉ K) :
    ∃ w',(Instr.mapUpdate mt (.map (some b)) (.int .i64 q) (.bool true)).run P w=.ok () w'∧SetAt w' b (K ++ [q])∧w.grownBy w' (some b):=by
  have hl:=h.lt
  obtain ⟨es,c,h1,h2,hst⟩:=h
  have hkey:MapKept.IsKey (.int .i64) (.int .i64 (q:Int)):=rfl
  rcases set_find es.toList K 0 q h2 with ⟨hq',j,hf⟩ | ⟨_,hf⟩
  · rw [set_mem] at hq';exact absurd hq' hq
  · refine ⟨{ w with heap:=w.heap.setIfInBounds b (.map (es.push { key:=.int .i64 q,val:=.bool true,born:=c }) (c+1)) },?_,⟨es.push { key:=.int .i64 q,val:=.bool true,born:=c },c+1,?_,?_,?_⟩,?_⟩
    · simp [Instr.mapUpdate,run_underlying hm,MapKept.run_getObj_map h1,MapKept.run_checkKey hk hkey,MapKept.run_findKey hk hf,MapKept.run_setObj_map _ h1,Result.andThen]
    · exact (MapKept.heap_set h1).1
    · simp only [Array.toList_push,List.map_append,h2,List.map_cons,List.map_nil]
    · obtain ⟨s1,s2,s3⟩:=hst
      have hk2:es.toList.map (·.key)=K.map fun k:Nat=>Value.int .i64 (k:Int):=by
        have:=congrArg (List.map Prod.fst) h2
        simpa [List.map_map,Function.comp_def] using this
      refine ⟨fun x hx=>?_,?_,?_⟩
      · rw [Array.toList_push] at hx
        rcases List.mem_append.1 hx with hx | hx
        · exact Nat.lt_succ_of_lt (s1 x hx)
        · obtain rfl:=List.mem_singleton.1 hx
          exact Nat.lt_succ_self _
      · rw [Array.toList_push,List.map_append]
        refine List.nodup_append.2 ⟨s2,by simp,fun a ha b' hb'=>?_⟩
        obtain ⟨x,hx,rfl⟩:=List.mem_map.1 ha
        have h3:b'=c:=by simpa using hb'
        have:=s1 x hx
        omega
      · rw [Array.toList_push,List.map_append,hk2]
        rw [hk2] at s3
        refine List.nodup_append.2 ⟨s3,by simp,fun a ha b' hb'=>?_⟩
        obtain ⟨x,hx,rfl⟩:=List.mem_map.1 ha
        have h3:b'=Value.int .i64 (q:Int):=by simpa using hb'
        rw [h3]
        intro e
        injection e with _ e
        exact hq (by rw [show q=x by omega];exact hx)
    · exact ⟨rfl,rfl,rfl,by simp,fun k _ hne=>(MapKept.heap_set h1).2 k (fun e=>hne (by rw [e]))⟩
end
end Go.Proofs.YteefmjhemhlapaaGreat.Mm
namespace Go.Proofs.YteefmjhemhlapaaGreat.Mm
open Go.ChangeShapes Go.WideShapes Go.ChangeAt Go.RowKit
set_option linter.unusedVariables false
set_option maxRecDepth 10000
theorem pair_load {a b:InsV} (h:(b.op == 15)=true):pairB a b=(a.op == 17 && a.a == b.b):=by
  unfold pairB;rw [if_pos (by simpa using h)]
theorem pair_store {a b:InsV} (h:(b.op == 15)=false) (h1:(b.op == 16)=true):pairB a b=(a.op == 17 && a.a == b.a):=by
  unfold pairB;rw [if_neg (by simpa using h),if_pos (by simpa using h1)]
theorem pair_jr {a b:InsV} (h:(b.op == 15)=false) (h1:(b.op == 16)=false):pairB a b=(b.op == 21 && (a.op == 18 && a.a == b.a)):=by
  unfold pairB;rw [if_neg (by simpa using h),if_neg (by simpa using h1)]
theorem pair_ways (a b:InsV) :
    ((b.op == 15)=true∧(a.op == 17)=false∧pairB a b=false)∨((b.op == 15)=true∧(a.op == 17)=true∧pairB a b=(a.a == b.b)) ∨
    ((b.op == 15)=false∧(b.op == 16)=true∧(a.op == 17)=false∧pairB a b=false)∨((b.op == 15)=false∧(b.op == 16)=true∧(a.op == 17)=true∧pairB a b=(a.a == b.a)) ∨
    ((b.op == 15)=false∧(b.op == 16)=false∧(b.op == 21)=true∧(a.op == 18)=false∧pairB a b=false) ∨
    ((b.op == 15)=false∧(b.op == 16)=false∧(b.op == 21)=true∧(a.op == 18)=true∧pairB a b=(a.a == b.a)) ∨
    ((b.op == 15)=false∧(b.op == 16)=false∧(b.op == 21)=false∧pairB a b=false):=by
  cases h:b.op == 15
  · cases h1:b.op == 16
    · cases h2:b.op == 21
      · simp [pair_jr h h1,h2]
      · cases h3:a.op == 18 <;> simp [pair_jr h h1,h2,h3]
    · cases h3:a.op == 17 <;> simp [pair_store h h1,h3]
  · cases h3:a.op == 17 <;> simp [pair_load h,h3]
theorem masks_any (a b:InsV) (w:World):Calls Tryz.prog 135 #[a.agg,b.agg] w fun e w'=>e=.returned (.bool (pairB a b))∧Below w.heap.size w w':=by
  have HW:=pair_ways a b
  generalize pairB a b=q at *
  obtain ⟨o,x,y,z⟩:=a
  obtain ⟨o',x',y',z'⟩:=b
  unfold InsV.agg
  dsimp only at HW ⊢
  rcases HW with ⟨h1,h2,rfl⟩ | ⟨h1,h2,rfl⟩ | ⟨h1,h2,h3,rfl⟩ | ⟨h1,h2,h3,rfl⟩ | ⟨h1,h2,h3,h4,rfl⟩ | ⟨h1,h2,h3,h4,rfl⟩ | ⟨h1,h2,h3,rfl⟩
  all_goals
    go_enter Tryz.func135,Tryz.ntmps135
    go_wp2
    go_ret
    exact ⟨rfl,bel_al (bel_al (Below.refl _ _) _) _⟩
theorem rPair_any (a b:InsV) (w:World):Calls Tryz.prog 80 #[a.agg,b.agg] w fun e w'=>e=.returned (.bool (pairB a b))∧Below w.heap.size w w':=by
  have HW:=pair_ways a b
  generalize pairB a b=q at *
  obtain ⟨o,x,y,z⟩:=a
  obtain ⟨o',x',y',z'⟩:=b
  unfold InsV.agg
  dsimp only at HW ⊢
  rcases HW with ⟨h1,h2,rfl⟩ | ⟨h1,h2,rfl⟩ | ⟨h1,h2,h3,rfl⟩ | ⟨h1,h2,h3,rfl⟩ | ⟨h1,h2,h3,h4,rfl⟩ | ⟨h1,h2,h3,h4,rfl⟩ | ⟨h1,h2,h3,rfl⟩
  all_goals
    go_enter Tryz.func80,Tryz.ntmps80
    go_wp2
    go_ret
    exact ⟨rfl,bel_al (bel_al (Below.refl _ _) _) _⟩
def aloneB (x:InsV):Bool:=!useB x && !gateB x
theorem alone_ways (x:InsV) :
    ((x.op == 15)=true∧aloneB x=false)∨((x.op == 15)=false∧(x.op == 16)=true∧aloneB x=false)∨((x.op == 15)=false∧(x.op == 16)=false∧(x.op == 21)=true∧aloneB x=false) ∨
    ((x.op == 15)=false∧(x.op == 16)=false∧(x.op == 21)=false∧(x.op == 22)=true∧aloneB x=decide (x.imm≤4)) ∨
    ((x.op == 15)=false∧(x.op == 16)=false∧(x.op == 21)=false∧(x.op == 22)=false∧aloneB x=true):=by
  unfold aloneB useB gateB
  cases h:x.op == 15
  · cases h1:x.op == 16
    · cases h2:x.op == 21
      · cases h3:x.op == 22
        · simp
        · simp;by_cases h4:x.imm≤4
          · simp [h4]
          · simp [h4];omega
      · simp
    · simp
  · simp
theorem alone_any (x:InsV) (w:World):Calls Tryz.prog 123 #[x.agg] w fun e w'=>e=.returned (.bool (aloneB x))∧Below w.heap.size w w':=by
  have HW:=alone_ways x
  generalize aloneB x=q at *
  obtain ⟨o,y,z,n⟩:=x
  unfold InsV.agg
  dsimp only at HW ⊢
  rcases HW with ⟨h1,rfl⟩ | ⟨h1,h2,rfl⟩ | ⟨h1,h2,h3,rfl⟩ | ⟨h1,h2,h3,h4,rfl⟩ | ⟨h1,h2,h3,h4,rfl⟩
  all_goals
    go_enter Tryz.func123,Tryz.ntmps123
    go_wp2
    go_ret
    exact ⟨rfl,bel_al (Below.refl _ _) _⟩
end Go.Proofs.YteefmjhemhlapaaGreat.Mm
namespace Go.Proofs.YteefmjhemhlapaaGreat.Mm
set_option linter.unusedVariables false
set_option maxRecDepth 10000
def SecI (L:List (Nat×InsV)) (k:Nat) (S:List Nat):Prop:=(∀ j,j < k→standsB L j=true)∧S=secP (L.take k)
theorem secI_0 (L:List (Nat×InsV)):SecI L 0 []:=⟨fun j h=>by omega,rfl⟩
theorem pair_use {a b:InsV} (h:pairB a b=true):useB b=true∧gateB b=false:=by
  unfold useB gateB
  rcases pair_ways a b with ⟨h1,_,e⟩ | ⟨h1,_,_⟩ | ⟨h1,h2,_,e⟩ | ⟨h1,h2,_,_⟩ | ⟨h1,h2,h3,_,e⟩ | ⟨h1,h2,h3,_,_⟩ | ⟨_,_,_,e⟩
  · rw [e] at h;cases h
  · have:b.op=15:=by simpa using h1
    simp [this]
  · rw [e] at h;cases h
  · have:b.op=16:=by simpa using h2
    simp [this]
  · rw [e] at h;cases h
  · have:b.op=21:=by simpa using h3
    simp [this]
  · rw [e] at h;cases h
theorem secI_pair {L:List (Nat×InsV)} (hr:(L.map Prod.fst).Pairwise (· < ·)) {k:Nat} {S:List Nat} (h:SecI L k S) (hk:k < L.length) (hp:(L.getD k dfl).1 % 32≠0) (hq:pairB (L.getD (k - 1) dfl).2 (L.getD k dfl).2=true) :
    SecI L (k+1) (S ++ [(L.getD k dfl).1])∧(L.getD k dfl).1 ∉ S:=by
  obtain ⟨h1,rfl⟩:=h
  obtain ⟨hu,hg⟩:=pair_use hq
  refine ⟨⟨fun j hj=>?_,(sec_yes hk hu).symm⟩,fun hm=>by have:=sec_lt hr hk _ hm;omega⟩
  rcases Nat.lt_or_ge j k with h | h
  · exact h1 j h
  · obtain rfl:j=k:=by omega
    unfold standsB
    rw [hg,hq,decide_eq_true hp];simp
theorem secI_alone {L:List (Nat×InsV)} {k:Nat} {S:List Nat} (h:SecI L k S) (hk:k < L.length) (ha:aloneB (L.getD k dfl).2=true):SecI L (k+1) S:=by
  obtain ⟨h1,rfl⟩:=h
  have ha':useB (L.getD k dfl).2=false∧gateB (L.getD k dfl).2=false:=by simpa [aloneB] using ha
  obtain ⟨hu,hg⟩:=ha'
  refine ⟨fun j hj=>?_,(sec_no hk hu).symm⟩
  rcases Nat.lt_or_ge j k with h | h
  · exact h1 j h
  · obtain rfl:j=k:=by omega
    unfold standsB
    rw [hg,hu];simp
theorem rule_no {L:List (Nat×InsV)} {k:Nat} (hk:k < L.length) (ha:aloneB (L.getD k dfl).2=false) (hp:(L.getD k dfl).1 % 32=0∨pairB (L.getD (k - 1) dfl).2 (L.getD k dfl).2=false):ruleB L=false:=by
  refine ruleB_no hk ?_
  unfold standsB
  unfold aloneB at ha
  cases hg:gateB (L.getD k dfl).2
  · rw [hg] at ha
    have hu:useB (L.getD k dfl).2=true:=by simpa using ha
    rw [hu]
    rcases hp with h | h
    · simp only [h];simp
    · simp only [h];simp
  · simp
theorem rule_gate {L:List (Nat×InsV)} {k:Nat} (hk:k < L.length) (hg:gateB (L.getD k dfl).2=true):ruleB L=false:=by
  refine ruleB_no hk ?_
  unfold standsB
  rw [hg];simp
theorem secI_end {L:List (Nat×InsV)} {S:List Nat} (h:SecI L L.length S):ruleB L=true∧S=secP L:=⟨(ruleB_iff L).2 h.1,by rw [h.2,sec_all]⟩
theorem pos_at {L:List (Nat×InsV)} {k:Nat} (hk:k < L.length):(posI L).getD k 0=((L.getD k dfl).1:Int):=by simp [posI,List.getD,hk]
theorem ins_at {L:List (Nat×InsV)} {k:Nat} (hk:k < L.length):(insI L).getD k insD=(L.getD k dfl).2:=by simp [insI,List.getD,hk]
theorem place_0 {code:List Int} (hb:Go.Proofs.YteefmjhemhlapaaGreat.Bytes code) (h:scanE code=0) (hl:0 < (scanL code).length):((scanL code).getD 0 dfl).1=0:=by
  obtain ⟨h1,_,_⟩:=scan_with hb h
  have:=with_at (insI (scanL code)) 0 0 (by rw [insI_len];exact hl)
  rw [← h1] at this
  rw [this];rfl
theorem scan_oks {code:List Int} (hb:Go.Proofs.YteefmjhemhlapaaGreat.Bytes code) (h:scanE code=0) {k:Nat} (hk:k < (scanL code).length):((scanL code).getD k dfl).2.Ok:=by
  obtain ⟨_,h2,_⟩:=scan_with hb h
  refine h2 _ ?_
  rw [getD_el _ _ _ hk]
  exact List.mem_map.2 ⟨_,List.getElem_mem hk,rfl⟩
theorem scan_place {code:List Int} (hb:Go.Proofs.YteefmjhemhlapaaGreat.Bytes code) (h:scanE code=0) {k:Nat} (hk:k < (scanL code).length):((scanL code).getD k dfl).1 < code.length:=by
  rw [getD_el _ _ _ hk]
  exact scan_below hb h _ (List.getElem_mem hk)
end Go.Proofs.YteefmjhemhlapaaGreat.Mm
namespace Go.Proofs.YteefmjhemhlapaaGreat.Mm
open Go.ChangeShapes Go.WideShapes Go.ChangeAt Go.RowKit
set_option linter.unusedVariables false
set_option maxRecDepth 10000
theorem right_ok {x:InsV} (h:x.Ok) (w:World):Calls Tryz.prog 130 #[.agg #[.int .i64 x.op,.int .i64 x.a,.int .i64 x.b,.int .u32 x.imm]] w fun e w'=>e=.returned (.bool true)∧Below w.heap.size w w':=by
  have:=Go.Proofs.YteefmjhemhlapaaGreat.Right_any x.op x.a x.b x.imm h.2.1 h.2.2 w
  rwa [show Go.Proofs.YteefmjhemhlapaaGreat.rightB x.op x.a x.b x.imm=true from h.1] at this
theorem Second_any (a b:InsV) (ha:a.Ok) (hb:b.Ok) (w:World):Calls Tryz.prog 122 #[a.agg,b.agg] w fun e w'=>e=.returned (.bool (pairB a b))∧Below w.heap.size w w':=by
  have C:=Lib.hid (masks_any a b)
  have R1:=Lib.hid (right_ok ha)
  have R2:=Lib.hid (right_ok hb)
  have X1:=Lib.hid ((Ins4.new w a).alloc (.cells #[.int .i64 b.op,.int .i64 b.a,.int .i64 b.b,.int .u32 b.imm] 134))
  have X2:=Lib.hid (ins4_new1 w (.cells #[.int .i64 a.op,.int .i64 a.a,.int .i64 a.b,.int .u32 a.imm] 134) b)
  have Z:=Lib.hid (bel_al (bel_al (Below.refl w.heap.size w) (.cells #[.int .i64 a.op,.int .i64 a.a,.int .i64 a.b,.int .u32 a.imm] 134)) (.cells #[.int .i64 b.op,.int .i64 b.a,.int .i64 b.b,.int .u32 b.imm] 134))
  unfold InsV.agg at C ⊢
  cases hq:pairB a b
  · rw [hq] at C
    clear hq
    go_enter Tryz.func122,Tryz.ntmps122
    go_wp2_with fail
    refine (C.out _).mono ?_;rintro e w1 ⟨rfl,hb1⟩
    have B1:=Lib.hid (bel_then Z.out hb1)
    clear hb1
    go_wp2
    go_ret
    exact ⟨rfl,B1.out⟩
  · rw [hq] at C
    clear hq
    go_enter Tryz.func122,Tryz.ntmps122
    go_wp2_with fail
    refine (C.out _).mono ?_;rintro e w1 ⟨rfl,hb1⟩
    have B1:=Lib.hid (bel_then Z.out hb1)
    have Y1:=(X1.out.below hb1).at
    have Y2:=Lib.hid (X2.out.below hb1)
    obtain ⟨p0,p1,p2,p3⟩:=Y1
    clear hb1
    go_wp2_with fail
    refine (R1.out _).mono ?_;rintro e w2 ⟨rfl,hb2⟩
    have B2:=Lib.hid (bel_then B1.out hb2)
    obtain ⟨q0,q1,q2,q3⟩:=(Y2.out.below hb2).at
    clear hb2 p0 p1 p2 p3
    go_wp2_with fail
    refine (R2.out _).mono ?_;rintro e w3 ⟨rfl,hb3⟩
    have B3:=Lib.hid (bel_then B2.out hb3)
    clear hb3
    go_wp2
    go_ret
    exact ⟨rfl,B3.out⟩
end Go.Proofs.YteefmjhemhlapaaGreat.Mm
