/- Merged by wip/tools/regroup: GoalKeys, GoalRead, GoalMay. -/
import Derived.Test.YteefmjhemhlapaaGreatVGoalLay
import Derived.Test.YteefmjhemhlapaaGreatVRuA
import Derived.Test.YteefmjhemhlapaaGreatVGoalMath
import Derived.Test.YteefmjhemhlapaaGreatVRuB
import Derived.Test.YteefmjhemhlapaaGreatVGoA
import Derived.Lib.SlKeysI
namespace Go.Proofs.YteefmjhemhlapaaGreat.Mm
open Go.ChangeShapes Go.WideShapes Go.ChangeAt Go.RowKit
set_option linter.unusedVariables false
set_option maxRecDepth 10000
theorem insert_perm {H:Type} (x:Lit×DataW H) (l:List (Lit×DataW H)):(DataW.insert x l).Perm (x :: l):=by
  induction l with
  | nil=>exact List.Perm.refl _
  | cons y t ih=>
    unfold DataW.insert
    split
    · exact List.Perm.refl _
    · exact (List.Perm.cons y ih).trans (List.Perm.swap x y t)
theorem sorted_perm {H:Type} (l:List (Lit×DataW H)):(l.foldr DataW.insert []).Perm l:=by
  induction l with
  | nil=>exact List.Perm.refl _
  | cons x t ih=>exact (insert_perm x _).trans (List.Perm.cons x ih)
def anyR:Value→Option (DataW Unit×List MemPlace):=fun _=>some (.nil,[])
theorem key_of {P:Program} {kt:TypeId} (hk:P.underlying kt=some (.int .i64)) (k:Nat) (h:k≤100000):keyOf P kt (.int .i64 (k:Int))=some (.int .i64 (k:Int)):=by
  have:(Lit.int .i64 (k:Int)).wf=true:=by simp only [Lit.wf,show IntKind.i64.min=-9223372036854775808 by decide,show IntKind.i64.max=9223372036854775807 by decide,Bool.and_eq_true,decide_eq_true_eq];omega
  simp [keyOf,hk,mapKey,this]
theorem SetAt.owns {P:Program} {kt:TypeId} {w:World} {b:Nat} {K:List Nat} (h:SetAt w b K) (hk:P.underlying kt=some (.int .i64)) (hK:∀ k∈K,k≤100000) (hl:K.length≤100000) :
    ∃ D:DataW Unit,w.ownsMap P kt anyR b K.length D∧Maps.size D=K.length∧(intKeys D).Perm (K.map fun k:Nat=>(k:Int)):=by
  obtain ⟨es,c,h1,h2,hst⟩:=h
  have hlen:es.size=K.length:=by
    have:=congrArg List.length h2
    simpa using this
  have hrd:∀ x∈es.toList,∃ k∈K,WideElems.rd P kt anyR x=some (.int .i64 (k:Int),.nil):=fun x hx=>by
    have:(x.key,x.val)∈es.toList.map (fun e=>(e.key,e.val)):=List.mem_map.2 ⟨x,hx,rfl⟩
    rw [h2] at this
    obtain ⟨k,hk1,hk2⟩:=List.mem_map.1 this
    refine ⟨k,hk1,?_⟩
    have hkey:x.key=.int .i64 (k:Int):=by have:=congrArg Prod.fst hk2;simpa using this.symm
    unfold WideElems.rd
    rw [hkey,key_of hk k (hK k hk1)]
    rfl
  have hmap:(es.toList.map (WideElems.rg P kt anyR)).map (fun p=>Go.intOf p.1)=K.map fun k:Nat=>(k:Int):=by
    have h3:es.toList.map (·.key)=K.map fun k:Nat=>Value.int .i64 (k:Int):=by
      have:=congrArg (List.map Prod.fst) h2
      simpa [List.map_map,Function.comp_def] using this
    have h4:=congrArg (List.map fun v=>match v with | Value.int _ a=>a | _=>(0:Int)) h3
    rw [List.map_map,List.map_map] at h4
    rw [List.map_map]
    refine Eq.trans (List.map_congr_left fun x hx=>?_) (h4.trans (List.map_congr_left fun k _=>rfl))
    obtain ⟨k,_,hr⟩:=hrd x hx
    have hkey:=WideElems.rd_key hr
    show Go.intOf (WideElems.rg P kt anyR x).1=_
    rw [WideElems.rg_of hr]
    have:(x.key,x.val)∈es.toList.map (fun e=>(e.key,e.val)):=List.mem_map.2 ⟨x,hx,rfl⟩
    rw [h2] at this
    obtain ⟨k2,hk1,hk2⟩:=List.mem_map.1 this
    have hkey2:x.key=.int .i64 (k2:Int):=by have:=congrArg Prod.fst hk2;simpa using this.symm
    rw [hkey2,key_of hk k2 (hK k2 hk1)] at hkey
    show (k:Int)=(match x.key with | Value.int _ a=>a | _=>0)
    rw [hkey2]
    injection hkey with hkey
    injection hkey with _ hkey
    exact hkey.symm
  refine ⟨_,⟨es,c,h1,⟨by rw [hlen];unfold maxLen;omega,hst,fun x hx=>?_⟩,by omega,rfl⟩,?_,?_⟩
  · obtain ⟨k,_,hr⟩:=hrd x hx
    exact ⟨_,hr⟩
  · show ((es.toList.map (WideElems.rg P kt anyR)).foldr DataW.insert []).length=_
    rw [(sorted_perm _).length_eq,List.length_map]
    simpa using hlen
  · show (((es.toList.map (WideElems.rg P kt anyR)).foldr DataW.insert []).map fun p=>Go.intOf p.1).Perm _
    rw [← hmap]
    exact (sorted_perm _).map _
theorem sorts_in (m:Nat):AnyZI.SortsIn Tryz.prog sortedL_ren Fence.wide m:=
  ⟨fun blk off cap ss W hH hblk hsz=>callsIn_wide.2 (AnyM.slices_Sort_int sortL blk off cap ss W hH hblk hsz),
   fun p cap W=>callsIn_wide.2 (AnyM.slices_Sort_int_none sortL p cap W)⟩
theorem Keys_any (mb:Option Nat) (W:World):Calls Tryz.prog 109 #[.map mb] W fun e w'=>e=.returned (.func (.func 127) #[] #[.pointer (some ⟨W.heap.size,0,none⟩)])∧w'=W.alloc (.cells #[.map mb] 171):=
  callsIn_wide.1 (AnyZI.keys_in keysL Fence.wide 5 trivial rfl mb W)
def Keyed (K:List Nat) (l:List Int):Prop:=l.length=K.length∧l.Pairwise (·≤·)∧∀ x:Int,x∈l↔∃ k∈K,(k:Int)=x
set_option maxHeartbeats 1000000 in
theorem Sorted_any (b:Nat) (K:List Nat) (w:World) (h:SetAt w b K) (hK:∀ k∈K,k≤100000) (hl:K.length≤100000) :
    Calls Tryz.prog 108 #[.func (.func 127) #[] #[.pointer (some ⟨w.heap.size,0,none⟩)]] (w.alloc (.cells #[.map (some b)] 171)) fun e w'=>
      ∃ A c l,e=.returned (.slice A K.length c)∧Keyed K l∧IntRow w' A c l∧Below w.heap.size w w':=by
  obtain ⟨D,hown,hsz,hperm⟩:=h.owns Tryz.underlying3 hK hl
  have hbl:=h.lt
  have hseq:SeqGives Fence.wide 2 Tryz.prog 127 #[.pointer (some ⟨w.heap.size,0,none⟩)] encZ (fun ss=>ss.Perm (intKeys D)) (Maps.size D) (w.alloc (.cells #[.map (some b)] 171)):=
    AnyZI.keys_gives (ρ:=keysL_ren) { keysL with } Fence.wide _ trivial rfl (by omega) w.heap.size b K.length D _ (by simp) (by simp) (by
      obtain ⟨es,clock,hb,Ft,hs,hD⟩:=hown
      exact ⟨es,clock,(Below.heap_alloc _ _ b hbl).trans hb,Ft,hs,hD⟩)
  have cS:=AnyZI.sorted_in sortedL Fence.wide 5 trivial trivial trivial trivial rfl (by omega) (sorts_in _) (enters_of Tryz.func126 (by kernel_rfl) rfl) 127 #[.pointer (some ⟨w.heap.size,0,none⟩)] trivial (enters_of Tryz.func127 (by kernel_rfl) rfl) _ _ (by rw [hsz];unfold maxLen;omega) (by rw [hsz];omega) _ hseq
  change CallsIn _ _ Tryz.prog 108 _ _ _ at cS
  refine (callsIn_wide.1 cS).mono ?_
  rintro e w' ⟨v,ss,rfl,hS,hrow,hnil,hb⟩
  have hp:(ss.mergeSort (fun x y=>decide (x≤y))).Perm (K.map fun k:Nat=>(k:Int)):=((List.mergeSort_perm ss _).trans hS).trans hperm
  have hlen:ss.length=K.length:=by have:=(hS.trans hperm).length_eq;simpa using this
  rw [hlen] at hrow
  generalize hq:ss.mergeSort (fun x y=>decide (x≤y))=l at hp hrow
  have hll:l.length=K.length:=by have:=hp.length_eq;simpa using this
  obtain ⟨A,c,rfl,_,r⟩:=int_of_own hrow
  refine ⟨A,c,l,rfl,⟨hll,?_,fun x=>?_⟩,r,((Below.refl _ w).alloc (Nat.le_refl _) _).trans (hb.mono (by simp))⟩
  · rw [← hq]
    have tr:∀ a b c:Int,leI a b=true→leI b c=true→leI a c=true:=fun a b c h1 h2=>by simp only [leI,decide_eq_true_eq] at *;exact Int.le_trans h1 h2
    have to:∀ a b:Int,(leI a b || leI b a)=true:=fun a b=>by simp only [leI,Bool.or_eq_true,decide_eq_true_eq];exact Int.le_total a b
    exact (List.pairwise_mergeSort tr to ss).imp fun h=>by simpa [leI] using h
  · rw [hp.mem_iff,List.mem_map]
end Go.Proofs.YteefmjhemhlapaaGreat.Mm
namespace Go.Proofs.YteefmjhemhlapaaGreat.Mm
open Go.ChangeShapes Go.WideShapes Go.ChangeAt Go.RowKit
set_option linter.unusedVariables false
set_option maxRecDepth 10000
theorem cell_apart {w:World} {p:Addr} {h:Nat} {t:TypeId} {cs:List Value} {v:Value} (hb:HasB w h t cs) (hc:w.cell? p=some v) (hv:v ∉ cs):p.block≠h:=by
  intro e
  obtain ⟨b,o,s⟩:=p
  subst e
  have h2:w.heap[b]?=some (.cells cs.toArray t (0,0)):=hb
  unfold World.cell? at hc
  simp only [h2] at hc
  split at hc
  · cases hc
  · have:cs[o]?=some v:=by simpa using hc
    exact hv (List.mem_of_getElem? this)
theorem cell_but {w w':World} {p:Addr} {h:Nat} (hp:p.block≠h) (he:∀ k,k≠h→w'.heap[k]?=w.heap[k]?):w'.cell? p=w.cell? p:=by
  unfold World.cell?
  rw [he _ hp]
theorem IntRow.but {w w':World} {A:Option Addr} {c h:Nat} {l:List Int} {t:TypeId} {cs:List Value} (r:IntRow w A c l) (hb:HasB w h t cs) (hcs:∀ n:Int,Value.int .i64 n ∉ cs) (hs:w.heap.size≤w'.heap.size) (he:∀ k,k≠h→w'.heap[k]?=w.heap[k]?):IntRow w' A c l:=by
  refine ⟨r.1,r.2.1,fun hne=>?_⟩
  obtain ⟨p,hA,hp,hc⟩:=r.2.2 hne
  have h0:=hc 0 (List.length_pos_iff.2 hne)
  have hpb:p.block≠h:=by
    have:=cell_apart hb h0 (hcs _)
    rwa [block_add] at this
  exact ⟨p,hA,by omega,fun i hi=>(cell_but (by rw [block_add];exact hpb) he).trans (hc i hi)⟩
theorem InsRow.but {w w':World} {A:Option Addr} {c h:Nat} {l:List InsV} {t:TypeId} {cs:List Value} (r:InsRow w A c l) (hb:HasB w h t cs) (hcs:∀ n:Int,Value.int .i64 n ∉ cs) (hs:w.heap.size≤w'.heap.size) (he:∀ k,k≠h→w'.heap[k]?=w.heap[k]?):InsRow w' A c l:=by
  refine ⟨r.1,r.2.1,r.2.2.1,fun hne=>?_⟩
  obtain ⟨p,hA,hp,hc⟩:=r.2.2.2 hne
  have h0:=(hc 0 (List.length_pos_iff.2 hne)).c0
  have hpb:p.block≠h:=by
    have:=cell_apart hb h0 (hcs _)
    rwa [block_add] at this
  refine ⟨p,hA,by omega,fun i hi=>?_⟩
  obtain ⟨q0,q1,q2,q3⟩:=hc i hi
  have hq:(p.add (i * 4)).block≠h:=by rw [block_add];exact hpb
  exact ⟨(cell_but hq he).trans q0,(cell_but (p:=⟨_,_,none⟩) hq he).trans q1,(cell_but (p:=⟨_,_,none⟩) hq he).trans q2,(cell_but (p:=⟨_,_,none⟩) hq he).trans q3⟩
def nilC:List Value:=[.slice none 0 0,.slice none 0 0,.slice none 0 0]
structure Set3 (w:World) (h:Nat) (a b c:Value) (w':World):Prop where
  c0:w'.cell? ⟨h,0,none⟩=some a
  c1:w'.cell? ⟨h,1,none⟩=some b
  c2:w'.cell? ⟨h,2,none⟩=some c
  sz:w.heap.size≤w'.heap.size
  rest:∀ k,k≠h→w'.heap[k]?=w.heap[k]?
  bel:∀ (B:Nat) (v:World),Below B v w→B≤h→Below B v w'
theorem set3 {w:World} {h:Nat} {t:TypeId} {x y z:Value} (hb:HasB w h t [x,y,z]) (a b c:Value):Set3 w h a b c (((w.setCell ⟨h,0,none⟩ a).setCell ⟨h,1,none⟩ b).setCell ⟨h,2,none⟩ c):=by
  have p0:=hb.cell 0
  have p1:=hb.cell 1
  have p2:=hb.cell 2
  simp only [List.getElem?_cons_zero,List.getElem?_cons_succ] at p0 p1 p2
  refine ⟨by simp [go_sem,p0],by simp [go_sem,p1],by simp [go_sem,p2],by simp,fun k hk=>?_,fun B v hv hB=>((hv.setCell (p:=⟨h,0,none⟩) hB _).setCell (p:=⟨h,1,none⟩) hB _).setCell (p:=⟨h,2,none⟩) hB _⟩
  rw [Below.heap_setCell _ _ _ _ hk,Below.heap_setCell _ _ _ _ hk,Below.heap_setCell _ _ _ _ hk]
theorem kread_no (A:Option Addr) (cap n:Nat) (code:List Int) (hn:code.length=n) (hE:ruleE code≠0) (w:World) (r:RowAt w A cap code) :
    Calls Tryz.prog 88 #[.slice A n cap] w fun e w'=>e=.returned (.tuple #[.agg #[.slice none 0 0,.slice none 0 0,.slice none 0 0],.int .i64 (ruleE code)])∧Below w.heap.size w w':=by
  have C1:=Lib.hid (fun w' (k:Below w.heap.size w w')=>Seconds_no A cap n code hn hE w' (r.below k))
  have hq:(ruleE code != 0)=true:=by rw [bne_iff_ne];exact hE
  have X0:=Lib.hid (HasB.new w 154 nilC)
  have B0:=Lib.hid (bel_al (Below.refl w.heap.size w) (.cells nilC.toArray 154))
  unfold nilC at X0 B0
  clear r hn hE
  generalize ruleE code=q at *
  go_enter Tryz.func88,Tryz.ntmps88
  go_wp2_with fail
  refine (C1.out _ B0.out).mono ?_;rintro e w1 ⟨rfl,hb1⟩
  have X1:=X0.out.below hb1
  have p0:=X1.cell 0
  have p1:=X1.cell 1
  have p2:=X1.cell 2
  have f0:=X1.frozen 0
  have f1:=X1.frozen 1
  have f2:=X1.frozen 2
  have S:=Lib.hid (set3 X1 (.slice none 0 0) (.slice none 0 0) (.slice none 0 0))
  have B1:=Lib.hid (bel_then B0.out hb1)
  clear X1 hb1 X0 B0 C1
  simp only [List.getElem?_cons_zero,List.getElem?_cons_succ] at p0 p1 p2
  go_wp2
  have B2:=S.out.bel _ _ B1.out (Nat.le_refl _)
  obtain ⟨k0,k1,k2,_,_,_⟩:=S.out
  generalize ((w1.setCell ⟨w.heap.size,0,none⟩ (.slice none 0 0)).setCell ⟨w.heap.size,1,none⟩ (.slice none 0 0)).setCell ⟨w.heap.size,2,none⟩ (.slice none 0 0)=W2 at *
  exact bodyPost_ret (v:=.tuple #[.agg #[.slice none 0 0,.slice none 0 0,.slice none 0 0],.int .i64 q]) (by simp [results,Tryz.results88,go_sem,k0,k1,k2]) rfl ⟨rfl,B2⟩
def KeptP (w:World) (code:List Int) (e:Ending) (w':World):Prop:=
  ∃ A1 c1 A2 c2 A3 c3 l,e=.returned (.tuple #[.agg #[.slice A1 (scanL code).length c1,.slice A2 (scanL code).length c2,.slice A3 (secL code).length c3],.int .i64 0]) ∧
    InsRow w' A1 c1 (insI (scanL code))∧IntRow w' A2 c2 (posI (scanL code))∧Keyed (secL code) l∧IntRow w' A3 c3 l∧Below w.heap.size w w'
theorem sec_bd {code:List Int} (hb:Go.Proofs.YteefmjhemhlapaaGreat.Bytes code) (hE:ruleE code=0):(∀ k∈secL code,k≤100000)∧(secL code).length≤100000:=by
  obtain ⟨h1,h2,_⟩:=rule_scan hE
  have hl:=scanL_len hb
  have hcl:code.length≤4096:=by
    rcases scan_cases code with ⟨_,e,_⟩ | ⟨_,_,e,_⟩ | ⟨h,_⟩
    · rw [e] at h1;cases h1
    · rw [e] at h1;cases h1
    · have:=(sizeB_iff _).1 h;omega
  rw [h2]
  unfold secP
  constructor
  · intro k hk
    obtain ⟨p,hp,rfl⟩:=List.mem_map.1 hk
    have:=scan_below hb h1 p (List.mem_filter.1 hp).1
    omega
  · rw [List.length_map]
    have:=List.length_filter_le (fun p:Nat×InsV=>useB p.2) (scanL code)
    omega
set_option maxHeartbeats 1000000 in
theorem kread_yes (A:Option Addr) (cap n:Nat) (code:List Int) (hn:code.length=n) (hE:ruleE code=0) (w:World) (r:RowAt w A cap code):Calls Tryz.prog 88 #[.slice A n cap] w (KeptP w code):=by
  obtain ⟨hs,_,_⟩:=rule_scan hE
  obtain ⟨hk1,hk2⟩:=sec_bd r.2.2.1 hE
  have C1:=Lib.hid (fun w' (k:Below w.heap.size w w')=>Seconds_yes A cap n code hn hE w' (r.below k))
  have C2:=Lib.hid (fun w' (k:Below w.heap.size w w')=>Starts_any A cap n code hn w' (r.below k))
  have C3:=Lib.hid (fun w' (k:Below w.heap.size w w')=>Listing_any A cap n code hn w' (r.below k))
  unfold StartsP at C2
  unfold ListP at C3
  rw [hs] at C2 C3
  have X0:=Lib.hid (HasB.new w 154 nilC)
  have B0:=Lib.hid (bel_al (Below.refl w.heap.size w) (.cells nilC.toArray 154))
  unfold nilC at X0 B0
  unfold KeptP
  clear r hn hE hs
  have C5:=Lib.hid (fun b w' (h:SetAt w' b (secL code))=>Sorted_any b (secL code) w' h hk1 hk2)
  clear hk1 hk2
  generalize secL code=K at *
  generalize scanL code=L at *
  generalize hz:L.length=z at *
  clear hz
  generalize K.length=m at *
  go_enter Tryz.func88,Tryz.ntmps88
  go_wp2_with fail
  refine (C1.out _ B0.out).mono ?_;rintro e w1 ⟨g,rfl,_,hset,hb1⟩
  have X1:=Lib.hid (X0.out.below hb1)
  have B1:=Lib.hid (bel_then B0.out hb1)
  have S1:=Lib.hid hset
  clear hset hb1 X0 B0 C1
  go_wp2_with fail
  refine (C2.out _ B1.out).mono ?_;rintro e w2 ⟨A2,c2,rfl,i2,hb2⟩
  have X2:=Lib.hid (X1.out.below hb2)
  have B2:=Lib.hid (bel_then B1.out hb2)
  have S2:=Lib.hid (S1.out.below hb2)
  have I2:=Lib.hid i2
  clear i2 hb2 X1 B1 S1 C2
  go_wp2_with fail
  refine (C3.out _ B2.out).mono ?_;rintro e w3 ⟨A1,c1,rfl,i1,hb3⟩
  have X3:=Lib.hid (X2.out.below hb3)
  have B3:=Lib.hid (bel_then B2.out hb3)
  have S3:=Lib.hid (S2.out.below hb3)
  have I3:=Lib.hid (I2.out.below hb3)
  have I1:=Lib.hid i1
  clear i1 hb3 X2 B2 S2 I2 C3
  go_wp2_with fail
  refine (Keys_any _ _).mono ?_;rintro e w4 ⟨rfl,rfl⟩
  go_wp2_with fail
  refine (C5.out g w3 S3.out).mono ?_;rintro e w5 ⟨A3,c3,l,rfl,hl,i3,hb5⟩
  have X5:=X3.out.below hb5
  have B5:=Lib.hid (bel_then B3.out hb5)
  have I15:=Lib.hid (I1.out.below hb5)
  have I25:=Lib.hid (I3.out.below hb5)
  have I35:=Lib.hid i3
  have HL:=Lib.hid hl
  have p0:=X5.cell 0
  have p1:=X5.cell 1
  have p2:=X5.cell 2
  have f0:=X5.frozen 0
  have f1:=X5.frozen 1
  have f2:=X5.frozen 2
  have S:=Lib.hid (set3 X5 (.slice A1 z c1) (.slice A2 z c2) (.slice A3 m c3))
  have XX:=Lib.hid X5
  clear X5 hb5 i3 hl X3 B3 S3 I3 I1 C5
  simp only [List.getElem?_cons_zero,List.getElem?_cons_succ] at p0 p1 p2
  go_wp2
  have B6:=S.out.bel _ _ B5.out (Nat.le_refl _)
  obtain ⟨k0,k1,k2,hsz,hrest,_⟩:=S.out
  have J1:=I15.out.but XX.out (by intro n;simp) hsz hrest
  have J2:=I25.out.but XX.out (by intro n;simp) hsz hrest
  have J3:=I35.out.but XX.out (by intro n;simp) hsz hrest
  clear S hsz hrest
  generalize ((w5.setCell ⟨w.heap.size,0,none⟩ (.slice A1 z c1)).setCell ⟨w.heap.size,1,none⟩ (.slice A2 z c2)).setCell ⟨w.heap.size,2,none⟩ (.slice A3 m c3)=W2 at *
  exact bodyPost_ret (v:=.tuple #[.agg #[.slice A1 z c1,.slice A2 z c2,.slice A3 m c3],.int .i64 0]) (by simp [results,Tryz.results88,go_sem,k0,k1,k2]) rfl ⟨A1,c1,A2,c2,A3,c3,l,rfl,J1,J2,HL.out,J3,B6⟩
end Go.Proofs.YteefmjhemhlapaaGreat.Mm
namespace Go.Proofs.YteefmjhemhlapaaGreat.Mm
open Go.ChangeShapes Go.WideShapes Go.ChangeAt Go.RowKit
set_option linter.unusedVariables false
set_option maxRecDepth 10000
theorem list_any {code:List Int} (hb:Go.Proofs.YteefmjhemhlapaaGreat.Bytes code) (hE:ruleE code=0) {w:World} {A1 A2:Option Addr} {c1 c2:Nat} (v3:Value) (r1:InsRow w A1 c1 (insI (scanL code))) (r2:IntRow w A2 c2 (posI (scanL code))) :
    Calls Tryz.prog 92 #[.agg #[.slice A1 (scanL code).length c1,.slice A2 (scanL code).length c2,v3]] w fun e w'=>∃ A c,e=.returned (.slice A (goalL (scanL code)).length c)∧IntRow w' A c (goalL (scanL code))∧Below w.heap.size w w':=by
  obtain ⟨hs,_,_⟩:=rule_scan hE
  have hcl:code.length≤4096:=by
    rcases scan_cases code with ⟨_,e,_⟩ | ⟨_,_,e,_⟩ | ⟨h,_⟩
    · rw [e] at hs;cases hs
    · rw [e] at hs;cases hs
    · have:=(sizeB_iff _).1 h;omega
  exact goals_any A1 A2 c1 c2 v3 (scanL code) _ rfl (scanL_len hb) (fun k hk=>scan_oks hb hs hk) (fun k hk=>by have:=scan_place hb hs hk;omega) w r1 r2
def notB (S l:List Int) (x:Int):Bool:=!decide (x∈S) || decide (x∈l)
theorem mayNot_any (h:Nat) (v1:Value) (A2 A3:Option Addr) (z m c2 c3:Nat) (S l:List Int) (hz:S.length=z) (hm:l.length=m) (hz2:z≤100000) (hm2:m≤100000) (hS:S.Pairwise (·≤·)) (hl:l.Pairwise (·≤·)) (x:Int)
    (w:World) (X:HasB w h 154 [v1,.slice A2 z c2,.slice A3 m c3]) (r2:IntRow w A2 c2 S) (r3:IntRow w A3 c3 l) :
    Calls Tryz.prog 89 #[.int .i64 x,.pointer (some ⟨h,0,none⟩)] w fun e w'=>e=.returned (.bool (notB S l x))∧∃ q,w'=w.drewN q:=by
  have C1:=Lib.hid (among_any A2 c2 z S hz hz2 hS x w r2)
  have C2:=Lib.hid (fun q=>among_any A3 c3 m l hm hm2 hl x (w.drewN q) (r3.below (below_drewN (Below.refl _ w) q)))
  have p1:=X.cell 1
  have p2:=X.cell 2
  simp only [List.getElem?_cons_zero,List.getElem?_cons_succ] at p1 p2
  unfold notB
  clear X r2 r3 hS hl hz hm
  generalize decide (x∈l)=q2 at *
  cases hq:decide (x∈S)
  · rw [hq] at C1
    clear hq C2
    go_enter Tryz.func89,Tryz.ntmps89
    go_wp2_with fail
    refine C1.out.mono ?_;rintro e w1 ⟨rfl,q,rfl⟩
    go_wp2
    go_ret
    exact ⟨rfl,_,rfl⟩
  · rw [hq] at C1
    clear hq
    go_enter Tryz.func89,Tryz.ntmps89
    go_wp2_with fail
    refine C1.out.mono ?_;rintro e w1 ⟨rfl,q,rfl⟩
    go_wp2_with fail
    refine (C2.out _).mono ?_;rintro e w2 ⟨rfl,q',rfl⟩
    go_wp2
    go_ret
    exact ⟨by simp,_,rfl⟩
def NoneI (p:Int→Bool) (l:List Int) (k:Nat):Prop:=∀ j,j < k→p (l.getD j 0)=false
theorem none_step {p:Int→Bool} {l:List Int} {k:Nat} (h:NoneI p l k) (hk:p (l.getD k 0)=false):NoneI p l (k+1):=fun j hj=>by
  rcases Nat.lt_or_ge j k with hlt | hge
  · exact h j hlt
  · obtain rfl:j=k:=by omega
    exact hk
theorem none_end {p:Int→Bool} {l:List Int} (h:NoneI p l l.length):l.any p=false:=by
  rw [List.any_eq_false]
  intro x hx
  obtain ⟨j,hj,rfl⟩:=mem_getI.1 hx
  rw [h j hj];simp
theorem some_yes {p:Int→Bool} {l:List Int} {k:Nat} (hk:k < l.length) (h:p (l.getD k 0)=true):l.any p=true:=List.any_eq_true.2 ⟨_,mem_getI.2 ⟨k,hk,rfl⟩,h⟩
set_option maxHeartbeats 1000000 in
theorem index_any (h:Nat) (p:Int→Bool) (A:Option Addr) (c n:Nat) (l:List Int) (hn:l.length=n) (hb:n≤100000) (w:World) (r:IntRow w A c l)
    (hp:∀ (W:World) (x:Int),Below w.heap.size w W→Calls Tryz.prog 89 #[.int .i64 x,.pointer (some ⟨h,0,none⟩)] W fun e w'=>e=.returned (.bool (p x))∧∃ q,w'=W.drewN q) :
    Calls Tryz.prog 111 #[.slice A n c,.func (.func 89) #[] #[.pointer (some ⟨h,0,none⟩)]] w fun e w'=>∃ i:Int,e=.returned (.int .i64 i)∧decide (0≤i)=l.any p∧∃ q,w'=w.drewN q:=by
  have HP:=Lib.hid hp
  have HN:=Lib.hid hn
  have R:=Lib.hid r
  have HE:=Lib.hid (@none_end p l)
  have HY:=Lib.hid (fun k hk h=>@some_yes p l k hk h)
  clear hp hn r
  generalize l.any p=q at *
  go_enter Tryz.func111,Tryz.ntmps111
  go_wp2
  go_loopw [8] (fun i wr=>∃ (k:Nat),i=.int .i64 k∧k≤n∧Hid (NoneI p l k)∧Hid (∃ q,wr=w.drewN q)) (fun i _=>n - (intOf i).toNat)
  case atStart=>exact ⟨0,rfl,Nat.zero_le _,Lib.hid (fun j h=>by omega),Lib.hid ⟨0,rfl⟩⟩
  case round=>
    obtain ⟨k,rfl,hk,HI,HB⟩:=hrel
    by_cases hlt:k < n
    · have BB:Below w.heap.size w wr:=by obtain ⟨q,e⟩:=HB.out;rw [e];exact below_drewN (Below.refl _ w) q
      obtain ⟨x,rfl,hxb,hc⟩:=(R.out.below BB).2.2 (by intro e;have:=HN.out;rw [e] at this;simp at this;omega)
      have e1:=hc k (by rw [HN.out];exact hlt)
      have C:=Lib.hid (HP.out wr (l.getD k 0) BB)
      have HS:=Lib.hid (fun h=>@none_step p l k HI.out h)
      have HS2:=Lib.hid (fun h=>HY.out k (by rw [HN.out];exact hlt) h)
      clear hc BB HP
      generalize l.getD k 0=y at *
      cases hq:p y
      · rw [hq] at C
        go_wp2_with fail
        refine C.out.mono ?_;rintro e w1 ⟨rfl,q',rfl⟩
        have B2:Hid (∃ q,wr.drewN q'=w.drewN q):=Lib.hid (by obtain ⟨q,e⟩:=HB.out;exact ⟨q+q',by rw [e];exact World.drewN_drewN _ _ _⟩)
        go_wp2
        go_roundw
        case rel=>exact ⟨k+1,by go_num,by omega,Lib.hid (HS.out hq),B2⟩
        case measure=>simp [intOf];omega
      · rw [hq] at C
        have hy:=HS2.out hq
        subst hy
        go_wp2_with fail
        refine C.out.mono ?_;rintro e w1 ⟨rfl,q',rfl⟩
        have B2:Hid (∃ q,wr.drewN q'=w.drewN q):=Lib.hid (by obtain ⟨q,e⟩:=HB.out;exact ⟨q+q',by rw [e];exact World.drewN_drewN _ _ _⟩)
        go_wp2
        go_ret
        exact ⟨k,rfl,decide_eq_true (by omega),B2.out⟩
    · obtain rfl:k=n:=by omega
      have hy:=HE.out (by rw [HN.out];exact HI.out)
      subst hy
      go_wp2
      go_ret
      exact ⟨-1,rfl,by simp,HB.out⟩
theorem contains_any (h:Nat) (p:Int→Bool) (A:Option Addr) (c n:Nat) (l:List Int) (hn:l.length=n) (hb:n≤100000) (w:World) (r:IntRow w A c l)
    (hp:∀ (W:World) (x:Int),Below w.heap.size w W→Calls Tryz.prog 89 #[.int .i64 x,.pointer (some ⟨h,0,none⟩)] W fun e w'=>e=.returned (.bool (p x))∧∃ q,w'=W.drewN q) :
    Calls Tryz.prog 91 #[.slice A n c,.func (.func 89) #[] #[.pointer (some ⟨h,0,none⟩)]] w fun e w'=>e=.returned (.bool (l.any p))∧∃ q,w'=w.drewN q:=by
  have C:=Lib.hid (index_any h p A c n l hn hb w r hp)
  clear hp hn r
  generalize l.any p=q at *
  go_enter Tryz.func91,Tryz.ntmps91
  go_wp2_with fail
  refine C.out.mono ?_;rintro e w1 ⟨i,rfl,hi,q',rfl⟩
  subst hi
  go_wp2
  go_ret
  exact ⟨rfl,_,rfl⟩
theorem not_found {L:List (Nat×InsV)} {l:List Int} (hl:Keyed (secP L) l) (g:Int):notB (posI L) l g=!foundB L (secP L) g:=by
  have h1:(g∈posI L)↔∃ p∈L,(p.1:Int)=g:=by unfold posI;rw [List.mem_map]
  have h2:=hl.2.2 g
  have h3:foundB L (secP L) g=true↔(g∈posI L∧¬ g∈l):=by
    unfold foundB
    rw [List.any_eq_true,h1,h2]
    constructor
    · rintro ⟨p,hp,hh⟩
      have:(p.1:Int)=g∧¬ p.1∈secP L:=by simpa [hitB] using hh
      refine ⟨⟨p,hp,this.1⟩,?_⟩
      rintro ⟨k,hk,hkg⟩
      have:k=p.1:=by omega
      subst this
      exact (by assumption:_∧¬ _).2 hk
    · rintro ⟨⟨p,hp,hg⟩,hn⟩
      refine ⟨p,hp,?_⟩
      have:¬ p.1∈secP L:=fun hm=>hn ⟨_,hm,hg⟩
      simp [hitB,hg,this]
  unfold notB
  cases hf:foundB L (secP L) g
  · rw [hf] at h3
    by_cases ha:g∈posI L
    · have:g∈l:=Classical.byContradiction fun h=>absurd (h3.2 ⟨ha,h⟩) (by simp)
      simp [this]
    · simp [ha]
  · obtain ⟨ha,hb⟩:=h3.1 hf
    simp [ha,hb]
theorem may_any {L:List (Nat×InsV)} {l:List Int} (hl:Keyed (secP L) l):(goalL L).any (notB (posI L) l)=!mayB L:=by
  have:∀ M:List (Nat×InsV),(goalL M).any (notB (posI L) l)=!(M.all fun p=>!jmpB p.2 || foundB L (secP L) (goalV p)):=by
    intro M
    induction M with
    | nil=>rfl
    | cons p t ih=>
      unfold goalL at *
      rw [List.all_cons,Bool.not_and,← ih]
      cases hj:jmpB p.2
      · rw [List.filter_cons_of_neg (by simp [hj])];simp
      · rw [List.filter_cons_of_pos (by simp [hj]),List.map_cons,List.any_cons,not_found hl];simp
  exact this L
theorem pos_rise {L:List (Nat×InsV)} (h:(L.map Prod.fst).Pairwise (· < ·)):(posI L).Pairwise (·≤·):=by
  have e:posI L=(L.map Prod.fst).map fun k:Nat=>(k:Int):=by unfold posI;rw [List.map_map];rfl
  rw [e,List.pairwise_map]
  exact h.imp fun h=>by omega
theorem May_any (A:Option Addr) (cap n:Nat) (code:List Int) (hn:code.length=n) (w:World) (r:RowAt w A cap code):Calls Tryz.prog 78 #[.slice A n cap] w fun e w'=>e=.returned (.int .i64 (mayE code))∧Below w.heap.size w w':=by
  have hb:=r.2.2.1
  by_cases hE:ruleE code=0
  · obtain ⟨hs,hsl,_⟩:=rule_scan hE
    obtain ⟨hk1,hk2⟩:=sec_bd hb hE
    have C1:=Lib.hid (kread_yes A cap n code hn hE w r)
    unfold KeptP at C1
    have C2:=Lib.hid (fun A1 c1 A2 c2 v3 w' r1 r2=>@list_any code hb hE w' A1 A2 c1 c2 v3 r1 r2)
    have PR:=Lib.hid (pos_rise (scan_rise hb hs))
    have PL:=Lib.hid (posI_len (scanL code))
    have ZL:=scanL_len hb
    have GL:=goal_len (scanL code)
    have MA:=Lib.hid (fun l hl=>@may_any (scanL code) l (by rw [← hsl];exact hl))
    have hm:mayE code=if mayB (scanL code)=true then 0 else 6:=by unfold mayE;rw [if_neg (by omega)]
    rw [hm]
    clear r hn hE hb hm hs hsl hk1
    generalize goalL (scanL code)=G at *
    generalize secL code=K at *
    generalize scanL code=L at *
    generalize mayB L=b at *
    generalize posI L=S at *
    generalize hz:L.length=z at *
    clear hz
    generalize hmm:K.length=m at *
    have HM:=Lib.hid hmm
    clear hmm
    generalize hyy:G.length=y at *
    have HY:=Lib.hid hyy
    clear hyy
    go_enter Tryz.func78,Tryz.ntmps78
    go_wp2_with fail
    refine C1.out.mono ?_;rintro e w1 ⟨A1,c1,A2,c2,A3,c3,l,rfl,i1,i2,hl,i3,hb1⟩
    have X1:=HasB.new w1 154 [.slice A1 z c1,.slice A2 z c2,.slice A3 m c3]
    have B1:=Lib.hid (bel_al hb1 (.cells #[.slice A1 z c1,.slice A2 z c2,.slice A3 m c3] 154))
    have b1:=bel_al (Below.refl w1.heap.size w1) (.cells #[.slice A1 z c1,.slice A2 z c2,.slice A3 m c3] 154)
    have J2:=i2.below b1
    have J3:=i3.below b1
    have C3:=Lib.hid (C2.out A1 c1 A2 c2 (.slice A3 m c3) (w1.alloc (.cells #[.slice A1 z c1,.slice A2 z c2,.slice A3 m c3] 154)) (i1.below b1) J2)
    have M2:=Lib.hid (MA.out l hl)
    have D:=Lib.hid (fun (w2:World) (k:Below (w1.alloc (.cells #[.slice A1 z c1,.slice A2 z c2,.slice A3 m c3] 154)).heap.size (w1.alloc (.cells #[.slice A1 z c1,.slice A2 z c2,.slice A3 m c3] 154)) w2) (x:Int)=>
      mayNot_any w1.heap.size (.slice A1 z c1) A2 A3 z m c2 c3 S l PL.out (by have:=hl.1;rw [HM.out] at this;exact this) (by omega) hk2 PR.out hl.2.1 x w2 (X1.below k) (J2.below k) (J3.below k))
    clear C1 C2 i1 i2 i3 hl hb1 X1 b1 J2 J3 MA
    go_wp2_with fail
    refine C3.out.mono ?_;rintro e w2 ⟨A4,c4,rfl,i4,hb2⟩
    have B2:=Lib.hid (bel_then B1.out hb2)
    have E:=Lib.hid (contains_any w1.heap.size (notB S l) A4 c4 y G HY.out (by omega) w2 i4 (fun W x k=>D.out W (bel_then hb2 k) x))
    rw [M2.out] at E
    clear hb2 D C3 M2 i4
    cases b
    · go_wp2_with fail
      refine E.out.mono ?_;rintro e w3 ⟨rfl,q,rfl⟩
      go_wp2
      go_ret
      exact ⟨rfl,below_drewN B2.out _⟩
    · go_wp2_with fail
      refine E.out.mono ?_;rintro e w3 ⟨rfl,q,rfl⟩
      go_wp2
      go_ret
      exact ⟨rfl,below_drewN B2.out _⟩
  · have C1:=Lib.hid (kread_no A cap n code hn hE w r)
    rw [show mayE code=ruleE code by unfold mayE;rw [if_pos hE]]
    have hq:(ruleE code != 0)=true:=by rw [bne_iff_ne];exact hE
    clear r hn hE hb
    generalize ruleE code=q at *
    go_enter Tryz.func78,Tryz.ntmps78
    go_wp2_with fail
    refine C1.out.mono ?_;rintro e w1 ⟨rfl,hb1⟩
    have B1:=Lib.hid (bel_al hb1 (.cells #[.slice none 0 0,.slice none 0 0,.slice none 0 0] 154))
    clear hb1
    go_wp2
    go_ret
    exact ⟨rfl,B1.out⟩
end Go.Proofs.YteefmjhemhlapaaGreat.Mm
