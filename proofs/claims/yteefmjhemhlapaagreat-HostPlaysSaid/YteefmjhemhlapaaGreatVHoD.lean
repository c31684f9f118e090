/- HostPlays: the host and the document's own, side by side. -/
import Derived.Test.YteefmjhemhlapaaGreatVHoE
import Derived.Test.YteefmjhemhlapaaGreatVSlR
import Derived.Test.YteefmjhemhlapaaGreatVVeC
namespace Go.Proofs.YteefmjhemhlapaaGreat.Mm
open Go.ChangeShapes Go.WideShapes Go.ChangeAt Go.RowKit
set_option linter.unusedVariables false
set_option linter.unusedSimpArgs false
set_option maxRecDepth 10000
set_option maxHeartbeats 4000000

def dcC (I:List Bool) (R:List Rg) (n:Int):List Value:=I.map Value.bool ++ (R.flatMap rgC ++ [.int .i64 n])
section
variable {I:List Bool} {R:List Rg} {n:Int}
theorem dc_length (hi:I.length=16) (hr:R.length=16):(dcC I R n).length=49:=by
  unfold dcC
  rw [List.length_append,List.length_append,List.length_map,flatG_len,hi,hr];rfl
theorem dc_is (hi:I.length=16) (k:Nat) (hk:k < 16):(dcC I R n)[k]?=some (.bool (I.getD k false)):=by
  unfold dcC
  rw [List.getElem?_append_left (by rw [List.length_map];omega),List.getElem?_map]
  simp [List.getD,List.getElem?_eq_getElem (show k < I.length by omega)]
theorem dc_r (hi:I.length=16) (hr:R.length=16) (k j:Nat) (hk:k < 16) (hj:j < 2):(dcC I R n)[16+(k * 2+j)]?=(rgC (R.getD k (0,0)))[j]?:=by
  unfold dcC
  rw [List.getElem?_append_right (by rw [List.length_map];omega),List.length_map,hi,List.getElem?_append_left (by rw [flatG_len];omega)]
  rw [show 16+(k * 2+j) - 16=k * 2+j by omega]
  exact flatG_get R k (by omega) j hj
theorem dc_n (hi:I.length=16) (hr:R.length=16):(dcC I R n)[48]?=some (.int .i64 n):=by
  unfold dcC
  rw [List.getElem?_append_right (by rw [List.length_map];omega),List.length_map,hi,List.getElem?_append_right (by rw [flatG_len];omega),flatG_len,hr]
  rfl
theorem dc_one (v:Value) (hv:v∈dcC I R n):v.oneCell'=true:=by
  unfold dcC at hv
  rcases List.mem_append.1 hv with h | h
  · obtain ⟨b,_,rfl⟩:=List.mem_map.1 h;rfl
  · rcases List.mem_append.1 h with h | h
    · obtain ⟨r,_,h⟩:=List.mem_flatMap.1 h
      exact rgC_one r v h
    · simp at h;subst h;rfl
theorem dc_seti (hi:I.length=16) (k:Nat) (hk:k < 16) (b:Bool):(dcC I R n).set k (.bool b)=dcC (I.set k b) R n:=by
  unfold dcC
  rw [List.set_append_left _ _ (by rw [List.length_map];omega),List.map_set]
theorem flat_set (k:Nat) (r:Rg):∀ (R:List Rg),k < R.length→((R.flatMap rgC).set (k * 2) (.int .i64 r.1)).set (k * 2+1) (.int .i64 r.2)=(R.set k r).flatMap rgC:=by
  induction k with
  | zero=>
    intro R h
    cases R with
    | nil=>simp at h
    | cons x t=>rfl
  | succ k ih=>
    intro R h
    cases R with
    | nil=>simp at h
    | cons x t=>
      rw [List.set_cons_succ,List.flatMap_cons,List.flatMap_cons,← ih t (by simpa using h)]
      show ((rgC x ++ _).set _ _).set _ _=_
      rw [List.set_append_right _ _ (by show 2≤_;omega),List.set_append_right _ _ (by show 2≤_;omega)]
      rw [show (k+1) * 2 - (rgC x).length=k * 2 by show (k+1) * 2 - 2=_;omega,show (k+1) * 2+1 - (rgC x).length=k * 2+1 by show (k+1) * 2+1 - 2=_;omega]
theorem dc_setr (hi:I.length=16) (hr:R.length=16) (k:Nat) (hk:k < 16) (r:Rg):((dcC I R n).set (16+k * 2) (.int .i64 r.1)).set (16+k * 2+1) (.int .i64 r.2)=dcC I (R.set k r) n:=by
  unfold dcC
  rw [← flat_set k r R (by omega)]
  rw [List.set_append_right _ _ (by rw [List.length_map];omega),List.set_append_right _ _ (by rw [List.length_map];omega),List.length_map,hi]
  rw [show 16+k * 2 - 16=k * 2 by omega,show 16+k * 2+1 - 16=k * 2+1 by omega]
  rw [List.set_append_left _ _ (by rw [flatG_len];omega),List.set_append_left _ _ (by rw [List.length_set,flatG_len];omega)]
end
theorem rgr_info:(Tryz.prog.info? 32).map (fun i=>(i.zero,i.size,i.bytes))=some (some (.agg #[.int .i64 0,.int .i64 0]),2,16):=by kernel_rfl
theorem append_rgr {w:World} {ops:Array Oper} {rest:List Oper} {o:Oper} {a:Act} {Q:Exit→Act→World→Prop} (hgd:o.guard=none) (s x:Operand)
    (ho:o.op=.call { callee:=.builtin .append,args:=#[s,x],argTypes:=#[49,49] })
    (base:Nat) (v:Value) (n:Nat) (L:List Rg) (hs:a.eval s=v) (hown:w.ownsRow base 32 2 v n (L.flatMap rgC)) (hW:∀ x∈L,rgWf x)
    (g c:Nat) (y:Rg) (hx:a.eval x=.slice (some ⟨g,0,none⟩) 1 c) (hT:RgAt w ⟨g,0,none⟩ y) (hy:rgWf y) (n':Nat) (hn':n'=n+1) (hlen:n≤100000) (hbase:base≤w.heap.size)
    (h:∀ A' cap' w',w'.ownsRow base 32 2 (.slice A' n' cap') n' ((L ++ [y]).flatMap rgC)→RgRow w' A' cap' (L ++ [y])→Below base w w'→wpList Tryz.prog ops Q rest (a.put o.dst (.slice A' n' cap')) w') :
    wpList Tryz.prog ops Q (o :: rest) a w:=by
  subst hn'
  obtain ⟨u0,hu0,hz0,hz1,hz2⟩:=info_parts rgr_info
  refine wpList_append_own w hgd s x 49 ho base 32 u0 _ 2 16 Tryz.underlying49 hu0 hz0 hz1 hz2 rfl (by decide) v n (L.flatMap rgC) hs hown ⟨g,0,none⟩ 1 c (rgC y) hx rfl
    (cells2 hT rfl) (rgC_one y) (by unfold maxLen;omega) (by omega) hbase ?_
  intro v' w' hown' hg _
  have hown':w'.ownsRow base 32 2 v' (n+1) ((L ++ [y]).flatMap rgC):=by rw [flatG_app,flatG_one];exact hown'
  obtain ⟨A',cap',rfl,_,hrow⟩:=rg_of_own hown' (fun x hx=>by
    rcases List.mem_append.1 hx with k | k
    · exact hW x k
    · simp at k;subst k;exact hy)
  exact h A' cap' w' hown' hrow ((Below.refl base w).grown hg hbase (fun k hk=>(hown.lt k hk).1))
theorem own_belowP {A B:World} {base size n:Nat} {e:TypeId} {v:Value} {xs:List Value} (h:A.ownsRow base e size v n xs) (b:Below A.heap.size A B):B.ownsRow base e size v n xs:=by
  refine h.kept (row:=none) ⟨b.os,b.tape,b.output,b.size,fun k hk _=>b.block k hk⟩ ?_
  rcases h.2 with ⟨rfl,_⟩ | ⟨g,cap,cur,rfl,_,hgb,_⟩
  · exact .inl rfl
  · exact .inr (fun e'=>by cases e')
theorem dIn_len (I:List Bool) (R:List Rg) (q i:Nat):(dIn I R q i).length≤i:=by
  unfold dIn
  have:=List.length_filterMap_le (fun k=>if I.getD k false && decide ((R.getD k (0,0)).1=((128 * q:Nat):Int)) then some (R.getD k (0,0)) else none) (List.range i)
  simpa using this
theorem dUp_len (I:List Bool) (R:List Rg):∀ q,(dUp I R q).length≤16 * q
  | 0=>by simp [dUp]
  | q+1=>by
    rw [dUp_s,List.length_append]
    have:=dUp_len I R q
    have:=dIn_len I R q 16
    omega
structure DocW (I:List Bool) (R:List Rg):Prop where
  il:I.length=16
  rl:R.length=16
  wf:∀ k,k < 16→rgWf (R.getD k (0,0))
theorem DocW.mem {I:List Bool} {R:List Rg} (D:DocW I R) {q i:Nat} (hi:i≤16):∀ r∈dIn I R q i,rgWf r:=by
  intro r hr
  obtain ⟨k,hk,_,rfl,_⟩:=dIn_mem.1 hr
  exact D.wf k (by omega)
theorem DocW.memU {I:List Bool} {R:List Rg} (D:DocW I R) {q:Nat}:∀ r∈dUp I R q,rgWf r:=by
  intro r hr
  unfold dUp at hr
  obtain ⟨j,_,h⟩:=List.mem_flatMap.1 hr
  exact D.mem (Nat.le_refl _) r h
set_option maxHeartbeats 4000000 in
theorem rRegs_any {I:List Bool} {R:List Rg} (D:DocW I R) (z:Nat) (hz:z≤1024) (w:World) :
    Calls Tryz.prog 14 #[.agg (dcC I R ((64 * z:Nat):Int)).toArray] w fun e w'=>∃ A cap q,e=.returned (.slice A (dUp I R q).length cap)∧128 * q≥64 * z∧RgRow w' A cap (dUp I R q)∧Below w.heap.size w w':=by
  have X0:=HasB.new w 35 (dcC I R ((64 * z:Nat):Int))
  have B0:=bel_al (Below.refl w.heap.size w) (.cells (dcC I R ((64 * z:Nat):Int)).toArray 35)
  have CI:=Lib.hid (fun k (hk:k < 16)=>dc_is (R:=R) (n:=((64 * z:Nat):Int)) D.il k hk)
  have CR0:=Lib.hid (fun k (hk:k < 16)=>dc_r (n:=((64 * z:Nat):Int)) D.il D.rl k 0 hk (by decide))
  have CR1:=Lib.hid (fun k (hk:k < 16)=>dc_r (n:=((64 * z:Nat):Int)) D.il D.rl k 1 hk (by decide))
  have CN:=Lib.hid (dc_n (n:=((64 * z:Nat):Int)) D.il D.rl)
  have DW:=Lib.hid D
  generalize dcC I R ((64 * z:Nat):Int)=cs at *
  obtain ⟨W0,e0,S0⟩:∃ W0,w.alloc (.cells cs.toArray 35)=W0∧W0.heap.size=w.heap.size+1:=⟨_,rfl,by simp⟩
  rw [e0] at X0 B0
  have X:=Lib.hid X0
  have B:=Lib.hid B0
  have HS:=Lib.hid S0
  have zI:((64 * z:Nat):Int)≤65536:=by omega
  obtain ⟨nn,hnn⟩:∃ nn,nn=64 * z:=⟨_,rfl⟩
  rw [← hnn] at CN zI ⊢
  have HNN:=Lib.hid hnn
  clear hnn
  clear X0 B0 S0 D
  go_enter Tryz.func14,Tryz.ntmps14
  go_wp2_with fail
  go_loopw [3,4] (fun u v wr=>∃ (q m c:Nat) (A:Option Addr),v=.int .i64 ((128 * q:Nat):Int)∧u=.slice A m c∧128 * q≤nn+128∧Hid (m=(dUp I R q).length)∧Hid (wr.ownsRow (w.heap.size+1) 32 2 (.slice A m c) m ((dUp I R q).flatMap rgC))∧Hid (Below (w.heap.size+1) W0 wr)) (fun _ v _=>nn+128 - (intOf v).toNat)
  case atStart=>exact ⟨0,0,0,none,rfl,rfl,by omega,Lib.hid rfl,Lib.hid (World.ownsRow_nil _ _ _ _),Lib.hid (by rw [← HS.out];exact Below.refl _ _)⟩
  case round=>
    obtain ⟨q,m,c,A,rfl,rfl,hq,HM,HO,HB⟩:=hrel
    have XR:=X.out.same (HB.out.block w.heap.size (by omega))
    have cn:=XR.cell 48
    rw [CN.out] at cn
    have XH:=Lib.hid XR
    clear XR
    by_cases hqn:128 * q≤nn
    · have hqI:((128 * q:Nat):Int)≤(nn:Int):=by omega
      obtain ⟨bq,hbq⟩:∃ bq,bq=128 * q:=⟨_,rfl⟩
      rw [← hbq] at hqI hqn hq ⊢
      have HQ:=Lib.hid hbq
      clear hbq
      go_wp2_with fail
      generalize hww:wr=wa at *
      clear hww
      go_loopw [3,5] (fun u v wr=>∃ (i m c:Nat) (A:Option Addr),v=.int .i64 (i:Int)∧u=.slice A m c∧i≤16∧Hid (m=(dUp I R q ++ dIn I R q i).length)∧Hid (wr.ownsRow (w.heap.size+1) 32 2 (.slice A m c) m ((dUp I R q ++ dIn I R q i).flatMap rgC))∧Hid (Below (w.heap.size+1) W0 wr)) (fun _ v _=>16 - (intOf v).toNat)
      case atStart=>exact ⟨0,m,c,A,rfl,rfl,by omega,Lib.hid (by rw [HM.out];simp [dIn]),Lib.hid (by have:=HO.out;simpa [dIn] using this),HB⟩
      case round=>
        obtain ⟨i,m,c,A,rfl,rfl,hi,HM2,HO2,HB2⟩:=hrel
        clear HM HO
        by_cases hil:i < 16
        · have hiI:(i:Int) < 16:=by omega
          have XR:=X.out.same (HB2.out.block w.heap.size (by omega))
          have ci:=(XR.cell i).trans (CI.out i hil)
          have r0:wr.cell? ⟨w.heap.size,16+i * 2,none⟩=some (.int .i64 (R.getD i (0,0)).1):=(XR.cell (16+i * 2)).trans (CR0.out i hil)
          have r1:wr.cell? ⟨w.heap.size,16+i * 2+1,none⟩=some (.int .i64 (R.getD i (0,0)).2):=(XR.cell (16+i * 2+1)).trans (CR1.out i hil)
          have DS:=Lib.hid (dIn_s I R q i)
          have hwf:=DW.out.wf i hil
          have hml:m≤9000:=by
            have:=HM2.out
            rw [List.length_append] at this
            have:=dUp_len I R q
            have:=dIn_len I R q i
            have:=HQ.out
            omega
          have MEM:Hid (∀ x∈dUp I R q ++ dIn I R q i,rgWf x):=Lib.hid (fun x hx=>(List.mem_append.1 hx).elim (DW.out.memU x) (DW.out.mem hi x))
          have SZ:=Lib.hid HB2.out.size
          rw [← HQ.out] at DS
          clear XR
          generalize I.getD i false=bi at *
          generalize R.getD i (0,0)=r at *
          obtain ⟨ra,rb⟩:=r
          simp only at r0 r1
          have HWF:=Lib.hid hwf
          clear hwf
          by_cases hc:(bi && decide (ra=(bq:Int)))=true
          · have DN:Hid (dIn I R q (i+1)=dIn I R q i ++ [(ra,rb)]):=Lib.hid (by rw [DS.out,if_pos hc])
            simp only [Bool.and_eq_true,decide_eq_true_eq] at hc
            obtain ⟨rfl,hra⟩:=hc
            have hra':(ra == (bq:Int))=true:=by simpa using hra
            have HRA:=Lib.hid hra
            clear hra DS
            go_wp2_with (first
              | (at_builtin
                 refine append_rgr rfl (.tmp 29) (.tmp 34) rfl (w.heap.size+1) (.slice A m c) m (dUp I R q ++ dIn I R q i) rfl (own_belowP HO2.out ((Below.refl _ _).alloc (Nat.le_refl _) _)) MEM.out wr.heap.size 1 (ra,rb) rfl (rgAt_new wr (ra,rb) _) HWF.out (m+1) rfl (by omega) (by have:=HB2.out.size;have:=HS.out;simp;omega) ?_
                 intro A6 c6 w6 own6 row6 bel6
                 have O6:=Lib.hid own6
                 have B6:=Lib.hid ((HB2.out.alloc (by have:=HB2.out.size;have:=HS.out;omega) (.cells #[.int .i64 ra,.int .i64 rb] 32)).trans bel6)
                 clear own6 row6 bel6))
            go_roundw
            case rel=>exact ⟨i+1,m+1,c6,A6,by go_num,rfl,by omega,Lib.hid (by rw [DN.out,← List.append_assoc,List.length_append,← HM2.out];rfl),Lib.hid (by rw [DN.out,← List.append_assoc];exact O6.out),B6⟩
            case measure=>simp [intOf];omega
          · have DN:Hid (dIn I R q (i+1)=dIn I R q i):=Lib.hid (by rw [DS.out,if_neg hc,List.append_nil])
            have hc':bi=false∨(bi=true∧(ra == (bq:Int))=false):=by
              cases bi
              · exact .inl rfl
              · right
                refine ⟨rfl,?_⟩
                simp only [Bool.true_and,decide_eq_true_eq] at hc
                simpa using hc
            clear hc DS
            rcases hc' with rfl | ⟨rfl,hra⟩
            all_goals
              go_wp2_with fail
              go_roundw
              case rel=>exact ⟨i+1,m,c,A,by go_num,rfl,by omega,Lib.hid (by rw [DN.out];exact HM2.out),Lib.hid (by rw [DN.out];exact HO2.out),HB2⟩
              case measure=>simp [intOf];omega
        · obtain rfl:i=16:=by omega
          have DU:=Lib.hid (dUp_s I R q)
          have HQN:Hid ((bq:Int)+128=((128 * (q+1):Nat):Int)):=Lib.hid (by have:=HQ.out;omega)
          go_wp2_with fail
          go_roundw
          case rel=>exact ⟨q+1,m,c,A,by rw [HQN.out],rfl,by have:=HQ.out;omega,Lib.hid (by rw [DU.out];exact HM2.out),Lib.hid (by rw [DU.out];exact HO2.out),HB2⟩
          case measure=>simp [intOf];omega
    · have hqI:(nn:Int) < ((128 * q:Nat):Int):=by omega
      obtain ⟨bq,hbq⟩:∃ bq,bq=128 * q:=⟨_,rfl⟩
      rw [← hbq] at hqI hq ⊢
      have HQ:=Lib.hid hbq
      clear hbq hqn
      go_wp2_with fail
      go_ret
      obtain ⟨A',cap',e,_,row⟩:=rg_of_own HO.out (fun x hx=>DW.out.memU x hx)
      injection e with e1 e2 e3
      subst e1 e3
      exact ⟨A,c,q,by rw [← HM.out];rfl,by have:=HQ.out;have:=HNN.out;omega,row,Below.trans B.out ((HB.out).mono (by omega))⟩
theorem count_two {α:Type} (p q r:α→Bool) (h1:∀ x,p x=true→q x=false) (h2:∀ x,p x=true→r x=true) (h3:∀ x,q x=true→r x=true):∀ l:List α,l.countP p+l.countP q≤l.countP r
  | []=>by simp
  | x :: l=>by
    have ih:=count_two p q r h1 h2 h3 l
    rw [List.countP_cons,List.countP_cons,List.countP_cons]
    have a:=h1 x
    have b:=h2 x
    have c:=h3 x
    cases hp:p x <;> cases hq:q x <;> cases hr:r x <;> simp_all <;> omega
theorem filterMap_len {α β:Type} (c:α→Bool) (f:α→β):∀ l:List α,(l.filterMap (fun x=>if c x then some (f x) else none)).length=l.countP c
  | []=>rfl
  | x :: l=>by
    rw [List.filterMap_cons,List.countP_cons]
    cases hc:c x
    · simp [filterMap_len c f l]
    · simp [filterMap_len c f l]
theorem dUp_16 (I:List Bool) (R:List Rg) (q:Nat):(dUp I R q).length≤(List.range 16).countP (fun k=>I.getD k false && decide ((R.getD k (0,0)).1 < ((128 * q:Nat):Int))):=by
  induction q with
  | zero=>simp [dUp]
  | succ q ih=>
    rw [dUp_s,List.length_append]
    have e:(dIn I R q 16).length=(List.range 16).countP (fun k=>I.getD k false && decide ((R.getD k (0,0)).1=((128 * q:Nat):Int))):=by
      unfold dIn
      exact filterMap_len _ _ _
    rw [e]
    refine Nat.le_trans (Nat.add_le_add_right ih _) (count_two _ _ _ (fun k h=>?_) (fun k h=>?_) (fun k h=>?_) _)
    · simp only [Bool.and_eq_true,decide_eq_true_eq] at h
      simp only [Bool.and_eq_false_iff,decide_eq_false_iff_not]
      right;omega
    · simp only [Bool.and_eq_true,decide_eq_true_eq] at h ⊢
      exact ⟨h.1,by omega⟩
    · simp only [Bool.and_eq_true,decide_eq_true_eq] at h ⊢
      exact ⟨h.1,by omega⟩
theorem dUp_few (I:List Bool) (R:List Rg) (q:Nat):(dUp I R q).length≤16:=Nat.le_trans (dUp_16 I R q) (by have:=List.countP_le_length (p:=fun k=>I.getD k false && decide ((R.getD k (0,0)).1 < ((128 * q:Nat):Int))) (l:=List.range 16);simpa using this)
section
variable {z:Nat} {h:Ho} {E:Int} {code data:List Int} {size:Int}
theorem ld_1 (h1:E≠0):loadE z h E code data size=E:=by unfold loadE;rw [if_pos h1]
theorem ld_4 (h1:E=0) (hp:powS size=true) (hf:¬ ((code.length:Int)≤size / 2 - 32∧(data.length:Int)≤size / 2)):loadE z h E code data size=4:=by
  unfold loadE;rw [if_neg (by simp [h1]),if_neg (by rw [hp];decide),if_pos hf]
theorem ld_n (h1:E=0) (hp:powS size=true) (hf:(code.length:Int)≤size / 2 - 32∧(data.length:Int)≤size / 2) (hn:freeO h=none):loadE z h E code data size=7:=by
  unfold loadE;rw [if_neg (by simp [h1]),if_neg (by rw [hp];decide),if_neg (by simp [hf]),hn]
theorem ld_t (h1:E=0) (hp:powS size=true) (hf:(code.length:Int)≤size / 2 - 32∧(data.length:Int)≤size / 2) {k:Nat} (hn:freeO h=some k) (ht:takeV (regsU h) ((64 * z:Nat):Int) size < 0):loadE z h E code data size=7:=by
  unfold loadE;rw [if_neg (by simp [h1]),if_neg (by rw [hp];decide),if_neg (by simp [hf]),hn];simp only;rw [if_pos ht]
theorem ld_0 (h1:E=0) (hp:powS size=true) (hf:(code.length:Int)≤size / 2 - 32∧(data.length:Int)≤size / 2) {k:Nat} (hn:freeO h=some k) (ht:¬ takeV (regsU h) ((64 * z:Nat):Int) size < 0):loadE z h E code data size=0:=by
  unfold loadE;rw [if_neg (by simp [h1]),if_neg (by rw [hp];decide),if_neg (by simp [hf]),hn];simp only;rw [if_neg ht]
end
def RLoadP (w:World) (z:Nat) (h:Ho) (I:List Bool) (R:List Rg) (l:List Int) (size:Int) (e:Ending) (w':World):Prop:=
  Below w.heap.size w w'∧∃ (I2:List Bool) (R2:List Rg) (k:Nat),e=.returned (.tuple #[.agg (dcC I2 R2 ((64 * z:Nat):Int)).toArray,.int .i64 (k:Int),.int .i64 (loadE z h (imgE l) (codeI l) (dataL l) size)]) ∧
    ((loadE z h (imgE l) (codeI l) (dataL l) size≠0∧I2=I∧R2=R∧k=0)∨(loadE z h (imgE l) (codeI l) (dataL l) size=0∧freeO h=some k∧I2=I.set k true∧R2=R.set k (takeV (regsU h) ((64 * z:Nat):Int) size,size)))
set_option maxHeartbeats 16000000 in
theorem rLoad_any {z:Nat} {h:Ho} {I:List Bool} {R:List Rg} (DW:DocW I R) (D:DocH z h I R) (H:HoZ z h) (hz:z≤1024) (A:Option Addr) (cap n:Nat) (l:List Int) (hl:l.length=n) (hn:n≤4200) (size:Int) (hp:powS size=true) (w:World) (r:RowAt w A cap l) :
    Calls Tryz.prog 10 #[.agg (dcC I R ((64 * z:Nat):Int)).toArray,.slice A n cap,.int .i64 size] w (RLoadP w z h I R l size):=by
  obtain ⟨hb,hhb⟩:∃ hb,w.heap.size=hb:=⟨_,rfl⟩
  have RD0:=Lib.hid (fun w' (b:Below w.heap.size w w')=>(by
    have k:=r.below b
    by_cases he:errL l=0
    · exact (rRead_yes A cap l n hl (by omega) w' k he).mono fun _ _ h=>.inr ⟨he,h⟩
    · exact (rRead_no A cap l n hl (by omega) w' k he).mono fun _ _ h=>.inl ⟨he,h⟩:Calls Tryz.prog 27 #[.slice A n cap] w' fun e w2=>(errL l≠0∧RReadN w' (errL l) e w2)∨(errL l=0∧RReadY w' l e w2)))
  have RG:=Lib.hid (fun w'=>rRegs_any DW z hz w')
  have TK:=Lib.hid (fun A' c' q (hq:128 * q≥64 * z) w' (k:RgRow w' A' c' (dUp I R q))=>(by
    have:=rtake_any A' c' _ (dUp I R q) ((64 * z:Nat):Int) size rfl (by have:=dUp_few I R q;omega) (D.regs H hz hq).ri hp w' k
    rw [(D.regs H hz hq).take hp] at this
    exact this:Calls Tryz.prog 30 #[.slice A' (dUp I R q).length c',.int .i64 ((64 * z:Nat):Int),.int .i64 size] w' fun e w2=>e=.returned (.int .i64 (takeV (regsU h) ((64 * z:Nat):Int) size))∧Below w'.heap.size w' w2))
  have PW:=Lib.hid (fun w'=>rpow_any size w')
  have CI:=Lib.hid (fun k (hk:k < 16)=>dc_is (R:=R) (n:=((64 * z:Nat):Int)) DW.il k hk)
  have CN:=Lib.hid (dc_n (n:=((64 * z:Nat):Int)) DW.il DW.rl)
  have LC:=Lib.hid (And.intro (dc_length (n:=((64 * z:Nat):Int)) DW.il DW.rl) (fun v (hv:v∈dcC I R ((64 * z:Nat):Int))=>dc_one v hv))
  have SET:=Lib.hid (fun k (hk:k < 16) (r:Rg)=>(by
    rw [dc_seti DW.il k hk true,dc_setr (by rw [List.length_set];exact DW.il) DW.rl k hk r]:(((dcC I R ((64 * z:Nat):Int)).set k (.bool true)).set (16+k * 2) (.int .i64 r.1)).set (16+k * 2+1) (.int .i64 r.2)=dcC (I.set k true) (R.set k r) ((64 * z:Nat):Int)))
  have SAME:Hid (∀ w' x,Below w.heap.size w w'→x=loadE z h (imgE l) (codeI l) (dataL l) size→x≠0→RLoadP w z h I R l size (.returned (.tuple #[.agg (dcC I R ((64 * z:Nat):Int)).toArray,.int .i64 0,.int .i64 x])) w'):=Lib.hid (fun w' x b hx h0=>by
    subst hx
    exact ⟨b,I,R,0,rfl,.inl ⟨h0,rfl,rfl,rfl⟩⟩)
  have RES:Hid (∀ w' k,Below w.heap.size w w'→loadE z h (imgE l) (codeI l) (dataL l) size=0→freeO h=some k→RLoadP w z h I R l size (.returned (.tuple #[.agg (dcC (I.set k true) (R.set k (takeV (regsU h) ((64 * z:Nat):Int) size,size)) ((64 * z:Nat):Int)).toArray,.int .i64 (k:Int),.int .i64 0])) w'):=Lib.hid (fun w' k b h0 hf=>by
    refine ⟨b,_,_,k,?_,.inr ⟨h0,hf,rfl,rfl⟩⟩
    rw [h0])
  have FREE:=Lib.hid (fun k (hk:k < 16) h1 h2=>D.free H (k:=k) hk h1 h2)
  have FULL:=Lib.hid (fun h2=>D.full H h2)
  have L1:=Lib.hid (fun (h1:imgE l≠0)=>ld_1 (z:=z) (h:=h) (code:=codeI l) (data:=dataL l) (size:=size) h1)
  have IE:Hid ((errL l≠0→imgE l=errL l)∧(errL l=0→imgE l=verE (codeI l))):=Lib.hid ⟨fun h=>by unfold imgE;rw [if_pos h],fun h=>by unfold imgE;rw [if_neg (by simp [h])]⟩
  have L4:=Lib.hid (fun (h1:imgE l=0) hf=>ld_4 (z:=z) (h:=h) (code:=codeI l) (data:=dataL l) h1 hp hf)
  have LN:=Lib.hid (fun (h1:imgE l=0) hf hn=>ld_n (z:=z) (h:=h) (code:=codeI l) (data:=dataL l) h1 hp hf hn)
  have LT:=Lib.hid (fun (h1:imgE l=0) hf k hn ht=>ld_t (z:=z) (h:=h) (code:=codeI l) (data:=dataL l) (k:=k) h1 hp hf hn ht)
  have L0:=Lib.hid (fun (h1:imgE l=0) hf k hn ht=>ld_0 (z:=z) (h:=h) (code:=codeI l) (data:=dataL l) (k:=k) h1 hp hf hn ht)
  have X0:=HasB.new w 35 (dcC I R ((64 * z:Nat):Int))
  have B0:=bel_al (Below.refl w.heap.size w) (.cells (dcC I R ((64 * z:Nat):Int)).toArray 35)
  generalize ((64 * z:Nat):Int)=zn at *
  generalize dcC I R zn=cs at *
  obtain ⟨W0,e0,S0⟩:∃ W0,w.alloc (.cells cs.toArray 35)=W0∧W0.heap.size=hb+1:=⟨_,rfl,by simp [hhb]⟩
  rw [e0] at X0 B0
  obtain ⟨zs,hzs⟩:∃ zs:List Value,zs=(Value.bool false :: Value.bool false :: Value.bool false :: Value.bool false :: Value.bool false :: Value.bool false :: Value.bool false :: Value.bool false :: Value.bool false :: Value.bool false :: Value.bool false :: Value.bool false :: Value.bool false :: Value.bool false :: Value.bool false :: Value.bool false :: Value.int .i64 0 :: Value.int .i64 0 :: Value.int .i64 0 :: Value.int .i64 0 :: Value.int .i64 0 :: Value.int .i64 0 :: Value.int .i64 0 :: Value.int .i64 0 :: Value.int .i64 0 :: Value.int .i64 0 :: Value.int .i64 0 :: Value.int .i64 0 :: Value.int .i64 0 :: Value.int .i64 0 :: Value.int .i64 0 :: Value.int .i64 0 :: Value.int .i64 0 :: Value.int .i64 0 :: Value.int .i64 0 :: Value.int .i64 0 :: Value.int .i64 0 :: Value.int .i64 0 :: Value.int .i64 0 :: Value.int .i64 0 :: Value.int .i64 0 :: Value.int .i64 0 :: Value.int .i64 0 :: Value.int .i64 0 :: Value.int .i64 0 :: Value.int .i64 0 :: Value.int .i64 0 :: Value.int .i64 0 :: Value.int .i64 0 :: []:List Value):=⟨_,rfl⟩
  have LZ:Hid (zs.length=49):=Lib.hid (by rw [hzs];rfl)
  obtain ⟨W1,e1,Y1,b1⟩:∃ W1,W0.alloc (.cells (Value.bool false :: Value.bool false :: Value.bool false :: Value.bool false :: Value.bool false :: Value.bool false :: Value.bool false :: Value.bool false :: Value.bool false :: Value.bool false :: Value.bool false :: Value.bool false :: Value.bool false :: Value.bool false :: Value.bool false :: Value.bool false :: Value.int .i64 0 :: Value.int .i64 0 :: Value.int .i64 0 :: Value.int .i64 0 :: Value.int .i64 0 :: Value.int .i64 0 :: Value.int .i64 0 :: Value.int .i64 0 :: Value.int .i64 0 :: Value.int .i64 0 :: Value.int .i64 0 :: Value.int .i64 0 :: Value.int .i64 0 :: Value.int .i64 0 :: Value.int .i64 0 :: Value.int .i64 0 :: Value.int .i64 0 :: Value.int .i64 0 :: Value.int .i64 0 :: Value.int .i64 0 :: Value.int .i64 0 :: Value.int .i64 0 :: Value.int .i64 0 :: Value.int .i64 0 :: Value.int .i64 0 :: Value.int .i64 0 :: Value.int .i64 0 :: Value.int .i64 0 :: Value.int .i64 0 :: Value.int .i64 0 :: Value.int .i64 0 :: Value.int .i64 0 :: Value.int .i64 0 :: []:List Value).toArray 35)=W1∧HasB W1 (hb+1) 35 zs∧Below W0.heap.size W0 W1:=
    ⟨_,rfl,by rw [hzs,← S0];exact HasB.new W0 35 (Value.bool false :: Value.bool false :: Value.bool false :: Value.bool false :: Value.bool false :: Value.bool false :: Value.bool false :: Value.bool false :: Value.bool false :: Value.bool false :: Value.bool false :: Value.bool false :: Value.bool false :: Value.bool false :: Value.bool false :: Value.bool false :: Value.int .i64 0 :: Value.int .i64 0 :: Value.int .i64 0 :: Value.int .i64 0 :: Value.int .i64 0 :: Value.int .i64 0 :: Value.int .i64 0 :: Value.int .i64 0 :: Value.int .i64 0 :: Value.int .i64 0 :: Value.int .i64 0 :: Value.int .i64 0 :: Value.int .i64 0 :: Value.int .i64 0 :: Value.int .i64 0 :: Value.int .i64 0 :: Value.int .i64 0 :: Value.int .i64 0 :: Value.int .i64 0 :: Value.int .i64 0 :: Value.int .i64 0 :: Value.int .i64 0 :: Value.int .i64 0 :: Value.int .i64 0 :: Value.int .i64 0 :: Value.int .i64 0 :: Value.int .i64 0 :: Value.int .i64 0 :: Value.int .i64 0 :: Value.int .i64 0 :: Value.int .i64 0 :: Value.int .i64 0 :: Value.int .i64 0 :: []:List Value),bel_al (Below.refl _ _) _⟩
  have X:=Lib.hid (by have:=X0.below b1;rw [hhb] at this;exact this)
  have Y:=Lib.hid Y1
  have B:=Lib.hid (bel_then B0 b1)
  have HBW:Hid (w.heap.size≤hb+1∧w.heap.size≤hb):=Lib.hid (by omega)
  have HH:=Lib.hid hhb
  clear X0 Y1 B0 b1 hzs r hl hn D H DW
  go_enter Tryz.func10,Tryz.ntmps10
  go_wp2_with fail
  refine (RD0.out W1 B.out).mono ?_;rintro e w2 (⟨he,rfl,b2⟩ | ⟨he,A5,c5,A6,c6,rfl,r5,r6,b2⟩)
  · have XE:=Lib.hid (X.out.below b2)
    have RE:=Lib.hid (Y.out.below b2)
    have BE:=Lib.hid (bel_then B.out b2)
    have q0:(errL l == 0)=false:=by simpa using he
    have q1:(errL l != 0)=true:=by simpa using he
    have LE:Hid (errL l=loadE z h (imgE l) (codeI l) (dataL l) size∧errL l≠0):=Lib.hid ⟨by rw [L1.out (by rw [IE.out.1 he];exact he),IE.out.1 he],he⟩
    clear b2 he
    generalize errL l=ee at *
    go_wp2_with (first
      | (refine ld_any rfl 35 (.tmp 3) rfl hb (by rfl) cs XE.out rfl Tryz.underlying35 (by rw [LC.out.1];kernel_rfl) ?_)
      | (refine st_any rfl 35 (.tmp 6) (.tmp 26) rfl rfl (hb+1) zs cs (by rfl) (by rfl) RE.out (by rw [LC.out.1,LZ.out]) (by rw [LC.out.1];kernel_rfl) LC.out.2 ?_;intro W7 r7 c7;have BF:=Lib.hid (Below.trans BE.out (Below.ofNew c7 BE.out.size HBW.out.1))))
    (try simp only [Act.put,lsA,lsZ,lsS])
    have V:=loadvar_has r7 rfl Tryz.underlying35 (by rw [LC.out.1];kernel_rfl)
    refine bodyPost_ret (v:=.tuple #[.agg cs.toArray,.int .i64 0,.int .i64 ee]) (by simp [results,Tryz.results10,asaddr_run,V]) rfl ?_
    exact SAME.out _ _ BF.out LE.out.1 LE.out.2
  · have XE:=Lib.hid (X.out.below b2)
    have RE:=Lib.hid (Y.out.below b2)
    have BE:=Lib.hid (bel_then B.out b2)
    have CC:=Lib.hid (rCode_any A5 c5 _ (codeI l) rfl w2 r5)
    have R6:=Lib.hid r6
    have IEV:=Lib.hid (IE.out.2 he)
    obtain ⟨cn,hcn⟩:∃ cn,cn=(codeI l).length:=⟨_,rfl⟩
    obtain ⟨dn,hdn⟩:∃ dn,dn=(dataL l).length:=⟨_,rfl⟩
    have hcb:cn≤9223372036854775807:=by have:=r5.1;have:=r5.2.1;unfold maxLen at *;omega
    have hdb:dn≤9223372036854775807:=by have:=r6.1;have:=r6.2.1;unfold maxLen at *;omega
    rw [← hcn] at CC ⊢
    rw [← hdn]
    have HCN:=Lib.hid (And.intro hcn hdn)
    clear b2 he r5 r6 hcn hdn IE
    go_wp2_with fail
    refine CC.out.mono ?_;rintro e w3 ⟨rfl,b3⟩
    replace XE:=Lib.hid (XE.out.below b3)
    replace RE:=Lib.hid (RE.out.below b3)
    replace BE:=Lib.hid (bel_then BE.out b3)
    clear b3 CC
    by_cases hv:verE (codeI l)=0
    · rw [hv]
      have HI:Hid (imgE l=0):=Lib.hid (by rw [IEV.out,hv])
      clear hv IEV
      go_wp2_with fail
      refine (PW.out _).mono ?_;rintro e w4 ⟨rfl,rfl⟩
      rw [hp]
      have hsz:=powS_pos hp
      have hsz2:size.tdiv 2=size / 2:=Int.tdiv_eq_ediv_of_nonneg (by omega)
      obtain ⟨s2,hs2⟩:∃ s2,s2=size / 2:=⟨_,rfl⟩
      have hs2b:64≤s2∧s2≤8192:=by omega
      rw [← hs2] at hsz2
      have hsz3:size / 2=s2:=hs2.symm
      have HS2:=Lib.hid hs2
      clear hs2
      by_cases hf:(cn:Int)≤s2 - 32∧(dn:Int)≤s2
      · have HF:Hid (((codeI l).length:Int)≤size / 2 - 32∧((dataL l).length:Int)≤size / 2):=Lib.hid (by have:=HCN.out;rw [← HS2.out,← this.1,← this.2];exact hf)
        have g1:decide (s2 - 32 < (cn:Int))=false:=decide_eq_false (by omega)
        have g2:decide (s2 < (dn:Int))=false:=decide_eq_false (by omega)
        clear hf
        go_wp2_with fail
        clear g1 g2
        obtain ⟨tk,htk⟩:∃ tk,takeV (regsU h) zn size=tk:=⟨_,rfl⟩
        rw [htk] at TK
        have HTK:=Lib.hid htk
        clear htk hsz2 hsz3 hs2b HS2
        go_loop [12] (fun v=>∃ (k:Nat),v=.int .i64 (k:Int)∧k≤16∧Hid (∀ j,j < k→I.getD j false=true)) (fun v=>16 - (intOf v).toNat)
        case atStart=>exact ⟨0,rfl,by omega,Lib.hid (fun j hj=>by omega)⟩
        case round=>
          obtain ⟨k,rfl,hk,HA⟩:=hrel
          by_cases hk16:k < 16
          · have hkI:(k:Int) < 16:=by omega
            have ci:=(XE.out.cell k).trans (CI.out k hk16)
            cases hI:I.getD k false
            · have HFR:Hid (freeO h=some k):=Lib.hid (FREE.out k hk16 hI HA.out)
              rw [hI] at ci
              have XD:=Lib.hid (XE.out.below (Below.refl _ _).drew)
              have RD:=Lib.hid (RE.out.below (Below.refl _ _).drew)
              have BD:=Lib.hid (bel_then BE.out (Below.refl _ _).drew)
              have D14:Hid (w3.drew.cell? ⟨hb,48,none⟩=some (.int .i64 zn)∧HasB w3.drew hb 35 cs):=Lib.hid ⟨(XD.out.cell 48).trans CN.out,XD.out⟩
              clear XE RE BE hI
              go_upto_region 14 with fail
              clear ci
              refine wp_region_noPanic ?_
              refine wp_region_held_drew (S:=(fun w'=>w'.cell? ⟨hb,48,none⟩=some (.int .i64 zn)∧HasB w' hb 35 cs)) (by kernel_rfl) ?_ (fun hHeld=>?_)
              · (try dsimp only)
                exact D14.out
              refine wpAnyH_take (i:=0) (oi:={ dst:=some 54,op:=Op.load 35 (Operand.tmp 3),type:=35,pos:= "ref.go:49",after:=#[],guard:=none }) (v:=?_) rfl (by kernel_rfl) (by kernel_rfl) (by kernel_rfl) (fun _ _ _ h=>h) (Or.inl ⟨by rfl,?_⟩) (by assumption) ?_
              rotate_left
              · intro wz hSw;refine exec_load_has 35 (.tmp 3) ?_ (hb) ?_ hSw.2 ?_ Tryz.underlying35 ?_ <;> first | rfl | (rw [LC.out.1];kernel_rfl) | kernel_rfl
              (try simp only [Act.put,lsA,lsZ,lsS])
              refine wT 2 ?_
              refine wT 3 ?_
              refine wT 4 ?_
              refine wpAnyH_ready (rs:=[1]) (by kernel_rfl) (by simp) ?_
              refine rC (fun K hK=>?_) ?_
              · go_simp
                (with_reducible refine (RG.out _).mono ?_)
                rintro e w5 ⟨A5,c5,q5,rfl,hq5,r5,b5⟩
                have E14:Hid (w5.cell? ⟨hb,48,none⟩=some (.int .i64 zn)∧HasB w5 hb 35 cs):=Lib.hid ⟨((XD.out.below b5).cell 48).trans CN.out,XD.out.below b5⟩
                have HQ5:=Lib.hid hq5
                have R5:=Lib.hid r5
                have B5:=Lib.hid b5
                clear hq5 r5 b5
                refine hK.out _ _ ?_ (fun hHeld=>?_)
                · (try dsimp only)
                  exact E14.out
                clear hK K
                (try simp only [Act.put,lsA,lsZ,lsS])
                refine wpAnyH_ready (rs:=[5]) (by kernel_rfl) (by simp) ?_
                refine rC (fun K hK=>?_) ?_
                · go_simp
                  have TK0:=TK.out A5 c5 q5 HQ5.out w5 R5.out
                  (with_reducible refine TK0.mono ?_)
                  rintro e w6 ⟨rfl,b6⟩
                  have B6:=Lib.hid (bel_then B5.out b6)
                  have F14:Hid (w6.cell? ⟨hb,48,none⟩=some (.int .i64 zn)∧HasB w6 hb 35 cs):=Lib.hid ⟨(E14.out.2.below b6).cell 48 |>.trans CN.out,E14.out.2.below b6⟩
                  clear b6 TK0
                  refine hK.out _ _ ?_ (fun hHeld=>?_)
                  · (try dsimp only)
                    exact F14.out
                  clear hK K
                  (try simp only [Act.put,lsA,lsZ,lsS])
                  refine wT 6 ?_
                  refine wpAnyH_done (by kernel_rfl) ?_ _
                  refine NoPanic.normal ?_
                  clear hHeld
                  have XE:=Lib.hid (XD.out.below B6.out)
                  have RE:=Lib.hid (RD.out.below B6.out)
                  have BE:=Lib.hid (bel_then BD.out B6.out)
                  clear XD RD BD B5 B6 R5 E14 F14 D14 HQ5
                  by_cases hneg:tk < 0
                  · have hn0:decide (tk < 0)=true:=decide_eq_true hneg
                    have L7:=Lib.hid (LT.out HI.out HF.out k HFR.out (by rw [HTK.out];exact hneg))
                    clear hneg
                    go_wp2_with (first
                      | (refine ld_any rfl 35 (.tmp 3) rfl hb (by rfl) cs XE.out rfl Tryz.underlying35 (by rw [LC.out.1];kernel_rfl) ?_)
                      | (refine st_any rfl 35 (.tmp 6) (.tmp 62) rfl rfl (hb+1) zs cs (by rfl) (by rfl) RE.out (by rw [LC.out.1,LZ.out]) (by rw [LC.out.1];kernel_rfl) LC.out.2 ?_;intro W7 r7 c7;have BF:=Lib.hid (Below.trans BE.out (Below.ofNew c7 BE.out.size HBW.out.1))))
                    (try simp only [Act.put,lsA,lsZ,lsS])
                    have V:=loadvar_has r7 rfl Tryz.underlying35 (by rw [LC.out.1];kernel_rfl)
                    refine bodyPost_ret (v:=.tuple #[.agg cs.toArray,.int .i64 0,.int .i64 7]) (by simp [results,Tryz.results10,asaddr_run,V]) rfl ?_
                    exact SAME.out _ _ BF.out L7.out.symm (by decide)
                  · have hn0:decide (tk < 0)=false:=decide_eq_false hneg
                    have L8:=Lib.hid (L0.out HI.out HF.out k HFR.out (by rw [HTK.out];omega))
                    have SE:=Lib.hid (SET.out k hk16 (tk,size))
                    have RS:=Lib.hid (fun w' (b:Below w.heap.size w w')=>RES.out w' k b L8.out HFR.out)
                    rw [HTK.out] at RS
                    obtain ⟨cs2,hcs2⟩:∃ cs2,dcC (I.set k true) (R.set k (tk,size)) zn=cs2:=⟨_,rfl⟩
                    have LC2:Hid (cs2.length=49∧∀ v∈cs2,v.oneCell'=true):=Lib.hid ⟨by rw [← hcs2,← SE.out,List.length_set,List.length_set,List.length_set,LC.out.1],fun v hv=>by rw [← hcs2] at hv;exact dc_one v hv⟩
                    rw [hcs2] at SE RS
                    clear hcs2
                    obtain ⟨W8,e8,X8,b8⟩:∃ W8,((w6.setCell ⟨hb,k,none⟩ (.bool true)).setCell ⟨hb,16+k * 2,none⟩ (.int .i64 tk)).setCell ⟨hb,16+k * 2+1,none⟩ (.int .i64 size)=W8∧HasB W8 hb 35 cs2∧Chg hb hb w6 W8:=
                      ⟨_,rfl,by rw [← SE.out];exact has_set (has_set (has_set XE.out k _) (16+k * 2) _) (16+k * 2+1) _,chg_set (chg_set (chg_set (Chg.refl _ _ _) _ (.inl rfl) _ _) _ (.inl rfl) _ _) _ (.inl rfl) _ _⟩
                    have RE8:=Lib.hid (RE.out.chg b8 (by omega) (by omega))
                    have BE8:=Lib.hid (Below.trans BE.out (Below.ofNew b8 BE.out.size HBW.out.2))
                    have XE8:=Lib.hid X8
                    have s0:=(XE.out.cell k).trans (CI.out k hk16)
                    have s1:w6.cell? ⟨hb,16+k * 2,none⟩=some (cs.getD (16+k * 2) undef):=(XE.out.cell (16+k * 2)).trans (by rw [List.getD,List.getElem?_eq_getElem (by rw [LC.out.1];omega)];rfl)
                    have s2:w6.cell? ⟨hb,16+k * 2+1,none⟩=some (cs.getD (16+k * 2+1) undef):=(XE.out.cell (16+k * 2+1)).trans (by rw [List.getD,List.getElem?_eq_getElem (by rw [LC.out.1];omega)];rfl)
                    have t0:=XE.out.frozen k
                    have t1:=XE.out.frozen (16+k * 2)
                    have t2:=XE.out.frozen (16+k * 2+1)
                    clear X8 b8 hneg L8 SE
                    go_wp2_with (first
                      | (refine ld_any rfl 35 (.tmp 3) rfl hb (by rfl) cs2 XE8.out rfl Tryz.underlying35 (by rw [LC2.out.1];kernel_rfl) ?_)
                      | (refine st_any rfl 35 (.tmp 6) (.tmp 72) rfl rfl (hb+1) zs cs2 (by rfl) (by rfl) RE8.out (by rw [LC2.out.1,LZ.out]) (by rw [LC2.out.1];kernel_rfl) LC2.out.2 ?_;intro W7 r7 c7;have BF:=Lib.hid (Below.trans BE8.out (Below.ofNew c7 BE8.out.size HBW.out.1))))
                    (try simp only [Act.put,lsA,lsZ,lsS])
                    have V:=loadvar_has r7 rfl Tryz.underlying35 (by rw [LC2.out.1];kernel_rfl)
                    refine bodyPost_ret (v:=.tuple #[.agg cs2.toArray,.int .i64 (k:Int),.int .i64 0]) (by simp [results,Tryz.results10,asaddr_run,V]) rfl ?_
                    exact RS.out _ BF.out
                exact AllReadyH.nil
              exact AllReadyH.nil
            · have HA2:Hid (∀ j,j < k+1→I.getD j false=true):=Lib.hid (fun j hj=>by
                rcases Nat.lt_or_ge j k with h | h
                · exact HA.out j h
                · obtain rfl:j=k:=by omega
                  exact hI)
              rw [hI] at ci
              clear hI
              go_wp2_with fail
              go_round
              case rel=>exact ⟨k+1,by go_num,by omega,HA2⟩
              case measure=>simp [intOf];omega
          · obtain rfl:k=16:=by omega
            have L7:=Lib.hid (LN.out HI.out HF.out (FULL.out HA.out))
            go_wp2_with (first
              | (refine ld_any rfl 35 (.tmp 3) rfl hb (by rfl) cs XE.out rfl Tryz.underlying35 (by rw [LC.out.1];kernel_rfl) ?_)
              | (refine st_any rfl 35 (.tmp 6) (.tmp 74) rfl rfl (hb+1) zs cs (by rfl) (by rfl) RE.out (by rw [LC.out.1,LZ.out]) (by rw [LC.out.1];kernel_rfl) LC.out.2 ?_;intro W7 r7 c7;have BF:=Lib.hid (Below.trans BE.out (Below.ofNew c7 BE.out.size HBW.out.1))))
            (try simp only [Act.put,lsA,lsZ,lsS])
            have V:=loadvar_has r7 rfl Tryz.underlying35 (by rw [LC.out.1];kernel_rfl)
            refine bodyPost_ret (v:=.tuple #[.agg cs.toArray,.int .i64 0,.int .i64 7]) (by simp [results,Tryz.results10,asaddr_run,V]) rfl ?_
            exact SAME.out _ _ BF.out L7.out.symm (by decide)
      · have HF:Hid (¬ (((codeI l).length:Int)≤size / 2 - 32∧((dataL l).length:Int)≤size / 2)):=Lib.hid (by have:=HCN.out;rw [← HS2.out,← this.1,← this.2];exact hf)
        have L7:=Lib.hid (L4.out HI.out HF.out)
        have hff:decide (s2 - 32 < (cn:Int))=true∨(decide (s2 - 32 < (cn:Int))=false∧decide (s2 < (dn:Int))=true):=by
          by_cases h1:s2 - 32 < (cn:Int)
          · exact .inl (decide_eq_true h1)
          · exact .inr ⟨decide_eq_false h1,decide_eq_true (by omega)⟩
        clear hf HF
        rcases hff with g1 | ⟨g1,g2⟩
        all_goals
          go_wp2_with (first
            | (refine ld_any rfl 35 (.tmp 3) rfl hb (by rfl) cs XE.out rfl Tryz.underlying35 (by rw [LC.out.1];kernel_rfl) ?_)
            | (refine st_any rfl 35 (.tmp 6) (.tmp 45) rfl rfl (hb+1) zs cs (by rfl) (by rfl) RE.out (by rw [LC.out.1,LZ.out]) (by rw [LC.out.1];kernel_rfl) LC.out.2 ?_;intro W7 r7 c7;have BF:=Lib.hid (Below.trans BE.out (Below.ofNew c7 BE.out.size HBW.out.1))))
          (try simp only [Act.put,lsA,lsZ,lsS])
          have V:=loadvar_has r7 rfl Tryz.underlying35 (by rw [LC.out.1];kernel_rfl)
          refine bodyPost_ret (v:=.tuple #[.agg cs.toArray,.int .i64 0,.int .i64 4]) (by simp [results,Tryz.results10,asaddr_run,V]) rfl ?_
          exact SAME.out _ _ BF.out L7.out.symm (by decide)
    · have q1:(verE (codeI l) != 0)=true:=by simpa using hv
      have LE:Hid (verE (codeI l)=loadE z h (imgE l) (codeI l) (dataL l) size∧verE (codeI l)≠0):=Lib.hid ⟨by rw [L1.out (by rw [IEV.out];exact hv),IEV.out],hv⟩
      clear hv IEV
      generalize verE (codeI l)=ee at *
      go_wp2_with (first
        | (refine ld_any rfl 35 (.tmp 3) rfl hb (by rfl) cs XE.out rfl Tryz.underlying35 (by rw [LC.out.1];kernel_rfl) ?_)
        | (refine st_any rfl 35 (.tmp 6) (.tmp 26) rfl rfl (hb+1) zs cs (by rfl) (by rfl) RE.out (by rw [LC.out.1,LZ.out]) (by rw [LC.out.1];kernel_rfl) LC.out.2 ?_;intro W7 r7 c7;have BF:=Lib.hid (Below.trans BE.out (Below.ofNew c7 BE.out.size HBW.out.1))))
      (try simp only [Act.put,lsA,lsZ,lsS])
      have V:=loadvar_has r7 rfl Tryz.underlying35 (by rw [LC.out.1];kernel_rfl)
      refine bodyPost_ret (v:=.tuple #[.agg cs.toArray,.int .i64 0,.int .i64 ee]) (by simp [results,Tryz.results10,asaddr_run,V]) rfl ?_
      exact SAME.out _ _ BF.out LE.out.1 LE.out.2
def DocStep (z:Nat) (h:Ho) (I:List Bool) (R:List Rg) (l:List Int) (size:Int) (k:Nat) (I2:List Bool) (R2:List Rg):Prop:=
  (loadE z h (imgE l) (codeI l) (dataL l) size≠0∧I2=I∧R2=R∧k=0)∨(loadE z h (imgE l) (codeI l) (dataL l) size=0∧freeO h=some k∧I2=I.set k true∧R2=R.set k (takeV (regsU h) ((64 * z:Nat):Int) size,size))
theorem DocStep.one {z:Nat} {h:Ho} {I:List Bool} {R:List Rg} {l:List Int} {size:Int} {k k':Nat} {I2 I3:List Bool} {R2 R3:List Rg} (a:DocStep z h I R l size k I2 R2) (b:DocStep z h I R l size k' I3 R3):k=k'∧I2=I3∧R2=R3:=by
  rcases a with ⟨a0,a1,a2,a3⟩ | ⟨a0,a1,a2,a3⟩ <;> rcases b with ⟨b0,b1,b2,b3⟩ | ⟨b0,b1,b2,b3⟩
  · exact ⟨a3.trans b3.symm,a1.trans b1.symm,a2.trans b2.symm⟩
  · exact absurd b0 a0
  · exact absurd a0 b0
  · rw [a1] at b1
    injection b1 with b1
    subst b1
    exact ⟨rfl,a2.trans b2.symm,a3.trans b3.symm⟩
structure PlS (W:World) (hb xb z n0:Nat) (h:Ho) (F:Nat→Prop) (cs:List Value) (I:List Bool) (R:List Rg) (w:World):Prop where
  ah:HAt w hb h F
  hi:HoI z n0 h
  fl:∀ i,F i→W.heap.size≤i
  xh:HasB w xb 35 cs
  fx:¬ F xb
  lx:W.heap.size≤xb
  dw:DocW I R
  dh:DocH z h I R
  bel:Below W.heap.size W w
def zC:List Value:=dcC (List.replicate 16 false) (List.replicate 16 (0,0)) 0
theorem zC_len:zC.length=49:=rfl
section
variable {W w w':World} {hb xb z n0:Nat} {h:Ho} {F:Nat→Prop} {cs:List Value} {I:List Bool} {R:List Rg}
theorem PlS.below (S:PlS W hb xb z n0 h F cs I R w) (b:Below w.heap.size w w'):PlS W hb xb z n0 h F cs I R w':=
  ⟨S.ah.below b,S.hi,S.fl,S.xh.below b,S.fx,S.lx,S.dw,S.dh,bel_then S.bel b⟩
theorem PlS.mono (S:PlS W hb xb z n0 h F cs I R w) {n1:Nat} (hn:n0≤n1):PlS W hb xb z n1 h F cs I R w:=⟨S.ah,S.hi.mono hn,S.fl,S.xh,S.fx,S.lx,S.dw,S.dh,S.bel⟩
theorem PlS.step (S:PlS W hb xb z n0 h F cs I R w) {n1:Nat} {h2:Ho} {F2:Nat→Prop} {I2:List Bool} {R2:List Rg} (at2:HAt w' hb h2 F2) (c:ChF F w w') (sb:SubF w F F2) (hi:HoI z n1 h2) (dw:DocW I2 R2) (dh:DocH z h2 I2 R2):PlS W hb xb z n1 h2 F2 cs I2 R2 w':=by
  have lt:=S.xh.lt
  exact ⟨at2,hi,fun i hf=>(sb i hf).elim (S.fl i) (fun h=>Nat.le_trans S.bel.size h),S.xh.same (c.block xb lt S.fx),fun hf=>(sb xb hf).elim S.fx (fun h=>by omega),S.lx,dw,dh,Below.trans S.bel (c.below S.fl S.bel.size)⟩
theorem PlS.put (S:PlS W hb xb z n0 h F cs I R w) {cs':List Value} (x:HasB w' xb 35 cs') (c:Chg xb xb w w'):PlS W hb xb z n0 h F cs' I R w':=
  ⟨S.ah.same c.size (fun i hf=>c.block i (S.ah.lim i hf) (fun e=>S.fx (e ▸ hf)) (fun e=>S.fx (e ▸ hf))),S.hi,S.fl,x,S.fx,S.lx,S.dw,S.dh,Below.trans S.bel (Below.ofNew c S.bel.size S.lx)⟩
theorem PlS.no (S:PlS W hb xb z n0 h F cs I R w) {k:Nat} (hk:k < 16) (hI:I.getD k false=false):∀ s,¬ h.has k s:=fun s hs=>by
  have:=(S.dh.is k hk).2 ⟨s,hs⟩
  rw [hI] at this
  cases this
theorem PlS.no16 (S:PlS W hb xb z n0 h F cs I R w) {k:Nat} (hk:16≤k):∀ s,¬ h.has k s:=has_16 S.hi.Z hk
theorem PlS.killN (S:PlS W hb xb z n0 h F cs I R w) {k:Nat} (hk:k < 18) (hn:∀ s,¬ h.has k s) :
    Calls Tryz.prog 11 #[.pointer (some ⟨hb,0,none⟩),.int .i64 (k:Int)] w fun e w'=>e=.returned (.int .i64 8)∧PlS W hb xb z n0 h F cs I R w':=by
  refine (hKill w hb z h F (k:Int) S.ah S.hi.Z (by unfold I64i;omega)).mono ?_
  rintro e w' (⟨k',s,hk',hs,_⟩ | ⟨_,rfl,_,b⟩)
  · obtain rfl:k=k':=by omega
    exact absurd hs (hn s)
  · exact ⟨rfl,S.below b⟩
theorem PlS.killY (S:PlS W hb xb z n0 h F cs I R w) {k:Nat} (hk:k < 16) (hI:I.getD k false=true) :
    Calls Tryz.prog 11 #[.pointer (some ⟨hb,0,none⟩),.int .i64 (k:Int)] w fun e w'=>∃ h2,e=.returned (.int .i64 0)∧PlS W hb xb z n0 h2 F cs (I.set k false) R w':=by
  obtain ⟨t,ht⟩:=(S.dh.is k hk).1 hI
  refine (hKill w hb z h F (k:Int) S.ah S.hi.Z (by unfold I64i;omega)).mono ?_
  rintro e w' (⟨k',s,hk',hs,rfl,at2,c⟩ | ⟨hn,_⟩)
  · obtain rfl:k=k':=by omega
    exact ⟨_,rfl,S.step at2 c (fun i hf=>.inl hf) (S.hi.kill hs) ⟨by rw [List.length_set];exact S.dw.il,S.dw.rl,S.dw.wf⟩ (S.dh.kill S.hi.Z hk)⟩
  · exact absurd ht (hn k t rfl)
theorem PlS.runN (S:PlS W hb xb z n0 h F cs I R w) (h0:n0≤40000) {k n:Nat} (hk:k < 18) (hN:n≤20000) (hn:∀ s,¬ h.has k s) :
    Calls Tryz.prog 12 #[.pointer (some ⟨hb,0,none⟩),.int .i64 (k:Int),.int .i64 (n:Int)] w fun e w'=>e=.returned (.tuple #[.int .i64 0,.int .i64 8])∧PlS W hb xb z (n0+n) h F cs I R w'∧ChF F w w':=by
  refine (hRun w hb z n0 h F (k:Int) n S.ah S.hi h0 (by unfold I64i;omega) hN).mono ?_
  rintro e w' (⟨k',s,hk',hs,_⟩ | ⟨_,rfl,_,b⟩)
  · obtain rfl:k=k':=by omega
    exact absurd hs (hn s)
  · exact ⟨rfl,(S.below b).mono (by omega),ChF.of b⟩
theorem PlS.runY (S:PlS W hb xb z n0 h F cs I R w) (h0:n0≤40000) {k n:Nat} (hk:k < 16) (hN:n≤20000) (hI:I.getD k false=true) :
    Calls Tryz.prog 12 #[.pointer (some ⟨hb,0,none⟩),.int .i64 (k:Int),.int .i64 (n:Int)] w fun e w'=>∃ (p:Nat) (h2:Ho) (F2:Nat→Prop),p≤n∧e=.returned (.tuple #[.int .i64 (p:Int),.int .i64 0])∧PlS W hb xb z (n0+n) h2 F2 cs I R w'∧ChF F w w':=by
  obtain ⟨t,ht⟩:=(S.dh.is k hk).1 hI
  refine (hRun w hb z n0 h F (k:Int) n S.ah S.hi h0 (by unfold I64i;omega) hN).mono ?_
  rintro e w' (⟨k',s,hk',hs,rfl,F2,at2,c,sb⟩ | ⟨hn,_⟩)
  · obtain rfl:k=k':=by omega
    exact ⟨_,_,F2,slF_le n _ _,rfl,S.step at2 c sb (S.hi.run hs n).1 S.dw (S.dh.run S.hi.Z hs n),c⟩
  · exact absurd ht (hn k t rfl)
theorem PlS.load (S:PlS W hb xb z n0 h F cs I R w) (z1:1≤z) (z2:z≤1000) {A:Option Addr} {cap n:Nat} {l:List Int} (r:RowAt w A cap l) (hl:l.length=n) (hn:n≤4200) {size:Int} (hp:powS size=true)
    {RA:Option Addr} {rc rn:Nat} {rep:List Int} (KR:KRow .u32 w RA rc rep) (hrl:rep.length=rn) (hrn:rn≤1000) :
    Calls Tryz.prog 9 #[.pointer (some ⟨hb,0,none⟩),.slice A n cap,.int .i64 size,.slice RA rn rc] w fun e w'=>
      ∃ (k:Nat) (h2:Ho) (F2:Nat→Prop) (I2:List Bool) (R2:List Rg),e=.returned (.tuple #[.int .i64 (k:Int),.int .i64 (loadE z h (imgE l) (codeI l) (dataL l) size)])∧DocStep z h I R l size k I2 R2∧PlS W hb xb z n0 h2 F2 cs I2 R2 w'∧ChF F w w':=by
  refine (hLoad w hb z h F A cap n l size RA rc rn rep S.ah S.hi.Z z1 (by omega) r hl hn hp KR hrl hrn).mono ?_
  rintro e w' (⟨hne,rfl,at2,b2⟩ | ⟨hE,k,b,hf,hk,hs,hb2,rfl,F2,at2,ch2,sb2⟩)
  · exact ⟨0,h,F,I,R,rfl,.inl ⟨hne,rfl,rfl,rfl⟩,S.below b2,ChF.of b2⟩
  · have OK:=ld_ok S.hi.Z hE hk hs hb2
    have I2:=OK.i S.hi z2 r.2.2.1 (rep:=rep) (kr_u32 KR) (by omega)
    have D2:=S.dh.put S.hi.Z OK.k16 (B:=newB h.B ((b:Int),((2 * hf:Nat):Int)) (codeI l) (dataL l)) (T:=newT h.T ((b:Int),((2 * hf:Nat):Int))) ⟨b,hf,codeI l,newX ((b:Int),((2 * hf:Nat):Int)) rep⟩
    have er:(⟨b,hf,codeI l,newX ((b:Int),((2 * hf:Nat):Int)) rep⟩:Sb).r=(takeV (regsU h) ((64 * z:Nat):Int) size,size):=by
      rw [hb2,hs];rfl
    rw [er] at D2
    obtain ⟨q1,q2,q3,q4⟩:=reg_iff.1 OK.rg
    have q5:=powS_pos q1
    refine ⟨k,_,F2,_,_,by rw [hE],.inr ⟨hE,hk,rfl,rfl⟩,S.step at2 ch2 sb2 I2 ⟨D2.il,D2.rl,fun j hj=>?_⟩ D2,ch2⟩
    by_cases hjk:j=k
    · subst hjk
      rw [getD_set_self (by rw [S.dw.rl];exact hj)]
      unfold rgWf
      simp only at q1 q2 q3 q4 q5
      rw [hb2,hs]
      simp only
      omega
    · rw [getD_set_ne (Ne.symm hjk)]
      exact S.dw.wf j hj
end
end Go.Proofs.YteefmjhemhlapaaGreat.Mm
