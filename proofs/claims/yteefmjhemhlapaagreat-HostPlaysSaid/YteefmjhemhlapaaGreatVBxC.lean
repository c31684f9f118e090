/- The program's own Slice. -/
import Derived.Test.YteefmjhemhlapaaGreatVBxA
import Derived.Test.YteefmjhemhlapaaGreatVBaM
import Derived.Test.YteefmjhemhlapaaGreatVBxT
import Derived.Test.YteefmjhemhlapaaGreatVGaD
import Derived.ScopeJumps
namespace Go.Proofs.YteefmjhemhlapaaGreat.Mm
open Go.ChangeShapes Go.WideShapes Go.ChangeAt Go.RowKit
set_option linter.unusedVariables false
open Go.RowKit
set_option linter.unusedSimpArgs false

theorem bytes_cell {w:World} {g:Nat} {B:List Int} (h:HasB w g 5 (B.map (Value.int .u8))) (p:Addr) (hp:p.block=g) (v:Value) (hv:w.cell? p=some v):∃ n,v=.int .u8 n:=by
  obtain ⟨b,o,s⟩:=p
  simp only at hp
  subst hp
  have hh:w.heap[b]?=some (.cells (B.map (Value.int .u8)).toArray 5 (0,0)):=h
  unfold World.cell? at hv
  rw [hh] at hv
  cases s with
  | none=>
    simp at hv
    obtain ⟨n,_,rfl⟩:=hv
    exact ⟨_,rfl⟩
  | some q=>simp at hv
theorem KRow.offB {w:World} {g:Nat} {B:List Int} (h:HasB w g 5 (B.map (Value.int .u8))) {A:Option Addr} {cap:Nat} {l:List Int} (r:KRow .u32 w A cap l):l=[]∨Off A g:=by
  by_cases hl:l=[]
  · exact .inl hl
  · obtain ⟨z,hz,_,hc⟩:=r.2.2.2 hl
    refine .inr (fun x hx e=>?_)
    rw [hz] at hx
    cases hx
    obtain ⟨n,hn⟩:=bytes_cell h _ (by rw [block_add];exact e) _ (hc 0 (List.length_pos_iff.2 hl))
    cases hn
theorem EvRow.offB {w:World} {g:Nat} {B:List Int} (h:HasB w g 5 (B.map (Value.int .u8))) {A:Option Addr} {cap:Nat} {l:List Ev} (r:EvRow w A cap l):l=[]∨Off A g:=by
  by_cases hl:l=[]
  · exact .inl hl
  · obtain ⟨z,hz,_,hc⟩:=r.2.2.2 hl
    refine .inr (fun x hx e=>?_)
    rw [hz] at hx
    cases hx
    obtain ⟨n,hn⟩:=bytes_cell h _ (by rw [block_add];exact e) _ (hc 0 (List.length_pos_iff.2 hl)).c0
    cases hn
theorem step_gate {c:Cp} {B:List Int} {T:List Bool} (hB:Bytes B) {x:Ou} (hx:StepIs c B T x):0≤x.gate∧x.gate≤4294967295:=by
  rcases hx with ⟨h1,rfl⟩ | ⟨h1,h2,rfl⟩ | ⟨op,a,b,imm,n,h1,rfl⟩
  · exact ⟨Int.le_refl _,by simp⟩
  · exact ⟨Int.le_refl _,by simp⟩
  · have:=rd_bds (codeL_byte hB T c.pc) h1
    obtain ⟨_,_,_,⟨i0,i1⟩,_⟩:=this
    have key:∀ d,(exec c d B T op a b imm).gate=0∨(exec c d B T op a b imm).gate=imm:=fun d=>by
      unfold exec
      simp only [apply_ite Ou.gate,ite_self]
      split
      · exact .inl rfl
      · split
        · exact .inr rfl
        · exact .inl rfl
    rcases key _ with e | e <;> rw [e] <;> omega
theorem i_of {T:List Bool} {x:Bx} {B:List Int} {n0:Nat} (o:x.Ok) (hB:Bytes B) (hl:B.length=64 * T.length) (ht:x.W.tr.length≤n0):BxI T x.c.b.toNat (x.c.b.toNat+x.c.s.toNat) n0 x B:=by
  have h1:=o.c.b
  have h2:=o.c.s
  unfold U32 at h1 h2
  exact ⟨o,by omega,by omega,hB,hl,ht⟩
def SlG (T:List Bool) (N:Nat) (x0:Bx) (B0:List Int) (k:Nat) (x:Bx) (B:List Int):Prop:=slF T N x0 B0=((slF T (N - k) x B).1,(slF T (N - k) x B).2.1,k+(slF T (N - k) x B).2.2)
section
variable {T:List Bool} {N n0 lo hi:Nat} {x0:Bx} {B0:List Int} {k:Nat} {x:Bx} {B:List Int}
theorem slG_0 (T:List Bool) (N:Nat) (x0:Bx) (B0:List Int):SlG T N x0 B0 0 x0 B0:=by unfold SlG;simp
theorem slG_step (h:SlG T N x0 B0 k x B) (hk:k < N) (hx:x.is=0) (hy:yldB T x B=false):SlG T N x0 B0 (k+1) (bxS T x B).1 (bxS T x B).2:=by
  unfold SlG at h ⊢
  rw [h,show N - k=(N - (k+1))+1 by omega,slF_step _ hx hy]
  simp only
  congr 2
  omega
theorem slG_yld (h:SlG T N x0 B0 k x B) (hk:k < N) (hx:x.is=0) (hy:yldB T x B=true):slF T N x0 B0=((bxS T x B).1,(bxS T x B).2,k+1):=by
  unfold SlG at h
  rw [h,show N - k=(N - (k+1))+1 by omega,slF_yld _ hx hy]
theorem slG_end (h:SlG T N x0 B0 k x B) (he:k=N∨x.is≠0) (hk:k≤N):slF T N x0 B0=(x,B,k):=by
  unfold SlG at h
  rw [h]
  rcases he with rfl | he
  · rw [Nat.sub_self,slF_0];rfl
  · rw [slF_over _ he];rfl
end
theorem wp_scope_once {P:Program} {c body:Code} {Q:Exit→Act→World→Prop} {a:Act} {w:World} (l:Nat) (J:Act→World→Prop) (μ:Act→World→Nat) (hf:findLabel c l=some (Code.skip.seq body))
    (first:(∀ a w,J a w→body.wp P (Exit.jump l J Q) a w)→c.wp P (Exit.jump l J Q) a w)
    (pass:∀ a w,J a w→body.wp P (Exit.jump l (fun a' w'=>J a' w'∧μ a' w' < μ a w) Q) a w):(Code.scope c).wp P Q a w:=by
  refine wp_scope_jumps l J μ hf (first fun a w hJ=>?_) (fun a w hJ=>wp_seq (wp_skip (pass a w hJ)))
  intro b k cs
  obtain ⟨e,a',w',hq,harr⟩:=pass a w hJ b k cs
  refine ⟨e,a',w',?_,harr⟩
  cases e <;> simp only [Exit.jump] at hq ⊢ <;> first | exact hq | exact ⟨hq.1,hq.2.1⟩
theorem grownTrans {w W W':World} {r:Option Nat} (a:w.grownBy W r) (b:W.grownBy W' r):w.grownBy W' r:=
  ⟨b.os.trans a.os,b.tape.trans a.tape,b.output.trans a.output,Nat.le_trans a.size b.size,fun k hk hr=>(b.block k (Nat.lt_of_lt_of_le hk a.size) hr).trans (a.block k hk hr)⟩
theorem grownBelow {w W W':World} {r:Option Nat} (a:w.grownBy W r) (b:Below W.heap.size W W'):w.grownBy W' r:=
  ⟨b.os.trans a.os,b.tape.trans a.tape,b.output.trans a.output,Nat.le_trans a.size b.size,fun k hk hr=>(b.block k (Nat.lt_of_lt_of_le hk a.size)).trans (a.block k hk hr)⟩
theorem grownNew {w W W':World} {r:Option Nat} (a:w.grownBy W r) {j:Nat} (c:Chg j j W W') (hj:w.heap.size≤j):w.grownBy W' r:=
  ⟨c.os.trans a.os,c.tape.trans a.tape,c.output.trans a.output,Nat.le_trans a.size c.size,fun k hk hr=>(c.block k (Nat.lt_of_lt_of_le hk a.size) (by omega) (by omega)).trans (a.block k hk hr)⟩
theorem grownOf {w W:World} {r:Option Nat} (b:Below w.heap.size w W):w.grownBy W r:=⟨b.os,b.tape,b.output,b.size,fun k hk _=>b.block k hk⟩
structure AskS (r:Option Nat) (w:World) (cs:List Value) (W:World):Prop where
  b:HasB W w.heap.size 82 cs
  r_:HasB W (w.heap.size+1) 82 [.int .u32 0,.int .u32 0,.int .u32 0,.int .u32 0,.int .u32 0,.int .u32 0,.int .u32 0,.int .u32 0,.int .u32 0,.int .u32 0,.int .u32 0,.slice none 0 0,.int .i64 0,.slice none 0 0,.bool false,.int .u32 0,.int .i64 0,.int .i64 0]
  c:w.grownBy W r
  lim:∀ k,r=some k→k < w.heap.size
theorem AskS.lt {r:Option Nat} {w W:World} {cs:List Value} (k:AskS r w cs W):w.heap.size+2≤W.heap.size:=by have:=k.r_.lt;omega
theorem AskS.below {r:Option Nat} {w W W':World} {cs:List Value} (k:AskS r w cs W) (b:Below W.heap.size W W'):AskS r w cs W':=
  ⟨k.b.below b,k.r_.below b,grownBelow k.c b,k.lim⟩
theorem AskS.chgB {r:Option Nat} {w W W':World} {cs ds:List Value} (k:AskS r w cs W) (c:Chg w.heap.size w.heap.size W W') (b:HasB W' w.heap.size 82 ds):AskS r w ds W':=
  ⟨b,k.r_.chg c (by omega) (by omega),grownNew k.c c (Nat.le_refl _),k.lim⟩
theorem AskS.setB {r:Option Nat} {w W:World} {cs:List Value} (k:AskS r w cs W) (i:Nat) (v:Value) :
    ∃ W',W.setCell ⟨w.heap.size,i,none⟩ v=W'∧AskS r w (cs.set i v) W'∧Chg w.heap.size w.heap.size W W':=by
  have c:Chg w.heap.size w.heap.size W (W.setCell ⟨w.heap.size,i,none⟩ v):=chg_set (Chg.refl _ _ _) _ (.inl rfl) _ _
  exact ⟨_,rfl,k.chgB c (has_set k.b i v),c⟩
theorem AskS.grown {r:Option Nat} {w W W':World} {cs:List Value} (k:AskS r w cs W) (g:W.grownBy W' r):AskS r w cs W':=
  ⟨k.b.grown g (fun e=>by have:=k.lim _ e.symm;omega),k.r_.grown g (fun e=>by have:=k.lim _ e.symm;omega),grownTrans k.c g,k.lim⟩
theorem TrI.offX {base:Nat} {r:Option Nat} {w:World} {A:Option Addr} {cap:Nat} {L:List Ev} (t:TrI base r w A cap L) {j:Nat} {cs:List Value} (hb:HasB w j 82 cs) (h:r=none→L=[]∨Off A j):(L=[]∨Off A j)∧r≠some j:=by
  rcases t.own with ⟨_,e⟩ | ⟨⟨_,ho⟩,e⟩
  · exact ⟨h e,by rw [e];intro h;cases h⟩
  · rcases ho with ⟨e2,_⟩ | ⟨g,c,cur,e2,_,hh,_⟩
    · rw [e2] at e
      exact ⟨h e,by rw [e];intro h;cases h⟩
    · have hne:g≠j:=fun e3=>by
        subst e3
        have:=hh.symm.trans hb
        simp at this
      injection e2 with a1 a2 a3
      refine ⟨.inr (fun x hx=>?_),?_⟩
      · rw [a1] at hx;cases hx;exact hne
      · rw [e,a1];exact fun h=>hne (by injection h)
theorem TrI.set {base:Nat} {r:Option Nat} {w w':World} {A:Option Addr} {cap:Nat} {L:List Ev} (t:TrI base r w A cap L) {j:Nat} {cs:List Value} (hb:HasB w j 82 cs) (h:r=none→L=[]∨Off A j) (c:Chg j j w w'):TrI base r w' A cap L:=
  t.chg c (t.offX hb h).1 (t.offX hb h).2
set_option maxRecDepth 100000 in
set_option maxHeartbeats 8000000 in
theorem ask_any (DC:Hid DoGC2) (c:Cp) (W:Wd) (is wh qg:Int) (oc:c.Ok) (oW:W.Ok) (hq:-9223372036854775808≤qg∧qg≤9223372036854775807) (base:Nat) (r:Option Nat) (p g h:Nat) (B:List Int) (T:List Bool) (w:World) (RA:Option Addr) (rc:Nat) (TB:Option Addr) (tb:Nat)
    (m:MemAt w p g h B T) (hl:p < base∧g < base∧h < base) (hb:base≤w.heap.size) (KR:KRow .u32 w RA rc W.rep) (hR:W.rep=[]∨∀ x,RA=some x→x.block < base) (KT:TrI base r w TB tb W.tr)
    (x':Bx) (hx':x'=⟨(gateS c (sumV c B T) W qg).1,(gateS c (sumV c B T) W qg).2,if qg=0 then 1 else is,wh⟩) (ox:x'.c.Ok) (ht:W.tr.length≤90000) :
    Calls Tryz.prog 76 #[(⟨c,W,is,wh⟩:Bx).val RA rc TB tb,.pointer (some ⟨p,0,none⟩),.int .i64 qg] w fun e w'=>
      ∃ TB' tb' r',e=.returned (x'.val RA rc TB' tb')∧TrI base r' w' TB' tb' x'.W.tr∧(r'=none→r=none∧TB'=TB∧x'.W.tr=W.tr)∧w.grownBy w' r:=by
  have HLIM:=Lib.hid KT.lim
  have HOFF:=Lib.hid (fun (_:r=none) j (hj:w.heap.size≤j)=>(KT.row.offNew hj:W.tr=[]∨Off TB j))
  rw [gateS_tr] at hx'
  obtain ⟨v0,v1,v2,v3,v4,v5,v6,v7,v8,v9,v10,hv⟩:∃ v0 v1 v2 v3 v4 v5 v6 v7 v8 v9 v10,c=⟨v0,[v1,v2,v3,v4,v5,v6,v7,v8],v9,v10⟩:=by
    obtain ⟨r0,r1,r2,r3,r4,r5,r6,r7,hr⟩:=oc.eight
    obtain ⟨pc,rr,b,s⟩:=c
    simp only at hr
    subst hr
    exact ⟨_,_,_,_,_,_,_,_,_,_,_,rfl⟩
  obtain ⟨rep,tk,tr,ov,cd⟩:=W
  have OC:=Lib.hid oc
  have oW2:(⟨rep,tk,[],ov,cd⟩:Wd).Ok:=⟨oW.rep,by simp,oW.tk,oW.cd⟩
  have GREP:=(gateS_W c (sumV c B T) ⟨rep,tk,[],ov,cd⟩ qg).1
  have GONE:=gateS_one c (sumV c B T) ⟨rep,tk,[],ov,cd⟩ qg rfl
  have DG:=Lib.hid (fun w' (hw:Below base w w')=>DC.out c (some ⟨p,0,none⟩) ⟨rep,tk,[],ov,cd⟩ qg (sumV c B T) oc oW2 hq w' RA rc none 0 (KR.belowB hw hR) (evRow_nil w') (fun _ _=>⟨p,g,h,B,T,rfl,m.belowB hw hl,rfl⟩))
  simp only at hx' GREP GONE DG ht HOFF
  generalize gateS c (sumV c B T) ⟨rep,tk,[],ov,cd⟩ qg=gr at *
  obtain ⟨gc,⟨gre,gtk,es,gov,gcd⟩⟩:=gr
  simp only at hx' GREP GONE
  subst hx'
  obtain rfl:rep=gre:=GREP.symm
  obtain ⟨g0,g1,g2,g3,g4,g5,g6,g7,g8,g9,g10,hg⟩:∃ g0 g1 g2 g3 g4 g5 g6 g7 g8 g9 g10,gc=⟨g0,[g1,g2,g3,g4,g5,g6,g7,g8],g9,g10⟩:=by
    obtain ⟨r0,r1,r2,r3,r4,r5,r6,r7,hr⟩:=ox.eight
    obtain ⟨pc,rr,b,s⟩:=gc
    simp only at hr
    subst hr
    exact ⟨_,_,_,_,_,_,_,_,_,_,_,rfl⟩
  subst hv hg
  clear oc oW oW2 ox GREP m hl KR hR hq
  have HB:=Lib.hid hb
  obtain ⟨W0,e0,k0⟩:∃ W0,(w.alloc (.cells #[.int .u32 v0,.int .u32 v1,.int .u32 v2,.int .u32 v3,.int .u32 v4,.int .u32 v5,.int .u32 v6,.int .u32 v7,.int .u32 v8,.int .u32 v9,.int .u32 v10,.slice RA rep.length rc,.int .i64 tk,.slice TB tr.length tb,.bool ov,.int .u32 cd,.int .i64 is,.int .i64 wh] 82)).alloc (.cells #[.int .u32 0,.int .u32 0,.int .u32 0,.int .u32 0,.int .u32 0,.int .u32 0,.int .u32 0,.int .u32 0,.int .u32 0,.int .u32 0,.int .u32 0,.slice none 0 0,.int .i64 0,.slice none 0 0,.bool false,.int .u32 0,.int .i64 0,.int .i64 0] 82)=W0∧AskS r w [.int .u32 v0,.int .u32 v1,.int .u32 v2,.int .u32 v3,.int .u32 v4,.int .u32 v5,.int .u32 v6,.int .u32 v7,.int .u32 v8,.int .u32 v9,.int .u32 v10,.slice RA rep.length rc,.int .i64 tk,.slice TB tr.length tb,.bool ov,.int .u32 cd,.int .i64 is,.int .i64 wh] W0:=
    ⟨_,rfl,⟨(HasB.new w 82 [.int .u32 v0,.int .u32 v1,.int .u32 v2,.int .u32 v3,.int .u32 v4,.int .u32 v5,.int .u32 v6,.int .u32 v7,.int .u32 v8,.int .u32 v9,.int .u32 v10,.slice RA rep.length rc,.int .i64 tk,.slice TB tr.length tb,.bool ov,.int .u32 cd,.int .i64 is,.int .i64 wh]).al _,HasB.newAt _ _ _ #[.int .u32 0,.int .u32 0,.int .u32 0,.int .u32 0,.int .u32 0,.int .u32 0,.int .u32 0,.int .u32 0,.int .u32 0,.int .u32 0,.int .u32 0,.slice none 0 0,.int .i64 0,.slice none 0 0,.bool false,.int .u32 0,.int .i64 0,.int .i64 0] (by simp),grownOf (bel_al (bel_al (Below.refl _ _) _) _),fun k hk=>(HLIM.out k hk).2⟩⟩
  have t0:TrI base r W0 TB tb tr:=KT.below (by rw [← e0];exact bel_al (bel_al (Below.refl _ _) _) _)
  clear KT
  obtain ⟨W1,e1,k1,c1⟩:=k0.setB 13 (.slice none 0 0)
  have t1:=t0.set k0.b (fun h=>HOFF.out h _ (Nat.le_refl _)) c1
  have p13:=k0.b.cell 13
  have f13:=k0.b.frozen 13
  simp only [List.getElem?_cons_succ,List.getElem?_cons_zero,List.set_cons_zero,List.set_cons_succ] at p13 k1
  replace DG:=DG.out W1 (Below.ofGrown k1.c hb (fun k hk=>(HLIM.out k hk).1))
  replace DG:Hid (Calls Tryz.prog 87 #[.agg #[.int .u32 v0,.int .u32 v1,.int .u32 v2,.int .u32 v3,.int .u32 v4,.int .u32 v5,.int .u32 v6,.int .u32 v7,.int .u32 v8,.int .u32 v9,.int .u32 v10],.pointer (some ⟨p,0,none⟩),.agg #[.slice RA rep.length rc,.int .i64 tk,.slice none 0 0,.bool ov,.int .u32 cd],.int .i64 qg] W1 fun e w'=>∃ TA' ta',e=.returned (.tuple #[.agg #[.int .u32 g0,.int .u32 g1,.int .u32 g2,.int .u32 g3,.int .u32 g4,.int .u32 g5,.int .u32 g6,.int .u32 g7,.int .u32 g8,.int .u32 g9,.int .u32 g10],.agg #[.slice RA rep.length rc,.int .i64 gtk,.slice TA' es.length ta',.bool gov,.int .u32 gcd]])∧KRow .u32 w' RA rc rep∧EvRow w' TA' ta' es∧Below W1.heap.size W1 w'∧((TA'=none∧ta'=0∧es=[])∨∀ y,TA'=some y→W1.heap.size≤y.block)):=Lib.hid DG
  have K1:=Lib.hid k1
  have T1:=Lib.hid t1
  clear k0 k1 t0 t1 c1
  obtain ⟨is',his⟩:∃ is',(if qg=0 then 1 else is)=is':=⟨_,rfl⟩
  rw [his]
  unfold Bx.val Bx.cs Cp.cs Wd.cs
  simp only [List.cons_append,List.nil_append,List.map_cons,List.map_nil,List.length_append]
  go_enter Tryz.func76,Tryz.ntmps76
  go_wp2_with (first
    | (refine ld_at rfl 77 (.tmp 14) rfl w.heap.size 0 (by rfl) 82 [] [.int .u32 v0,.int .u32 v1,.int .u32 v2,.int .u32 v3,.int .u32 v4,.int .u32 v5,.int .u32 v6,.int .u32 v7,.int .u32 v8,.int .u32 v9,.int .u32 v10] [.slice RA rep.length rc,.int .i64 tk,.slice none 0 0,.bool ov,.int .u32 cd,.int .i64 is,.int .i64 wh] K1.out.b rfl Tryz.isAgg77 Tryz.sizeOf77 ?_)
    | (refine ld_at rfl 80 (.tmp 17) rfl w.heap.size 11 (by rfl) 82 [.int .u32 v0,.int .u32 v1,.int .u32 v2,.int .u32 v3,.int .u32 v4,.int .u32 v5,.int .u32 v6,.int .u32 v7,.int .u32 v8,.int .u32 v9,.int .u32 v10] [.slice RA rep.length rc,.int .i64 tk,.slice none 0 0,.bool ov,.int .u32 cd] [.int .i64 is,.int .i64 wh] K1.out.b rfl Tryz.isAgg80 Tryz.sizeOf80 ?_))
  refine DG.out.mono ?_;rintro e w3 ⟨TA',ta',rfl,_,rt3,bel3,hnew⟩
  have OES3:es=[]∨Off TA' w.heap.size:=by
    rcases hnew with ⟨_,_,e⟩ | h
    · exact .inl e
    · exact .inr (fun y hy=>by have:=h y hy;have:=K1.out.lt;omega)
  clear hnew
  have K3:=Lib.hid (K1.out.below bel3)
  have T3:=Lib.hid (T1.out.below bel3)
  have RT3:=Lib.hid rt3
  have lt3:=K3.out.lt
  have OES:=Lib.hid (show es=[]∨Off TA' w.heap.size from OES3)
  clear OES3 rt3 bel3 K1 T1 DG p13 f13 e1 e0
  go_upto_region 5 with (first
    | (refine st_at rfl 77 (.tmp 23) (.tmp 21) rfl rfl w.heap.size 0 82 [] [.int .u32 v0,.int .u32 v1,.int .u32 v2,.int .u32 v3,.int .u32 v4,.int .u32 v5,.int .u32 v6,.int .u32 v7,.int .u32 v8,.int .u32 v9,.int .u32 v10] [.int .u32 g0,.int .u32 g1,.int .u32 g2,.int .u32 g3,.int .u32 g4,.int .u32 g5,.int .u32 g6,.int .u32 g7,.int .u32 g8,.int .u32 g9,.int .u32 g10] [.slice RA rep.length rc,.int .i64 tk,.slice none 0 0,.bool ov,.int .u32 cd,.int .i64 is,.int .i64 wh] (by rfl) (by rfl) K3.out.b rfl rfl Tryz.sizeOf77 (by simp [Value.oneCell']) ?_;intro G3 b3 c3;replace b3:HasB G3 w.heap.size 82 [.int .u32 g0,.int .u32 g1,.int .u32 g2,.int .u32 g3,.int .u32 g4,.int .u32 g5,.int .u32 g6,.int .u32 g7,.int .u32 g8,.int .u32 g9,.int .u32 g10,.slice RA rep.length rc,.int .i64 tk,.slice none 0 0,.bool ov,.int .u32 cd,.int .i64 is,.int .i64 wh]:=b3;have K4:=Lib.hid (K3.out.chgB c3 b3);have T4:=Lib.hid (T3.out.set K3.out.b (fun h=>HOFF.out h _ (Nat.le_refl _)) c3);have RT4:=Lib.hid (RT3.out.off c3 (OES.out));clear c3 b3 K3 T3 RT3)
    | (refine st_at rfl 80 (.tmp 24) (.tmp 22) rfl rfl w.heap.size 11 82 [.int .u32 g0,.int .u32 g1,.int .u32 g2,.int .u32 g3,.int .u32 g4,.int .u32 g5,.int .u32 g6,.int .u32 g7,.int .u32 g8,.int .u32 g9,.int .u32 g10] [.slice RA rep.length rc,.int .i64 tk,.slice none 0 0,.bool ov,.int .u32 cd] [.slice RA rep.length rc,.int .i64 gtk,.slice TA' es.length ta',.bool gov,.int .u32 gcd] [.int .i64 is,.int .i64 wh] (by rfl) (by rfl) K4.out.b rfl rfl Tryz.sizeOf80 (by simp [Value.oneCell']) ?_;intro G4 b4 c4;replace b4:HasB G4 w.heap.size 82 [.int .u32 g0,.int .u32 g1,.int .u32 g2,.int .u32 g3,.int .u32 g4,.int .u32 g5,.int .u32 g6,.int .u32 g7,.int .u32 g8,.int .u32 g9,.int .u32 g10,.slice RA rep.length rc,.int .i64 gtk,.slice TA' es.length ta',.bool gov,.int .u32 gcd,.int .i64 is,.int .i64 wh]:=b4;have K5:=Lib.hid (K4.out.chgB c4 b4);have T5:=Lib.hid (T4.out.set K4.out.b (fun h=>HOFF.out h _ (Nat.le_refl _)) c4);have RT5:=Lib.hid (RT4.out.off c4 (OES.out));have q13:=K5.out.b.cell 13;simp only [List.getElem?_cons_succ,List.getElem?_cons_zero] at q13;have lt5:=K5.out.lt;clear c4 b4 K4 T4 RT4)
    | (refine app_tr' rfl (.tmp 25) (.tmp 28) rfl base r TB tb tr.length tr rfl (by rfl) T5.out TA' ta' es.length es rfl (by rfl) RT5.out (by omega) (Nat.le_trans HB.out K5.out.c.size) ?_;intro A6 cap6 r6 w6 t6 gr6 hn6;have k6:=K5.out.grown gr6;obtain ⟨W7,e7,k7,c7⟩:=k6.setB 13 (.slice A6 (tr.length+es.length) cap6);have q6:=k6.b.cell 13;have qf6:=k6.b.frozen 13;simp only [List.getElem?_cons_succ,List.getElem?_cons_zero,List.set_cons_zero,List.set_cons_succ] at q6 k7;have O6:r6=none→∀ j,w.heap.size≤j→(tr ++ es)=[]∨Off A6 j:=(fun h j hj=>by obtain ⟨a1,a2,a3⟩:=hn6 h;rw [a2,a3,List.append_nil];exact HOFF.out a1 j hj);have T7:=Lib.hid (t6.set k6.b (fun h=>O6 h _ (Nat.le_refl _)) c7);have K7:=Lib.hid k7;have HO6:=Lib.hid O6;have HN6:=Lib.hid hn6;clear t6 gr6 hn6 k6 k7 c7 O6 q13 K5 T5 RT5))
  by_cases h0:qg=0
  · rw [if_pos h0] at his
    subst h0 his
    obtain ⟨W8,e8,k8,c8⟩:=K7.out.setB 16 (.int .i64 1)
    have y16:=K7.out.b.cell 16
    have yf16:=K7.out.b.frozen 16
    simp only [List.set_cons_zero,List.set_cons_succ,List.getElem?_cons_succ,List.getElem?_cons_zero] at k8 y16
    have T8:=Lib.hid (T7.out.set K7.out.b (fun h=>HO6.out h _ (Nat.le_refl _)) c8)
    have K8:=Lib.hid k8
    clear k8 c8 K7 T7
    as_aux_lemma=>
      go_wp2_with (first
        | (refine ld_at rfl 82 (.tmp 3) rfl w.heap.size 0 (by rfl) 82 [] [.int .u32 g0,.int .u32 g1,.int .u32 g2,.int .u32 g3,.int .u32 g4,.int .u32 g5,.int .u32 g6,.int .u32 g7,.int .u32 g8,.int .u32 g9,.int .u32 g10,.slice RA rep.length rc,.int .i64 gtk,.slice A6 (tr.length+es.length) cap6,.bool gov,.int .u32 gcd,.int .i64 1,.int .i64 wh] [] K8.out.b rfl Tryz.isAgg82 Tryz.sizeOf82 ?_)
        | (refine st_at rfl 82 (.tmp 6) (.tmp 35) rfl rfl (w.heap.size+1) 0 82 [] [.int .u32 0,.int .u32 0,.int .u32 0,.int .u32 0,.int .u32 0,.int .u32 0,.int .u32 0,.int .u32 0,.int .u32 0,.int .u32 0,.int .u32 0,.slice none 0 0,.int .i64 0,.slice none 0 0,.bool false,.int .u32 0,.int .i64 0,.int .i64 0] [.int .u32 g0,.int .u32 g1,.int .u32 g2,.int .u32 g3,.int .u32 g4,.int .u32 g5,.int .u32 g6,.int .u32 g7,.int .u32 g8,.int .u32 g9,.int .u32 g10,.slice RA rep.length rc,.int .i64 gtk,.slice A6 (tr.length+es.length) cap6,.bool gov,.int .u32 gcd,.int .i64 1,.int .i64 wh] [] (by rfl) (by rfl) K8.out.r_ rfl rfl Tryz.sizeOf82 (by simp [Value.oneCell']) ?_;intro W9 r1 c1;replace r1:HasB W9 (w.heap.size+1) 82 [.int .u32 g0,.int .u32 g1,.int .u32 g2,.int .u32 g3,.int .u32 g4,.int .u32 g5,.int .u32 g6,.int .u32 g7,.int .u32 g8,.int .u32 g9,.int .u32 g10,.slice RA rep.length rc,.int .i64 gtk,.slice A6 (tr.length+es.length) cap6,.bool gov,.int .u32 gcd,.int .i64 1,.int .i64 wh]:=r1))
      (try simp only [Act.put,lsA,lsZ,lsS])
      have V:=loadvar_has r1 rfl Tryz.underlying82 (by kernel_rfl)
      refine bodyPost_ret (v:=.agg #[.int .u32 g0,.int .u32 g1,.int .u32 g2,.int .u32 g3,.int .u32 g4,.int .u32 g5,.int .u32 g6,.int .u32 g7,.int .u32 g8,.int .u32 g9,.int .u32 g10,.slice RA rep.length rc,.int .i64 gtk,.slice A6 (tr.length+es.length) cap6,.bool gov,.int .u32 gcd,.int .i64 1,.int .i64 wh]) (by simp [results,Tryz.results76,asaddr_run,V]) rfl ?_
      exact ⟨A6,cap6,r6,rfl,T8.out.set K8.out.r_ (fun h=>HO6.out h _ (by omega)) c1,(fun h=>by obtain ⟨a1,a2,a3⟩:=HN6.out h;exact ⟨a1,a2,by rw [a3,List.append_nil]⟩),grownNew K8.out.c c1 (by omega)⟩
  · have h0':(qg == 0)=false:=by simpa using h0
    rw [if_neg h0] at his
    subst his
    as_aux_lemma=>
      go_wp2_with (first
        | (refine ld_at rfl 82 (.tmp 3) rfl w.heap.size 0 (by rfl) 82 [] [.int .u32 g0,.int .u32 g1,.int .u32 g2,.int .u32 g3,.int .u32 g4,.int .u32 g5,.int .u32 g6,.int .u32 g7,.int .u32 g8,.int .u32 g9,.int .u32 g10,.slice RA rep.length rc,.int .i64 gtk,.slice A6 (tr.length+es.length) cap6,.bool gov,.int .u32 gcd,.int .i64 is,.int .i64 wh] [] K7.out.b rfl Tryz.isAgg82 Tryz.sizeOf82 ?_)
        | (refine st_at rfl 82 (.tmp 6) (.tmp 35) rfl rfl (w.heap.size+1) 0 82 [] [.int .u32 0,.int .u32 0,.int .u32 0,.int .u32 0,.int .u32 0,.int .u32 0,.int .u32 0,.int .u32 0,.int .u32 0,.int .u32 0,.int .u32 0,.slice none 0 0,.int .i64 0,.slice none 0 0,.bool false,.int .u32 0,.int .i64 0,.int .i64 0] [.int .u32 g0,.int .u32 g1,.int .u32 g2,.int .u32 g3,.int .u32 g4,.int .u32 g5,.int .u32 g6,.int .u32 g7,.int .u32 g8,.int .u32 g9,.int .u32 g10,.slice RA rep.length rc,.int .i64 gtk,.slice A6 (tr.length+es.length) cap6,.bool gov,.int .u32 gcd,.int .i64 is,.int .i64 wh] [] (by rfl) (by rfl) K7.out.r_ rfl rfl Tryz.sizeOf82 (by simp [Value.oneCell']) ?_;intro W9 r1 c1;replace r1:HasB W9 (w.heap.size+1) 82 [.int .u32 g0,.int .u32 g1,.int .u32 g2,.int .u32 g3,.int .u32 g4,.int .u32 g5,.int .u32 g6,.int .u32 g7,.int .u32 g8,.int .u32 g9,.int .u32 g10,.slice RA rep.length rc,.int .i64 gtk,.slice A6 (tr.length+es.length) cap6,.bool gov,.int .u32 gcd,.int .i64 is,.int .i64 wh]:=r1))
      (try simp only [Act.put,lsA,lsZ,lsS])
      have V:=loadvar_has r1 rfl Tryz.underlying82 (by kernel_rfl)
      refine bodyPost_ret (v:=.agg #[.int .u32 g0,.int .u32 g1,.int .u32 g2,.int .u32 g3,.int .u32 g4,.int .u32 g5,.int .u32 g6,.int .u32 g7,.int .u32 g8,.int .u32 g9,.int .u32 g10,.slice RA rep.length rc,.int .i64 gtk,.slice A6 (tr.length+es.length) cap6,.bool gov,.int .u32 gcd,.int .i64 is,.int .i64 wh]) (by simp [results,Tryz.results76,asaddr_run,V]) rfl ?_
      exact ⟨A6,cap6,r6,rfl,T7.out.set K7.out.r_ (fun h=>HO6.out h _ (by omega)) c1,(fun h=>by obtain ⟨a1,a2,a3⟩:=HN6.out h;exact ⟨a1,a2,by rw [a3,List.append_nil]⟩),grownNew K7.out.c c1 (by omega)⟩
noncomputable def askF (T:List Bool) (x:Bx) (B:List Int):Int:=if (stF x.c B T).what=2 then (stF x.c B T).gate else -1
structure StS (base p g h:Nat) (T:List Bool) (w:World) (cs:List Value) (B:List Int) (W:World):Prop where
  b:HasB W w.heap.size 82 cs
  r_:HasB W (w.heap.size+1) 82 [.int .u32 0,.int .u32 0,.int .u32 0,.int .u32 0,.int .u32 0,.int .u32 0,.int .u32 0,.int .u32 0,.int .u32 0,.int .u32 0,.int .u32 0,.slice none 0 0,.int .i64 0,.slice none 0 0,.bool false,.int .u32 0,.int .i64 0,.int .i64 0]
  m:MemAt W p g h B T
  c:ChB base g w W
  lo:base≤w.heap.size
  l:p < base∧g < base∧h < base
theorem StS.lt {base p g h:Nat} {T:List Bool} {w W:World} {cs:List Value} {B:List Int} (k:StS base p g h T w cs B W):w.heap.size+2≤W.heap.size:=by have:=k.r_.lt;omega
theorem StS.below {base p g h:Nat} {T:List Bool} {w W W':World} {cs:List Value} {B:List Int} (k:StS base p g h T w cs B W) (b:Below W.heap.size W W'):StS base p g h T w cs B W':=
  ⟨k.b.below b,k.r_.below b,k.m.below b,k.c.trans (.ofBelow (b.mono (by have:=k.lt;have:=k.lo;omega))),k.lo,k.l⟩
theorem StS.chgG {base p g h:Nat} {T:List Bool} {w W W':World} {cs:List Value} {B B':List Int} (k:StS base p g h T w cs B W) (c:Chg g g W W') (m:MemAt W' p g h B' T):StS base p g h T w cs B' W':=
  ⟨k.b.chg c (by have:=k.l;have:=k.lo;omega) (by have:=k.l;have:=k.lo;omega),k.r_.chg c (by have:=k.l;have:=k.lo;omega) (by have:=k.l;have:=k.lo;omega),m,k.c.trans (.ofChg c (by have:=k.lt;have:=k.lo;omega)),k.lo,k.l⟩
theorem StS.chgN {base p g h j:Nat} {T:List Bool} {w W W':World} {cs:List Value} {B:List Int} (k:StS base p g h T w cs B W) (c:Chg j j W W') (hj:w.heap.size+2≤j):StS base p g h T w cs B W':=
  ⟨k.b.chg c (by omega) (by omega),k.r_.chg c (by omega) (by omega),k.m.chg c (by have:=k.l;have:=k.lo;omega) (by have:=k.l;have:=k.lo;omega) (by have:=k.l;have:=k.lo;omega) (by have:=k.l;have:=k.lo;omega) (by have:=k.l;have:=k.lo;omega) (by have:=k.l;have:=k.lo;omega),k.c.trans (.ofBelow (Below.ofNew c (by have:=k.lt;have:=k.lo;omega) (by have:=k.lo;omega))),k.lo,k.l⟩
theorem StS.chgB {base p g h:Nat} {T:List Bool} {w W W':World} {cs ds:List Value} {B:List Int} (k:StS base p g h T w cs B W) (c:Chg w.heap.size w.heap.size W W') (b:HasB W' w.heap.size 82 ds):StS base p g h T w ds B W':=
  ⟨b,k.r_.chg c (by omega) (by omega),k.m.chg c (by have:=k.l;have:=k.lo;omega) (by have:=k.l;have:=k.lo;omega) (by have:=k.l;have:=k.lo;omega) (by have:=k.l;have:=k.lo;omega) (by have:=k.l;have:=k.lo;omega) (by have:=k.l;have:=k.lo;omega),k.c.trans (.ofBelow (Below.ofNew c (by have:=k.lt;have:=k.lo;omega) k.lo)),k.lo,k.l⟩
theorem StS.setB {base p g h:Nat} {T:List Bool} {w W:World} {cs:List Value} {B:List Int} (k:StS base p g h T w cs B W) (i:Nat) (v:Value) :
    ∃ W',W.setCell ⟨w.heap.size,i,none⟩ v=W'∧StS base p g h T w (cs.set i v) B W'∧Chg w.heap.size w.heap.size W W':=by
  have c:Chg w.heap.size w.heap.size W (W.setCell ⟨w.heap.size,i,none⟩ v):=chg_set (Chg.refl _ _ _) _ (.inl rfl) _ _
  exact ⟨_,rfl,k.chgB c (has_set k.b i v),c⟩
theorem StS.chgR {base p g h:Nat} {T:List Bool} {w W W':World} {cs:List Value} {B:List Int} (k:StS base p g h T w cs B W) (c:Chg (w.heap.size+1) (w.heap.size+1) W W'):MemAt W' p g h B T∧ChB base g w W':=
  ⟨k.m.chg c (by have:=k.l;have:=k.lo;omega) (by have:=k.l;have:=k.lo;omega) (by have:=k.l;have:=k.lo;omega) (by have:=k.l;have:=k.lo;omega) (by have:=k.l;have:=k.lo;omega) (by have:=k.l;have:=k.lo;omega),k.c.trans (.ofBelow (Below.ofNew c (by have:=k.lt;have:=k.lo;omega) (by have:=k.lo;omega)))⟩
def StP (base:Nat) (r:Option Nat) (p g h:Nat) (T:List Bool) (w:World) (RA:Option Addr) (rc:Nat) (TB:Option Addr) (tr:List Ev) (x':Bx) (B':List Int) (a:Int) (e:Ending) (w':World):Prop:=
  ∃ TB' tb' r',e=.returned (.tuple #[x'.val RA rc TB' tb',.int .i64 a])∧MemAt w' p g h B' T∧TrI base r' w' TB' tb' x'.W.tr∧(r'=none→r=none∧TB'=TB∧x'.W.tr=tr)∧ChB base g w w'
set_option maxRecDepth 100000 in
set_option maxHeartbeats 8000000 in
theorem stp_any (DC:Hid DoGC2) (T:List Bool) (x:Bx) (B:List Int) (lo hi n0:Nat) (i:BxI T lo hi n0 x B) (hx:x.is=0) (hn:n0≤80000) (base:Nat) (r:Option Nat) (p g h:Nat) (w:World) (RA:Option Addr) (rc:Nat) (TB:Option Addr) (tb:Nat)
    (m:MemAt w p g h B T) (hl:p < base∧g < base∧h < base) (hb:base≤w.heap.size) (KR:KRow .u32 w RA rc x.W.rep) (hR:x.W.rep=[]∨∀ a,RA=some a→a.block < base) (KT:TrI base r w TB tb x.W.tr) :
    Calls Tryz.prog 59 #[x.val RA rc TB tb,.pointer (some ⟨p,0,none⟩)] w (StP base r p g h T w RA rc TB x.W.tr (bxS T x B).1 (bxS T x B).2 (askF T x B)):=by
  have HLIM:=Lib.hid KT.lim
  have HOFF:=Lib.hid (fun (_:r=none) j (hj:w.heap.size≤j)=>(KT.row.offNew hj:x.W.tr=[]∨Off TB j))
  obtain ⟨⟨v0,vr,v9,v10⟩,⟨rep,tk,tr,ov,cd⟩,is,wh⟩:=x
  simp only at hx
  subst hx
  have IX:=Lib.hid i
  obtain ⟨v1,v2,v3,v4,v5,v6,v7,v8,hv⟩:=i.ok.c.eight
  simp only at hv
  subst hv
  have SO:=step_ok i.ok.c i.byt i.len (stF_is _ B T)
  have QG:=Lib.hid (step_gate i.byt (stF_is (⟨v0,[v1,v2,v3,v4,v5,v6,v7,v8],v9,v10⟩:Cp) B T))
  have IXN:=Lib.hid (bxS_i i rfl)
  have Q0:=Lib.hid (fun h=>(bxS_0 h:bxS T ⟨⟨v0,[v1,v2,v3,v4,v5,v6,v7,v8],v9,v10⟩,⟨rep,tk,tr,ov,cd⟩,0,wh⟩ B=_∧_).1)
  have Q2:=Lib.hid (fun h=>(bxS_2 h:bxS T ⟨⟨v0,[v1,v2,v3,v4,v5,v6,v7,v8],v9,v10⟩,⟨rep,tk,tr,ov,cd⟩,0,wh⟩ B=_∧_).1)
  have QE:=Lib.hid (fun h h'=>(bxS_e h h':bxS T ⟨⟨v0,[v1,v2,v3,v4,v5,v6,v7,v8],v9,v10⟩,⟨rep,tk,tr,ov,cd⟩,0,wh⟩ B=_∧_).1)
  obtain ⟨x',hx'⟩:∃ x',bxS T ⟨⟨v0,[v1,v2,v3,v4,v5,v6,v7,v8],v9,v10⟩,⟨rep,tk,tr,ov,cd⟩,0,wh⟩ B=x':=⟨_,rfl⟩
  obtain ⟨af,haf⟩:∃ af,askF T ⟨⟨v0,[v1,v2,v3,v4,v5,v6,v7,v8],v9,v10⟩,⟨rep,tk,tr,ov,cd⟩,0,wh⟩ B=af:=⟨_,rfl⟩
  unfold askF at haf
  rw [hx'] at IXN Q0 Q2 QE ⊢
  have ST:=fun w' (m':MemAt w' p g h B T)=>step_any m' i.ok.c (stF_is _ B T)
  simp only at ST Q0 Q2 QE SO QG KR KT hR haf HOFF hn
  rw [show askF T ⟨⟨v0,[v1,v2,v3,v4,v5,v6,v7,v8],v9,v10⟩,⟨rep,tk,tr,ov,cd⟩,0,wh⟩ B=af from haf]
  clear hx'
  generalize stF ⟨v0,[v1,v2,v3,v4,v5,v6,v7,v8],v9,v10⟩ B T=q at *
  obtain ⟨⟨u0,ur,u9,u10⟩,qB,qw,qg⟩:=q
  obtain ⟨u1,u2,u3,u4,u5,u6,u7,u8,hu⟩:=SO.1.eight
  simp only at hu
  subst hu
  have SO1:=Lib.hid SO.1
  simp only at haf Q0 Q2 QE
  clear SO
  obtain ⟨W0,e0,k0⟩:∃ W0,(w.alloc (.cells #[.int .u32 v0,.int .u32 v1,.int .u32 v2,.int .u32 v3,.int .u32 v4,.int .u32 v5,.int .u32 v6,.int .u32 v7,.int .u32 v8,.int .u32 v9,.int .u32 v10,.slice RA rep.length rc,.int .i64 tk,.slice TB tr.length tb,.bool ov,.int .u32 cd,.int .i64 0,.int .i64 wh] 82)).alloc (.cells #[.int .u32 0,.int .u32 0,.int .u32 0,.int .u32 0,.int .u32 0,.int .u32 0,.int .u32 0,.int .u32 0,.int .u32 0,.int .u32 0,.int .u32 0,.slice none 0 0,.int .i64 0,.slice none 0 0,.bool false,.int .u32 0,.int .i64 0,.int .i64 0] 82)=W0∧StS base p g h T w [.int .u32 v0,.int .u32 v1,.int .u32 v2,.int .u32 v3,.int .u32 v4,.int .u32 v5,.int .u32 v6,.int .u32 v7,.int .u32 v8,.int .u32 v9,.int .u32 v10,.slice RA rep.length rc,.int .i64 tk,.slice TB tr.length tb,.bool ov,.int .u32 cd,.int .i64 0,.int .i64 wh] B W0:=
    ⟨_,rfl,⟨(HasB.new w 82 [.int .u32 v0,.int .u32 v1,.int .u32 v2,.int .u32 v3,.int .u32 v4,.int .u32 v5,.int .u32 v6,.int .u32 v7,.int .u32 v8,.int .u32 v9,.int .u32 v10,.slice RA rep.length rc,.int .i64 tk,.slice TB tr.length tb,.bool ov,.int .u32 cd,.int .i64 0,.int .i64 wh]).al _,HasB.newAt _ _ _ #[.int .u32 0,.int .u32 0,.int .u32 0,.int .u32 0,.int .u32 0,.int .u32 0,.int .u32 0,.int .u32 0,.int .u32 0,.int .u32 0,.int .u32 0,.slice none 0 0,.int .i64 0,.slice none 0 0,.bool false,.int .u32 0,.int .i64 0,.int .i64 0] (by simp),m.below (bel_al (bel_al (Below.refl _ _) _) _),.ofBelow ((bel_al (bel_al (Below.refl _ _) _) _).mono hb),hb,hl⟩⟩
  have BW0:Below w.heap.size w W0:=by rw [← e0];exact bel_al (bel_al (Below.refl _ _) _) _
  have kr0:=Lib.hid (KR.below BW0)
  have kt0:=Lib.hid (KT.below BW0)
  have K0:=Lib.hid k0
  replace ST:Hid (Calls Tryz.prog 75 #[.agg #[.int .u32 v0,.int .u32 v1,.int .u32 v2,.int .u32 v3,.int .u32 v4,.int .u32 v5,.int .u32 v6,.int .u32 v7,.int .u32 v8,.int .u32 v9,.int .u32 v10],.pointer (some ⟨p,0,none⟩)] W0 fun e w'=>e=.returned (.tuple #[.agg #[.int .u32 u0,.int .u32 u1,.int .u32 u2,.int .u32 u3,.int .u32 u4,.int .u32 u5,.int .u32 u6,.int .u32 u7,.int .u32 u8,.int .u32 u9,.int .u32 u10],.agg #[.int .i64 qw,.int .i64 qg]])∧MemAt w' p g h qB T∧Chg g g W0 w'):=Lib.hid (ST W0 k0.m)
  have HR:=Lib.hid hR
  have OFFRB:Hid (rep=[]∨Off RA w.heap.size):=Lib.hid (KR.offNew (Nat.le_refl _))
  have OFFRC:Hid (rep=[]∨Off RA (w.heap.size+1)):=Lib.hid (KR.offNew (by omega))
  clear KR KT m i hR BW0 k0
  unfold Bx.val Bx.cs Cp.cs Wd.cs
  simp only [List.cons_append,List.nil_append,List.map_cons,List.map_nil]
  go_enter Tryz.func59,Tryz.ntmps59
  go_wp2_with (first
    | (refine ld_at rfl 77 (.tmp 9) rfl w.heap.size 0 (by rfl) 82 [] [.int .u32 v0,.int .u32 v1,.int .u32 v2,.int .u32 v3,.int .u32 v4,.int .u32 v5,.int .u32 v6,.int .u32 v7,.int .u32 v8,.int .u32 v9,.int .u32 v10] [.slice RA rep.length rc,.int .i64 tk,.slice TB tr.length tb,.bool ov,.int .u32 cd,.int .i64 0,.int .i64 wh] K0.out.b rfl Tryz.isAgg77 Tryz.sizeOf77 ?_))
  refine ST.out.mono ?_;rintro e w2 ⟨rfl,m2,c2⟩
  have lt0:=K0.out.lt
  have lo:=K0.out.lo
  have hl0:=K0.out.l
  have k2:=K0.out.chgG c2 m2
  have lt2:=k2.lt
  have kr2:=kr0.out.off c2 (kr0.out.offB K0.out.m.bytes)
  have kt2:=kt0.out.chg c2 (kt0.out.row.offB K0.out.m.bytes) (fun e=>by have:=HLIM.out _ e;omega)
  have OFFN:=Lib.hid (fun j (hj:w2.heap.size≤j)=>(kr2.offNew hj:rep=[]∨Off RA j))
  have OFFT:=Lib.hid (fun j (hj:w2.heap.size≤j)=>(kt2.row.offNew hj:tr=[]∨Off TB j))
  obtain ⟨A2,e2,K2,D2,E2,KR2,KT2⟩:∃ A2,(w2.alloc (.cells #[.int .u32 0,.int .u32 0,.int .u32 0,.int .u32 0,.int .u32 0,.int .u32 0,.int .u32 0,.int .u32 0,.int .u32 0,.int .u32 0,.int .u32 0] 77)).alloc (.cells #[.int .i64 0,.int .i64 0] 137)=A2∧Hid (StS base p g h T w [.int .u32 v0,.int .u32 v1,.int .u32 v2,.int .u32 v3,.int .u32 v4,.int .u32 v5,.int .u32 v6,.int .u32 v7,.int .u32 v8,.int .u32 v9,.int .u32 v10,.slice RA rep.length rc,.int .i64 tk,.slice TB tr.length tb,.bool ov,.int .u32 cd,.int .i64 0,.int .i64 wh] qB A2)∧Hid (HasB A2 w2.heap.size 77 [.int .u32 0,.int .u32 0,.int .u32 0,.int .u32 0,.int .u32 0,.int .u32 0,.int .u32 0,.int .u32 0,.int .u32 0,.int .u32 0,.int .u32 0])∧Hid (HasB A2 (w2.heap.size+1) 137 [.int .i64 0,.int .i64 0])∧Hid (KRow .u32 A2 RA rc rep)∧Hid (TrI base r A2 TB tb tr):=by
    have BA:=bel_al (bel_al (Below.refl _ w2) (.cells #[.int .u32 0,.int .u32 0,.int .u32 0,.int .u32 0,.int .u32 0,.int .u32 0,.int .u32 0,.int .u32 0,.int .u32 0,.int .u32 0,.int .u32 0] 77)) (.cells #[.int .i64 0,.int .i64 0] 137)
    exact ⟨_,rfl,Lib.hid (k2.below BA),Lib.hid ((HasB.new w2 77 [.int .u32 0,.int .u32 0,.int .u32 0,.int .u32 0,.int .u32 0,.int .u32 0,.int .u32 0,.int .u32 0,.int .u32 0,.int .u32 0,.int .u32 0]).al _),Lib.hid (HasB.newAt _ _ _ #[.int .i64 0,.int .i64 0] (by simp)),Lib.hid (kr2.below BA),Lib.hid (kt2.below BA)⟩
  have RNE:Hid (∀ j,w.heap.size≤j→r≠some j):=Lib.hid (fun j hj e=>by have:=HLIM.out _ e;omega)
  clear m2 c2 k2 kr2 kt2 ST e0 kr0 kt0 K0
  go_upto_region 4 with (first
    | (refine st_at rfl 77 (.tmp 6) (.tmp 13) rfl rfl w2.heap.size 0 77 [] [.int .u32 0,.int .u32 0,.int .u32 0,.int .u32 0,.int .u32 0,.int .u32 0,.int .u32 0,.int .u32 0,.int .u32 0,.int .u32 0,.int .u32 0] [.int .u32 u0,.int .u32 u1,.int .u32 u2,.int .u32 u3,.int .u32 u4,.int .u32 u5,.int .u32 u6,.int .u32 u7,.int .u32 u8,.int .u32 u9,.int .u32 u10] [] (by rfl) (by rfl) D2.out rfl rfl Tryz.sizeOf77 (by simp [Value.oneCell']) ?_;intro A3 D3 c3;replace D3:HasB A3 w2.heap.size 77 [.int .u32 u0,.int .u32 u1,.int .u32 u2,.int .u32 u3,.int .u32 u4,.int .u32 u5,.int .u32 u6,.int .u32 u7,.int .u32 u8,.int .u32 u9,.int .u32 u10]:=D3;have K3:=Lib.hid (K2.out.chgN c3 lt2);have E3:=Lib.hid (E2.out.chg c3 (by omega) (by omega));have KR3:=Lib.hid (KR2.out.off c3 (OFFN.out _ (Nat.le_refl _)));have KT3:=Lib.hid (KT2.out.chg c3 (OFFT.out _ (Nat.le_refl _)) (RNE.out _ (by omega)));replace D3:=Lib.hid D3;clear c3 K2 E2 D2 KR2 KT2 e2)
    | (refine st_at rfl 137 (.tmp 7) (.tmp 14) rfl rfl (w2.heap.size+1) 0 137 [] [.int .i64 0,.int .i64 0] [.int .i64 qw,.int .i64 qg] [] (by rfl) (by rfl) E3.out rfl rfl Tryz.sizeOf137 (by simp [Value.oneCell']) ?_;intro A4 E4 c4;replace E4:HasB A4 (w2.heap.size+1) 137 [.int .i64 qw,.int .i64 qg]:=E4;have K4:=Lib.hid (K3.out.chgN c4 (by omega));have D4:=Lib.hid (D3.out.chg c4 (by omega) (by omega));have KR4:=Lib.hid (KR3.out.off c4 (OFFN.out _ (by omega)));have KT4:=Lib.hid (KT3.out.chg c4 (OFFT.out _ (by omega)) (RNE.out _ (by omega)));replace E4:=Lib.hid E4;clear c4 K3 E3 D3 KR3 KT3)
    | (refine ld_at rfl 77 (.tmp 6) rfl w2.heap.size 0 (by rfl) 77 [] [.int .u32 u0,.int .u32 u1,.int .u32 u2,.int .u32 u3,.int .u32 u4,.int .u32 u5,.int .u32 u6,.int .u32 u7,.int .u32 u8,.int .u32 u9,.int .u32 u10] [] D4.out rfl Tryz.isAgg77 Tryz.sizeOf77 ?_)
    | (refine st_at rfl 77 (.tmp 16) (.tmp 15) rfl rfl w.heap.size 0 82 [] [.int .u32 v0,.int .u32 v1,.int .u32 v2,.int .u32 v3,.int .u32 v4,.int .u32 v5,.int .u32 v6,.int .u32 v7,.int .u32 v8,.int .u32 v9,.int .u32 v10] [.int .u32 u0,.int .u32 u1,.int .u32 u2,.int .u32 u3,.int .u32 u4,.int .u32 u5,.int .u32 u6,.int .u32 u7,.int .u32 u8,.int .u32 u9,.int .u32 u10] [.slice RA rep.length rc,.int .i64 tk,.slice TB tr.length tb,.bool ov,.int .u32 cd,.int .i64 0,.int .i64 wh] (by rfl) (by rfl) K4.out.b rfl rfl Tryz.sizeOf77 (by simp [Value.oneCell']) ?_;intro A5 b5 c5;replace b5:HasB A5 w.heap.size 82 [.int .u32 u0,.int .u32 u1,.int .u32 u2,.int .u32 u3,.int .u32 u4,.int .u32 u5,.int .u32 u6,.int .u32 u7,.int .u32 u8,.int .u32 u9,.int .u32 u10,.slice RA rep.length rc,.int .i64 tk,.slice TB tr.length tb,.bool ov,.int .u32 cd,.int .i64 0,.int .i64 wh]:=b5;have K5:=Lib.hid (K4.out.chgB c5 b5);have E5:=Lib.hid (E4.out.chg c5 (by omega) (by omega));have KR5:=Lib.hid (KR4.out.off c5 (OFFRB.out));have KT5:=Lib.hid (KT4.out.set K4.out.b (fun h=>HOFF.out h _ (Nat.le_refl _)) c5);have o0:=E5.out.cell 0;have o1:=E5.out.cell 1;simp only [List.getElem?_cons_succ,List.getElem?_cons_zero] at o0 o1;clear c5 b5 K4 E4 D4 KR4 KT4))
  by_cases hq0:qw=0
  · subst hq0
    obtain rfl:=Q0.out rfl
    rw [if_neg (by decide)] at haf
    subst haf
    clear Q2 QE IXN
    as_aux_lemma=>
      go_wp2_with (first
        | (refine ld_at rfl 82 (.tmp 2) rfl w.heap.size 0 (by rfl) 82 [] [.int .u32 u0,.int .u32 u1,.int .u32 u2,.int .u32 u3,.int .u32 u4,.int .u32 u5,.int .u32 u6,.int .u32 u7,.int .u32 u8,.int .u32 u9,.int .u32 u10,.slice RA rep.length rc,.int .i64 tk,.slice TB tr.length tb,.bool ov,.int .u32 cd,.int .i64 0,.int .i64 wh] [] K5.out.b rfl Tryz.isAgg82 Tryz.sizeOf82 ?_)
        | (refine st_at rfl 82 (.tmp 4) (.tmp 21) rfl rfl (w.heap.size+1) 0 82 [] [.int .u32 0,.int .u32 0,.int .u32 0,.int .u32 0,.int .u32 0,.int .u32 0,.int .u32 0,.int .u32 0,.int .u32 0,.int .u32 0,.int .u32 0,.slice none 0 0,.int .i64 0,.slice none 0 0,.bool false,.int .u32 0,.int .i64 0,.int .i64 0] [.int .u32 u0,.int .u32 u1,.int .u32 u2,.int .u32 u3,.int .u32 u4,.int .u32 u5,.int .u32 u6,.int .u32 u7,.int .u32 u8,.int .u32 u9,.int .u32 u10,.slice RA rep.length rc,.int .i64 tk,.slice TB tr.length tb,.bool ov,.int .u32 cd,.int .i64 0,.int .i64 wh] [] (by rfl) (by rfl) K5.out.r_ rfl rfl Tryz.sizeOf82 (by simp [Value.oneCell']) ?_;intro W9 r1 c1;replace r1:HasB W9 (w.heap.size+1) 82 [.int .u32 u0,.int .u32 u1,.int .u32 u2,.int .u32 u3,.int .u32 u4,.int .u32 u5,.int .u32 u6,.int .u32 u7,.int .u32 u8,.int .u32 u9,.int .u32 u10,.slice RA rep.length rc,.int .i64 tk,.slice TB tr.length tb,.bool ov,.int .u32 cd,.int .i64 0,.int .i64 wh]:=r1))
      (try simp only [Act.put,lsA,lsZ,lsS])
      have V:=loadvar_has r1 rfl Tryz.underlying82 (by kernel_rfl)
      refine bodyPost_ret (v:=.tuple #[.agg #[.int .u32 u0,.int .u32 u1,.int .u32 u2,.int .u32 u3,.int .u32 u4,.int .u32 u5,.int .u32 u6,.int .u32 u7,.int .u32 u8,.int .u32 u9,.int .u32 u10,.slice RA rep.length rc,.int .i64 tk,.slice TB tr.length tb,.bool ov,.int .u32 cd,.int .i64 0,.int .i64 wh],.int .i64 (-1)]) (by simp [results,Tryz.results59,asaddr_run,V]) rfl ?_
      have KC:=K5.out.chgR c1
      exact ⟨TB,tb,r,rfl,KC.1,KT5.out.set K5.out.r_ (fun h=>HOFF.out h _ (by omega)) c1,(fun h=>⟨h,rfl,rfl⟩),KC.2⟩
  · have q0:(qw == 0)=false:=by simpa using hq0
    by_cases hq2:qw=2
    · subst hq2
      rw [if_pos rfl] at haf
      subst haf
      have AC:=fun w' (hw:Below A5.heap.size A5 w')=>ask_any DC ⟨u0,[u1,u2,u3,u4,u5,u6,u7,u8],u9,u10⟩ ⟨rep,tk,tr,ov,cd⟩ 0 wh qg SO1.out ⟨IX.out.ok.rep,by have:=IX.out.tr;simp only at this ⊢;omega,by have:=IX.out.ok.tk;have h2:=IX.out.ok.rep;simp only at this h2 ⊢;omega,IX.out.ok.cd⟩ (by have:=QG.out;(try simp only at this);omega) base r p g h qB T w' RA rc TB tb
        (K5.out.m.below hw) K5.out.l (by have:=K5.out.lt;have:=hw.size;omega) (KR5.out.below hw) HR.out (KT5.out.below hw) x'.1 (by have:=Q2.out rfl;rw [this]) IXN.out.ok.c (by have:=IX.out.tr;simp only at this ⊢;omega)
      have Q2B:x'.2=qB:=by have:=Q2.out rfl;rw [this]
      have ASK:Hid (Calls Tryz.prog 76 #[.agg #[.int .u32 u0,.int .u32 u1,.int .u32 u2,.int .u32 u3,.int .u32 u4,.int .u32 u5,.int .u32 u6,.int .u32 u7,.int .u32 u8,.int .u32 u9,.int .u32 u10,.slice RA rep.length rc,.int .i64 tk,.slice TB tr.length tb,.bool ov,.int .u32 cd,.int .i64 0,.int .i64 wh],.pointer (some ⟨p,0,none⟩),.int .i64 qg] A5.drew fun e w'=>∃ TB' tb' r',e=.returned (x'.1.val RA rc TB' tb')∧TrI base r' w' TB' tb' x'.1.W.tr∧(r'=none→r=none∧TB'=TB∧x'.1.W.tr=tr)∧A5.drew.grownBy w' r):=Lib.hid (AC A5.drew (Below.refl _ _).drew)
      have K5D:=Lib.hid (K5.out.below (Below.refl _ _).drew)
      have E5D:=Lib.hid (E5.out.below (Below.refl _ _).drew)
      have o1D:=Lib.hid (E5D.out.cell 1)
      simp only [List.getElem?_cons_succ,List.getElem?_cons_zero] at o1D
      have XL:∀ A c,(x'.1.cs RA rc A c).length=18∧∀ v∈x'.1.cs RA rc A c,v.oneCell'=true:=fun A c=>bx_len IXN.out.ok.c _ _ _ _
      clear AC Q0 QE
      go_upto_region 7 with fail
      refine wp_region_noPanic ?_
      refine wp_region_held_drew (S:=(fun w'=>HasB w' w.heap.size 82 [.int .u32 u0,.int .u32 u1,.int .u32 u2,.int .u32 u3,.int .u32 u4,.int .u32 u5,.int .u32 u6,.int .u32 u7,.int .u32 u8,.int .u32 u9,.int .u32 u10,.slice RA rep.length rc,.int .i64 tk,.slice TB tr.length tb,.bool ov,.int .u32 cd,.int .i64 0,.int .i64 wh]∧w'.cell? ⟨w2.heap.size+1,1,none⟩=some (.int .i64 qg))) (by kernel_rfl) ?_ (fun hHeld=>?_)
      · (try dsimp only)
        exact ⟨K5D.out.b,o1D.out⟩
      refine wpAnyH_take (i:=0) (oi:={ dst:=some 24,op:=Op.load 82 (Operand.tmp 2),type:=82,pos:= "box.go:91",after:=#[],guard:=none }) (v:=?_) rfl (by kernel_rfl) (by kernel_rfl) (by kernel_rfl) (fun _ _ _ h=>h) (Or.inl ⟨by rfl,?_⟩) (by assumption) ?_
      rotate_left
      · intro w9 hSw;(try dsimp only at hSw);refine exec_load_has 82 (.tmp 2) ?_ w.heap.size ?_ hSw.1 ?_ Tryz.underlying82 ?_ <;> first | rfl | kernel_rfl
      (try simp only [Act.put,lsA,lsZ,lsS])
      refine wT 1 ?_
      refine wT 2 ?_
      refine wT 3 ?_
      refine wT 5 ?_
      refine wT 6 ?_
      refine wpAnyH_ready (rs:=[4]) (by kernel_rfl) (by simp) ?_
      refine rC (fun K hK=>?_) ?_
      · go_simp
        (with_reducible refine (ASK.out).mono ?_)
        rintro e w6 ⟨TB',tb',r',rfl,t6,hn6,gr6⟩
        have K6:=K5D.out.b.grown gr6 (fun e=>RNE.out _ (Nat.le_refl _) e.symm)
        have R6:=K5D.out.r_.grown gr6 (fun e=>RNE.out _ (by omega) e.symm)
        have o6:=(E5D.out.grown gr6 (fun e=>RNE.out _ (by omega) e.symm)).cell 1
        simp only [List.getElem?_cons_succ,List.getElem?_cons_zero] at o6
        have GM:=Lib.hid (K5D.out.m.belowB (Below.ofGrown gr6 (by have:=K5D.out.lt;omega) (fun k hk=>(HLIM.out k hk).1)) K5D.out.l)
        have GC:=Lib.hid (K5D.out.c.trans (.ofBelow (Below.ofGrown gr6 (by have:=K5D.out.lt;omega) (fun k hk=>(HLIM.out k hk).1))))
        have T6:=Lib.hid t6
        have HN6:=Lib.hid hn6
        have lt6:A5.heap.size≤w6.heap.size:=gr6.size
        clear t6 hn6 gr6
        refine hK.out _ _ ?_ (fun hHeld=>?_)
        · (try dsimp only)
          exact ⟨K6,o6⟩
        clear hK K
        (try simp only [Act.put,lsA,lsZ,lsS])
        refine wpAnyH_ready (rs:=[7]) (by kernel_rfl) (by simp) ?_
        refine rC (fun K hK=>?_) ?_
        · (refine st_has 82 (.tmp 4) (.tmp 28) rfl rfl (w.heap.size+1) [.int .u32 0,.int .u32 0,.int .u32 0,.int .u32 0,.int .u32 0,.int .u32 0,.int .u32 0,.int .u32 0,.int .u32 0,.int .u32 0,.int .u32 0,.slice none 0 0,.int .i64 0,.slice none 0 0,.bool false,.int .u32 0,.int .i64 0,.int .i64 0] (x'.1.cs RA rc TB' tb') rfl rfl R6 (by rw [(XL _ _).1];rfl) (by rw [(XL _ _).1];exact box_size) (XL _ _).2 ?_;intro W9 r1 c1;have o9:=(cell_chg c1 (p:=⟨w2.heap.size+1,1,none⟩) (by show w2.heap.size+1 < _;have:=E5.out.lt;omega) (by show w2.heap.size+1≠_;omega) (by show w2.heap.size+1≠_;omega)).trans o6;have K9:=K6.chg c1 (by omega) (by omega))
          refine hK.out _ _ ?_ (fun hHeld=>?_)
          · (try dsimp only)
            exact ⟨K9,o9⟩
          clear hK K
          (try simp only [Act.put,lsA,lsZ,lsS])
          refine wT 8 ?_
          refine wpAnyH_done (by kernel_rfl) ?_ _
          refine NoPanic.normal ?_
          go_wp2_with fail
          have V:=loadvar_has r1 rfl Tryz.underlying82 (by rw [(XL _ _).1];kernel_rfl)
          refine bodyPost_ret (v:=.tuple #[x'.1.val RA rc TB' tb',.int .i64 qg]) (by simp [results,Tryz.results59,asaddr_run,V];rfl) rfl ?_
          exact ⟨TB',tb',r',rfl,Q2B ▸ GM.out.chg c1 (by have:=K5.out.l;omega) (by have:=K5.out.l;omega) (by have:=K5.out.l;omega) (by have:=K5.out.l;omega) (by have:=K5.out.l;omega) (by have:=K5.out.l;omega),T6.out.set R6 (fun h=>by obtain ⟨a1,a2,a3⟩:=HN6.out h;rw [a2,a3];exact HOFF.out a1 _ (by omega)) c1,HN6.out,GC.out.trans (.ofBelow (Below.ofNew c1 (by have:=K5.out.lt;omega) (by omega)))⟩
        exact AllReadyH.nil
      exact AllReadyH.nil
    · have q2:(qw == 2)=false:=by simpa using hq2
      rw [if_neg hq2] at haf
      subst haf
      obtain rfl:=QE.out hq0 hq2
      clear Q0 Q2 IXN
      obtain ⟨A6,e6,k6,c6⟩:=K5.out.setB 16 (.int .i64 2)
      obtain ⟨A7,e7,k7,c7⟩:=k6.setB 17 (.int .i64 qw)
      have y16:=K5.out.b.cell 16
      have yf16:=K5.out.b.frozen 16
      have x17:=k6.b.cell 17
      have xf17:=k6.b.frozen 17
      have o6:=(E5.out.chg c6 (by omega) (by omega)).cell 0
      simp only [List.set_cons_zero,List.set_cons_succ,List.getElem?_cons_succ,List.getElem?_cons_zero] at k6 k7 x17 y16 o6
      have KD:=Lib.hid (k7.below (Below.refl _ A7).drew)
      have KTD:=Lib.hid (((KT5.out.set K5.out.b (fun h=>HOFF.out h _ (Nat.le_refl _)) c6).set k6.b (fun h=>HOFF.out h _ (Nat.le_refl _)) c7).below (Below.refl _ A7).drew)
      clear k6 k7 c6 c7 K5 KR5 KT5
      as_aux_lemma=>
        go_upto_region 8 with fail
        go_region
        all_goals (
          go_wp2_with (first
            | (refine ld_at rfl 82 (.tmp 2) rfl w.heap.size 0 (by rfl) 82 [] [.int .u32 u0,.int .u32 u1,.int .u32 u2,.int .u32 u3,.int .u32 u4,.int .u32 u5,.int .u32 u6,.int .u32 u7,.int .u32 u8,.int .u32 u9,.int .u32 u10,.slice RA rep.length rc,.int .i64 tk,.slice TB tr.length tb,.bool ov,.int .u32 cd,.int .i64 2,.int .i64 qw] [] KD.out.b rfl Tryz.isAgg82 Tryz.sizeOf82 ?_)
            | (refine st_at rfl 82 (.tmp 4) (.tmp 35) rfl rfl (w.heap.size+1) 0 82 [] [.int .u32 0,.int .u32 0,.int .u32 0,.int .u32 0,.int .u32 0,.int .u32 0,.int .u32 0,.int .u32 0,.int .u32 0,.int .u32 0,.int .u32 0,.slice none 0 0,.int .i64 0,.slice none 0 0,.bool false,.int .u32 0,.int .i64 0,.int .i64 0] [.int .u32 u0,.int .u32 u1,.int .u32 u2,.int .u32 u3,.int .u32 u4,.int .u32 u5,.int .u32 u6,.int .u32 u7,.int .u32 u8,.int .u32 u9,.int .u32 u10,.slice RA rep.length rc,.int .i64 tk,.slice TB tr.length tb,.bool ov,.int .u32 cd,.int .i64 2,.int .i64 qw] [] (by rfl) (by rfl) KD.out.r_ rfl rfl Tryz.sizeOf82 (by simp [Value.oneCell']) ?_;intro W9 r1 c1;replace r1:HasB W9 (w.heap.size+1) 82 [.int .u32 u0,.int .u32 u1,.int .u32 u2,.int .u32 u3,.int .u32 u4,.int .u32 u5,.int .u32 u6,.int .u32 u7,.int .u32 u8,.int .u32 u9,.int .u32 u10,.slice RA rep.length rc,.int .i64 tk,.slice TB tr.length tb,.bool ov,.int .u32 cd,.int .i64 2,.int .i64 qw]:=r1))
          (try simp only [Act.put,lsA,lsZ,lsS])
          have V:=loadvar_has r1 rfl Tryz.underlying82 (by kernel_rfl)
          refine bodyPost_ret (v:=.tuple #[.agg #[.int .u32 u0,.int .u32 u1,.int .u32 u2,.int .u32 u3,.int .u32 u4,.int .u32 u5,.int .u32 u6,.int .u32 u7,.int .u32 u8,.int .u32 u9,.int .u32 u10,.slice RA rep.length rc,.int .i64 tk,.slice TB tr.length tb,.bool ov,.int .u32 cd,.int .i64 2,.int .i64 qw],.int .i64 (-1)]) (by simp [results,Tryz.results59,asaddr_run,V]) rfl ?_
          have KC:=KD.out.chgR c1
          exact ⟨TB,tb,r,rfl,KC.1,KTD.out.set KD.out.r_ (fun h=>HOFF.out h _ (by omega)) c1,(fun h=>⟨h,rfl,rfl⟩),KC.2⟩)
structure SsS (w:World) (p g h:Nat) (T:List Bool) (cs:List Value) (B:List Int) (W:World):Prop where
  b:HasB W w.heap.size 82 cs
  r:HasB W (w.heap.size+1) 82 [.int .u32 0,.int .u32 0,.int .u32 0,.int .u32 0,.int .u32 0,.int .u32 0,.int .u32 0,.int .u32 0,.int .u32 0,.int .u32 0,.int .u32 0,.slice none 0 0,.int .i64 0,.slice none 0 0,.bool false,.int .u32 0,.int .i64 0,.int .i64 0]
  m:MemAt W p g h B T
  c:Chg g g w W
  l:p < w.heap.size∧g < w.heap.size∧h < w.heap.size
theorem Chg.andBelow {g:Nat} {w W W':World} (c:Chg g g w W) (b:Below W.heap.size W W'):Chg g g w W':=
  ⟨b.os.trans c.os,b.tape.trans c.tape,b.output.trans c.output,Nat.le_trans c.size b.size,fun k hk h1 h2=>(b.block k (Nat.lt_of_lt_of_le hk c.size)).trans (c.block k hk h1 h2)⟩
theorem Chg.andNew {g j:Nat} {w W W':World} (c:Chg g g w W) (d:Chg j j W W') (hj:w.heap.size≤j):Chg g g w W':=
  ⟨d.os.trans c.os,d.tape.trans c.tape,d.output.trans c.output,Nat.le_trans c.size d.size,fun k hk h1 h2=>(d.block k (Nat.lt_of_lt_of_le hk c.size) (by omega) (by omega)).trans (c.block k hk h1 h2)⟩
theorem Chg.andG {g:Nat} {w W W':World} (c:Chg g g w W) (d:Chg g g W W'):Chg g g w W':=
  ⟨d.os.trans c.os,d.tape.trans c.tape,d.output.trans c.output,Nat.le_trans c.size d.size,fun k hk h1 h2=>(d.block k (Nat.lt_of_lt_of_le hk c.size) h1 h2).trans (c.block k hk h1 h2)⟩
theorem SsS.lt {w W:World} {p g h:Nat} {T:List Bool} {cs:List Value} {B:List Int} (k:SsS w p g h T cs B W):w.heap.size+2≤W.heap.size:=by have:=k.r.lt;omega
theorem SsS.chgB {w W W':World} {p g h:Nat} {T:List Bool} {cs ds:List Value} {B:List Int} (k:SsS w p g h T cs B W) (c:Chg w.heap.size w.heap.size W W') (b:HasB W' w.heap.size 82 ds):SsS w p g h T ds B W':=
  ⟨b,k.r.chg c (by omega) (by omega),k.m.chg c (by have:=k.l;omega) (by have:=k.l;omega) (by have:=k.l;omega) (by have:=k.l;omega) (by have:=k.l;omega) (by have:=k.l;omega),k.c.andNew c (Nat.le_refl _),k.l⟩
theorem SsS.setB {w W:World} {p g h:Nat} {T:List Bool} {cs:List Value} {B:List Int} (k:SsS w p g h T cs B W) (i:Nat) (v:Value) :
    ∃ W',W.setCell ⟨w.heap.size,i,none⟩ v=W'∧SsS w p g h T (cs.set i v) B W'∧Chg w.heap.size w.heap.size W W':=by
  have c:Chg w.heap.size w.heap.size W (W.setCell ⟨w.heap.size,i,none⟩ v):=chg_set (Chg.refl _ _ _) _ (.inl rfl) _ _
  exact ⟨_,rfl,k.chgB c (has_set k.b i v),c⟩
theorem clip_code (A:Option Addr) (cap n:Nat) (hn:n≤cap) (hc:cap≤maxLen) (w:World):Calls Tryz.prog 58 #[.slice A n cap] w fun e w'=>e=.returned (.slice A n n)∧w=w':=by
  have hbase:A=none∨∃ p,A=some p:=by cases A;exact .inl rfl;exact .inr ⟨_,rfl⟩
  have hm:n≤maxLen:=Nat.le_trans hn hc
  unfold maxLen at hm hc
  go_enter Tryz.func58,Tryz.ntmps58
  go_wp2
  go_ret
  exact ⟨rfl,rfl⟩
theorem KRow.belowG {base g:Nat} {k:IntKind} {w w':World} {A:Option Addr} {cap:Nat} {l:List Int} (r:KRow k w A cap l) (b:ChB base g w w') (hl:l=[]∨∀ x,A=some x→x.block < base) (hg:l=[]∨Off A g):KRow k w' A cap l:=by
  obtain ⟨r1,r2,r3,r4⟩:=r
  refine ⟨r1,r2,r3,fun hn=>?_⟩
  obtain ⟨p,hp,hb,hc⟩:=r4 hn
  have hlt:=(hl.resolve_left hn) p hp
  have hne:=(hg.resolve_left hn) p hp
  exact ⟨p,hp,Nat.lt_of_lt_of_le hb b.size,fun i hi=>(World.cell?_of_block (b.block _ (by rw [block_add];exact hlt) (by rw [block_add];exact hne))).trans (hc i hi)⟩
theorem offL_tr {base:Nat} {r:Option Nat} {w0 w:World} {TA TB:Option Addr} {tb:Nat} {L0 L:List Ev} (t:TrI base r w TB tb L) (e:r=none→TB=TA∧L=L0) (hb:w0.heap.size≤base):OffL w0 L0 TA L TB:=by
  intro j hj h
  rcases t.own with ⟨_,hr⟩ | ⟨⟨_,ho⟩,hr⟩
  · obtain ⟨rfl,rfl⟩:=e hr;exact h
  · rcases ho with ⟨e2,_⟩ | ⟨g,c,cur,e2,hg,_⟩
    · rw [e2] at hr
      obtain ⟨rfl,rfl⟩:=e hr;exact h
    · injection e2 with a1 a2 a3
      exact .inr (fun x hx=>by rw [a1] at hx;cases hx;show g≠j;omega)
structure SlJ (w:World) (p g h:Nat) (T:List Bool) (N n0:Nat) (x0:Bx) (B0:List Int) (RA:Option Addr) (rc:Nat) (TA:Option Addr) (k:Nat) (x:Bx) (B:List Int) (TB:Option Addr) (tb:Nat) (r:Option Nat) (af:Int) (W:World):Prop where
  ss:SsS w p g h T (x.cs RA rc TB tb) B W
  kN:k≤N
  sg:af≠4→SlG T N x0 B0 k x B
  se:af=4→slF T N x0 B0=(x,B,k)
  ix:BxI T x0.c.b.toNat (x0.c.b.toNat+x0.c.s.toNat) (n0+k) x B
  rr:KRow .u32 W RA rc x.W.rep
  er:x.W.rep=x0.W.rep
  tt:TrI (w.heap.size+2) r W TB tb x.W.tr
  et:r=none→TB=TA∧x.W.tr=x0.W.tr
theorem bx16 {x:Bx} (o:x.c.Ok) (RA:Option Addr) (rc:Nat) (TA:Option Addr) (tc:Nat):(x.cs RA rc TA tc)[16]?=some (.int .i64 x.is):=by
  obtain ⟨v0,v1,v2,v3,v4,v5,v6,v7,v8,v9,v10,h1,h2⟩:=bx_cs o
  rw [h2];rfl
theorem slG_ask {T:List Bool} {N:Nat} {x0:Bx} {B0:List Int} {k:Nat} {x:Bx} {B:List Int} (h:SlG T N x0 B0 k x B) (hk:k < N) (hx:x.is=0):(askF T x B≠4→SlG T N x0 B0 (k+1) (bxS T x B).1 (bxS T x B).2)∧(askF T x B=4→slF T N x0 B0=((bxS T x B).1,(bxS T x B).2,k+1)):=by
  have e:yldB T x B=true↔askF T x B=4:=by
    unfold yldB askF
    rw [Bool.and_eq_true,beq_iff_eq,beq_iff_eq]
    by_cases h2:(stF x.c B T).what=2
    · rw [if_pos h2];exact ⟨fun h=>h.2,fun h=>⟨h2,h⟩⟩
    · rw [if_neg h2];exact ⟨fun h=>absurd h.1 h2,fun h=>by omega⟩
  refine ⟨fun h4=>slG_step h hk hx ?_,fun h4=>slG_yld h hk hx (e.2 h4)⟩
  cases hy:yldB T x B
  · rfl
  · exact absurd (e.1 hy) h4
set_option maxRecDepth 100000 in
set_option maxHeartbeats 8000000 in
theorem slice_code (DC:Hid DoGC2):SliceC2:=by
  intro x0 n p g h B0 T w RA rc TA tc ox ht hn m rR rT
  have IB:∀ l:List Value,l.length=18→(Tryz.prog.info? 82).map (·.size)=some l.length:=fun l h=>by rw [h];exact box_size
  obtain ⟨w0,w1,w2,w3,w4,w5,w6,w7,w8,w9,w10,hc11,hcs⟩:=bx_cs ox.c
  obtain ⟨N,hN⟩:∃ N,n.toNat=N:=⟨_,rfl⟩
  rw [hN]
  obtain ⟨n0,hn0'⟩:∃ n0,x0.W.tr.length=n0:=⟨_,rfl⟩
  have hn0:=Lib.hid hn0'
  have hn00:n0≤50000:=by omega
  clear hn0'
  obtain ⟨r,hr⟩:∃ r,slF T N x0 B0=r:=⟨_,rfl⟩
  rw [hr]
  have HRES:=Lib.hid hr
  have RR:=Lib.hid rR
  have RT:=Lib.hid rT
  have hl:p < w.heap.size∧g < w.heap.size∧h < w.heap.size:=⟨m.own.lt,m.bytes.lt,m.zones.lt⟩
  obtain ⟨W0,e0,k0⟩:∃ W0,(w.alloc (.cells (x0.cs RA rc TA tc).toArray 82)).alloc (.cells #[.int .u32 0,.int .u32 0,.int .u32 0,.int .u32 0,.int .u32 0,.int .u32 0,.int .u32 0,.int .u32 0,.int .u32 0,.int .u32 0,.int .u32 0,.slice none 0 0,.int .i64 0,.slice none 0 0,.bool false,.int .u32 0,.int .i64 0,.int .i64 0] 82)=W0∧SsS w p g h T (x0.cs RA rc TA tc) B0 W0:=
    ⟨_,rfl,⟨(HasB.new w 82 (x0.cs RA rc TA tc)).al _,HasB.newAt _ _ _ #[.int .u32 0,.int .u32 0,.int .u32 0,.int .u32 0,.int .u32 0,.int .u32 0,.int .u32 0,.int .u32 0,.int .u32 0,.int .u32 0,.int .u32 0,.slice none 0 0,.int .i64 0,.slice none 0 0,.bool false,.int .u32 0,.int .i64 0,.int .i64 0] (by simp),m.below (bel_al (bel_al (Below.refl _ _) _) _),(Chg.refl _ _ _:Chg g g w w).andBelow (bel_al (bel_al (Below.refl _ _) _) _),hl⟩⟩
  have BW:Below w.heap.size w W0:=by rw [← e0];exact bel_al (bel_al (Below.refl _ _) _) _
  have CL:=Lib.hid (clip_code TA tc x0.W.tr.length rT.1 rT.2.1)
  obtain ⟨W1,e1,k1,c1⟩:=k0.setB 13 (.slice TA x0.W.tr.length x0.W.tr.length)
  rw [hcs] at k0 k1 e0
  have p13:=k0.b.cell 13
  have f13:=k0.b.frozen 13
  simp only [List.getElem?_cons_succ,List.getElem?_cons_zero,List.set_cons_zero,List.set_cons_succ] at p13 k1
  have rT1:EvRow W1 TA tc x0.W.tr:=(rT.below BW).off c1 (rT.offNew (Nat.le_refl _))
  have START:Hid (SlJ w p g h T N n0 x0 B0 RA rc TA 0 x0 B0 TA x0.W.tr.length none (-1) W1):=Lib.hid ⟨by rw [hcs];exact k1,Nat.zero_le _,fun _=>slG_0 _ _ _ _,fun h=>by omega,i_of ox m.byte m.len (by rw [hn0.out];omega),
    (rR.below BW).off c1 (rR.offNew (Nat.le_refl _)),rfl,⟨⟨Nat.le_refl _,Nat.le_trans rT1.1 rT1.2.1,rT1.2.2.1,rT1.2.2.2⟩,.inl ⟨rfl,rfl⟩⟩,fun _=>⟨rfl,rfl⟩⟩
  clear hr rR rT m k0 k1 c1 BW rT1
  unfold Bx.val
  rw [hcs]
  clear hcs
  go_enter Tryz.func34,Tryz.ntmps34
  go_wp2_with fail
  refine wp_scope_once 0 (fun a' w'=>∃ (k:Nat) (x:Bx) (B:List Int) (TB:Option Addr) (tb:Nat) (r:Option Nat) (af:Int) (t10 t11 t12 t13 t14 t15 t16 t17 t18 t19 t20 t21 t22 t23 t24 t25 t26 t27 t28 t29 t30 t31 t32 t33 t34 t35 t36 t37:Value),a'={ tmps:=#[.pointer (some ⟨p,0,none⟩),.agg #[.int .u32 w0,.int .u32 w1,.int .u32 w2,.int .u32 w3,.int .u32 w4,.int .u32 w5,.int .u32 w6,.int .u32 w7,.int .u32 w8,.int .u32 w9,.int .u32 w10,.slice RA x0.W.rep.length rc,.int .i64 x0.W.tk,.slice TA x0.W.tr.length tc,.bool x0.W.ov,.int .u32 x0.W.cd,.int .i64 x0.is,.int .i64 x0.wh],.int .i64 n,undef,.pointer (some ⟨w.heap.size,0,none⟩),undef,.pointer (some ⟨w.heap.size+1,0,none⟩),.int .i64 0,.int .i64 k,.int .i64 af,t10,t11,t12,t13,t14,t15,t16,t17,t18,t19,t20,t21,t22,t23,t24,t25,t26,t27,t28,t29,t30,t31,t32,t33,t34,t35,t36,t37],defers:=[] }∧SlJ w p g h T N n0 x0 B0 RA rc TA k x B TB tb r af w') (fun a' _=>(n - intOf (a'.tmps.getD 8 undef)).toNat) rfl ?_ ?_
  · intro PASS
    go_wp2_with fail
    refine (CL.out _).mono ?_;rintro e w' ⟨rfl,rfl⟩
    go_wp2_with fail
    go_step3
    rename_i Q9 K9 h9
    exact h9 _ _ (PASS _ _ ⟨0,x0,B0,TA,x0.W.tr.length,none,-1,_,_,_,_,_,_,_,_,_,_,_,_,_,_,_,_,_,_,_,_,_,_,_,_,_,_,_,_,rfl,START.out⟩)
  · rintro a' wr ⟨k,x,B,TB,tb,r',af,t10,t11,t12,t13,t14,t15,t16,t17,t18,t19,t20,t21,t22,t23,t24,t25,t26,t27,t28,t29,t30,t31,t32,t33,t34,t35,t36,t37,rfl,KJ⟩
    clear START e0 e1
    obtain ⟨KS,hk,SG,SE,IX,KR,ER,TT,ET⟩:=KJ
    have OFFR:∀ j,w.heap.size≤j→x.W.rep=[]∨Off RA j:=fun j hj=>by rw [ER];exact RR.out.offNew hj
    have OFFT:r'=none→∀ j,w.heap.size≤j→x.W.tr=[]∨Off TB j:=fun h j hj=>by
      obtain ⟨rfl,h2⟩:=ET h
      rw [h2];exact RT.out.offNew hj
    have LEN:=Lib.hid (bx_len IX.ok.c RA rc TB tb)
    have p16:=KS.b.cell 16
    rw [bx16 IX.ok.c] at p16
    replace KS:=Lib.hid KS
    replace SG:=Lib.hid SG
    replace SE:=Lib.hid SE
    replace IX:=Lib.hid IX
    replace KR:=Lib.hid KR
    replace ER:=Lib.hid ER
    replace TT:=Lib.hid TT
    replace ET:=Lib.hid ET
    replace OFFR:=Lib.hid OFFR
    replace OFFT:=Lib.hid OFFT
    by_cases he:x.is≠0∨af=4∨n≤(k:Int)
    · have FIN:r=(x,B,k):=by
        refine HRES.out.symm.trans ?_
        by_cases h4:af=4
        · exact SE.out h4
        · rcases he with h | h | h
          · exact slG_end (SG.out h4) (.inr h) hk
          · exact absurd h h4
          · exact slG_end (SG.out h4) (.inl (by omega)) hk
      have he':((x.is != 0)=true)∨((x.is != 0)=false∧(af == 4)=true)∨((x.is != 0)=false∧(af == 4)=false∧decide (n≤(k:Int))=true):=by
        by_cases h0:x.is=0
        · by_cases h4:af=4
          · exact .inr (.inl ⟨by simpa using h0,by simpa using h4⟩)
          · exact .inr (.inr ⟨by simpa using h0,by simpa using h4,decide_eq_true (by rcases he with h | h | h;exact absurd h0 h;exact absurd h h4;exact h)⟩)
        · exact .inl (by simpa using h0)
      clear he
      subst FIN
      obtain ⟨is,his⟩:∃ is,x.is=is:=⟨_,rfl⟩
      rw [his] at p16 he'
      generalize hcs:x.cs RA rc TB tb=cs at *
      rcases he' with hq | ⟨hq,hq2⟩ | ⟨hq,hq2,hq3⟩
      all_goals as_aux_lemma=>
        go_wp2_with (first
          | (refine ld_any rfl 82 (.tmp 4) rfl (w.heap.size) (by rfl) cs KS.out.b rfl Tryz.underlying82 (IB _ LEN.out.1) ?_)
          | (refine st_any rfl 82 (.tmp 6) (.tmp 28) rfl rfl (w.heap.size+1) [.int .u32 0,.int .u32 0,.int .u32 0,.int .u32 0,.int .u32 0,.int .u32 0,.int .u32 0,.int .u32 0,.int .u32 0,.int .u32 0,.int .u32 0,.slice none 0 0,.int .i64 0,.slice none 0 0,.bool false,.int .u32 0,.int .i64 0,.int .i64 0] cs (by rfl) (by rfl) KS.out.r (by rw [LEN.out.1];rfl) (IB _ LEN.out.1) LEN.out.2 ?_;intro W1 r1 c1))
        try simp only [Exit.jump]
        have V:=loadvar_has r1 rfl Tryz.underlying82 (IB _ LEN.out.1)
        refine bodyPost_ret (v:=.tuple #[.agg cs.toArray,.int .i64 k]) (by simp [results,Tryz.results34,asaddr_run,V]) rfl ?_
        subst hcs
        have lt2:=KS.out.l
        exact ⟨RA,rc,TB,tb,rfl,KR.out.off c1 (OFFR.out _ (by omega)),(TT.out.set KS.out.r (fun h=>OFFT.out h _ (by omega)) c1).row,KS.out.m.chg c1 (by omega) (by omega) (by omega) (by omega) (by omega) (by omega),KS.out.c.andNew c1 (by omega),fun j hj h=>by rw [show x.W.rep=x0.W.rep from ER.out];exact h,
          offL_tr TT.out ET.out (by omega)⟩
    · have hi:x.is=0:=Classical.byContradiction (fun h=>he (.inl h))
      have h4:af≠4:=fun h=>he (.inr (.inl h))
      have h4b:(af == 4)=false:=by simpa using h4
      have hkn:decide (n≤(k:Int))=false:=decide_eq_false (fun h=>he (.inr (.inr h)))
      have hkN:k < N:=by have:=fun h=>he (.inr (.inr h));omega
      have hkb:(k:Int) < 20000:=by have:=fun h=>he (.inr (.inr h));omega
      clear he
      rw [hi] at p16
      have SGN:=Lib.hid (slG_ask (SG.out h4) hkN hi)
      have IXN:=Lib.hid (bxS_i IX.out hi)
      have REP:(bxS T x B).1.W.rep=x.W.rep:=bxS_rep _ _ _
      have lt2:=KS.out.l
      have STP:=Lib.hid (stp_any DC T x B _ _ _ IX.out hi (by omega) (w.heap.size+2) r' p g h wr RA rc TB tb KS.out.m (by omega) KS.out.lt KR.out (by rw [ER.out];by_cases hre:x0.W.rep=[];exact .inl hre;exact .inr (fun a ha=>by obtain ⟨z,hz,hlt,_⟩:=RR.out.2.2.2 hre;rw [hz] at ha;cases ha;omega)) TT.out)
      unfold StP at STP
      generalize bxS T x B=q at *
      obtain ⟨y,qB⟩:=q
      generalize askF T x B=aq at *
      simp only at SGN IXN REP STP
      have LENY:=Lib.hid (fun A c=>bx_len IXN.out.ok.c RA rc A c)
      unfold Bx.val at STP
      generalize hcs:x.cs RA rc TB tb=cs at *
      have KSH:=KS
      go_wp2_with (first
        | (refine ld_any rfl 82 (.tmp 4) rfl (w.heap.size) (by rfl) cs KS.out.b rfl Tryz.underlying82 (IB _ LEN.out.1) ?_))
      refine STP.out.mono ?_;rintro e w3 ⟨TB',tb',r3,rfl,m3,t3,hn3,c3⟩
      have k3b:=KS.out.b.chB c3 (by omega) (by omega)
      have k3r:=KS.out.r.chB c3 (by omega) (by omega)
      have KR3:=KR.out.belowG c3 (by rw [ER.out];by_cases hre:x0.W.rep=[];exact .inl hre;exact .inr (fun a ha=>by obtain ⟨z,hz,hlt,_⟩:=RR.out.2.2.2 hre;rw [hz] at ha;cases ha;omega)) (KR.out.offB KS.out.m.bytes)
      have K3:SsS w p g h T cs qB w3:=⟨k3b,k3r,m3,⟨c3.os.trans KS.out.c.os,c3.tape.trans KS.out.c.tape,c3.output.trans KS.out.c.output,Nat.le_trans KS.out.c.size c3.size,fun j hj h1 h2=>(c3.block j (by omega) h1).trans (KS.out.c.block j hj h1 h2)⟩,lt2⟩
      have LY:=LENY.out TB' tb'
      obtain ⟨ys,hys⟩:∃ ys,y.cs RA rc TB' tb'=ys:=⟨_,rfl⟩
      rw [hys] at LY ⊢
      have OFFR3:y.W.rep=[]∨Off RA w.heap.size:=by rw [REP];exact OFFR.out _ (Nat.le_refl _)
      have OFFT3:r3=none→y.W.tr=[]∨Off TB' w.heap.size:=fun h=>by
        obtain ⟨a1,a2,a3⟩:=hn3 h
        rw [a2,a3];exact OFFT.out a1 _ (Nat.le_refl _)
      rw [← REP] at KR3
      replace KR3:=Lib.hid KR3
      replace K3:=Lib.hid K3
      have T3:=Lib.hid t3
      have HN3:=Lib.hid hn3
      clear t3 hn3 c3 m3 k3b k3r STP KS KSH KR TT p16
      go_wp2_with (first
        | (refine st_any rfl 82 (.tmp 4) (.tmp 34) rfl rfl (w.heap.size) cs ys (by rfl) (by rfl) K3.out.b (LEN.out.1.trans LY.1.symm) (IB _ LY.1) LY.2 ?_;intro W4 b4 c1;have K5:SsS w p g h T ys qB W4:=K3.out.chgB c1 b4;rw [← hys] at K5))
      go_step3
      refine ⟨rfl,⟨k+1,y,qB,TB',tb',r3,aq,_,_,_,_,_,_,_,_,_,_,_,_,_,_,_,_,_,_,_,_,_,_,_,_,_,_,_,_,by first | rfl | go_num,⟨K5,hkN,SGN.out.1,SGN.out.2,IXN.out,KR3.out.off c1 OFFR3,REP.trans ER.out,T3.out.set K3.out.b OFFT3 c1,fun h=>by obtain ⟨a1,a2,a3⟩:=HN3.out h;obtain ⟨a4,a5⟩:=ET.out a1;exact ⟨a2.trans a4,a3.trans a5⟩⟩⟩,?_⟩
      simp [intOf]
      omega
end Go.Proofs.YteefmjhemhlapaaGreat.Mm
