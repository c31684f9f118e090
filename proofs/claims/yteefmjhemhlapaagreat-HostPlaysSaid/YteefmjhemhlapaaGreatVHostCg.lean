/- The program's own host: Run. -/
import Derived.Test.YteefmjhemhlapaaGreatVHostCf
import Derived.Test.YteefmjhemhlapaaGreatVBxC
import Derived.Test.YteefmjhemhlapaaGreatVGaD
namespace Go.Proofs.YteefmjhemhlapaaGreat.Mm
open Go.ChangeShapes Go.WideShapes Go.ChangeAt Go.RowKit
set_option linter.unusedVariables false
set_option linter.unusedSimpArgs false
set_option maxRecDepth 10000
set_option maxHeartbeats 4000000
theorem sliceC2_code:SliceC2:=slice_code (Lib.hid do_code2)
theorem ld_has {o:Oper} {a:Act} {w:World} {K:Act→World→Prop} {Q:Exit→Act→World→Prop} (T:TypeId) (x:Operand) (ho:o.op=.load T x) (g:Nat) (hx:a.eval x=.pointer (some ⟨g,0,none⟩)) {cs:List Value} {d:TypeDesc} (h:HasB w g T cs) (hd:(match d with | .struct _ | .array _ _=>true | _=>false)=true) (hu:Tryz.prog.underlying T=some d) (hi:(Tryz.prog.info? T).map (·.size)=some cs.length)
    (k:K (a.put o.dst (.agg cs.toArray)) w):o.wp Tryz.prog a w K Q:=by
  have e:=exec_load_has (ev:=a.eval) T x ho g hx h hd hu hi
  unfold Oper.wp
  rw [e]
  exact k
theorem cs_13 {x:Bx} (o:x.c.Ok) (RA:Option Addr) (rc:Nat) (TA:Option Addr) (tc:Nat):(x.cs RA rc TA tc)[13]?=some (.slice TA x.W.tr.length tc):=by
  obtain ⟨v0,v1,v2,v3,v4,v5,v6,v7,v8,v9,v10,h1,h2⟩:=bx_cs o
  rw [h2];rfl
theorem cs_set {x:Bx} (o:x.c.Ok) (RA:Option Addr) (rc:Nat) (TA:Option Addr) (tc:Nat) (L:List Ev) (TB:Option Addr) (tb:Nat):(x.cs RA rc TA tc).set 13 (.slice TB L.length tb)=(⟨x.c,{ x.W with tr:=L },x.is,x.wh⟩:Bx).cs RA rc TB tb:=by
  obtain ⟨v0,v1,v2,v3,v4,v5,v6,v7,v8,v9,v10,h1,h2⟩:=bx_cs o
  have o':(⟨x.c,{ x.W with tr:=L },x.is,x.wh⟩:Bx).c.Ok:=o
  obtain ⟨u0,u1,u2,u3,u4,u5,u6,u7,u8,u9,u10,g1,g2⟩:=bx_cs o'
  rw [h2,g2]
  have e:=h1.symm.trans g1
  injection e with e1 e2 e3 e4
  simp only [List.cons.injEq,and_true] at e2
  obtain ⟨f1,f2,f3,f4,f5,f6,f7,f8⟩:=e2
  subst e1 e3 e4 f1 f2 f3 f4 f5 f6 f7 f8
  rfl
structure RnS (w:World) (hb p g y mb jb:Nat) (RA TA:Nat→Option Addr) (rc tc:Nat→Nat) (h:Ho) (F:Nat→Prop) (cs:List Value) (B:List Int) (W:World):Prop where
  mp:HMp W hb p mb RA TA rc tc h
  mem:MemAt W p g y B h.T
  box:HasB W jb 82 cs
  ch:Chg g g w W
  lt:hb < w.heap.size∧p < w.heap.size∧g < w.heap.size∧y < w.heap.size∧mb < w.heap.size
  jb_:w.heap.size≤jb
  ne:hb≠g∧mb≠g
section
variable {w W W':World} {hb p g y mb jb:Nat} {RA TA:Nat→Option Addr} {rc tc:Nat→Nat} {h:Ho} {F:Nat→Prop} {cs cs':List Value} {B B':List Int}
theorem RnS.below (k:RnS w hb p g y mb jb RA TA rc tc h F cs B W) (b:Below W.heap.size W W'):RnS w hb p g y mb jb RA TA rc tc h F cs B W':=
  ⟨k.mp.below b,k.mem.below b,k.box.below b,k.ch.andBelow b,k.lt,k.jb_,k.ne⟩
theorem RnS.chgG (k:RnS w hb p g y mb jb RA TA rc tc h F cs B W) (c:Chg g g W W') (m:MemAt W' p g y B' h.T):RnS w hb p g y mb jb RA TA rc tc h F cs B' W':=
  ⟨k.mp.keep (c.block hb k.mp.own.lt k.ne.1 k.ne.1) (c.block mb k.mp.map.lt k.ne.2 k.ne.2),m,k.box.chg c (by have:=k.lt;have:=k.jb_;omega) (by have:=k.lt;have:=k.jb_;omega),k.ch.andG c,k.lt,k.jb_,k.ne⟩
theorem RnS.chgB (k:RnS w hb p g y mb jb RA TA rc tc h F cs B W) (c:Chg jb jb W W') (b:HasB W' jb 82 cs'):RnS w hb p g y mb jb RA TA rc tc h F cs' B W':=by
  have lt:=k.lt
  have hj:=k.jb_
  exact ⟨k.mp.keep (c.block hb k.mp.own.lt (by omega) (by omega)) (c.block mb k.mp.map.lt (by omega) (by omega)),k.mem.chg c (by omega) (by omega) (by omega) (by omega) (by omega) (by omega),b,k.ch.andNew c hj,lt,hj,k.ne⟩
theorem RnS.setB (k:RnS w hb p g y mb jb RA TA rc tc h F cs B W) (i:Nat) (v:Value):∃ W',W.setCell ⟨jb,i,none⟩ v=W'∧RnS w hb p g y mb jb RA TA rc tc h F (cs.set i v) B W'∧Chg jb jb W W':=by
  have c:Chg jb jb W (W.setCell ⟨jb,i,none⟩ v):=chg_set (Chg.refl _ _ _) _ (.inl rfl) _ _
  exact ⟨_,rfl,k.chgB c (has_set k.box i v),c⟩
end
theorem run_fin {w W6 W8 WU:World} {z n0 hb p g y mb:Nat} {RA TA:Nat→Option Addr} {rc tc:Nat→Nat} {h:Ho} {F:Nat→Prop} (I:HIn w hb p g y mb RA TA rc tc h F) (HI:HoI z n0 h) {k:Nat} {s:Sb} (hs:h.has k s) (n:Nat) {R1 A1:Option Addr} {rc1 c1:Nat} {cs:List Value} {X:Bx} {B1:List Int}
    (hX:(slF h.T n s.x h.B).1=X) (hB:(slF h.T n s.x h.B).2.1=B1) (hcs:X.cs R1 rc1 A1 c1=cs)
    (s6:w.heap.size≤W6.heap.size∧W6.heap.size≤W8.heap.size) (eq:∀ i,i < w.heap.size→i≠g→(∀ a,TA k=some a→a.block≠i)→W8.heap[i]?=w.heap[i]?) (fr:W8.os=w.os∧W8.tape=w.tape∧W8.output=w.output)
    (mp:HMp W8 hb p mb RA TA rc tc h) (mem:MemAt W8 p g y B1 h.T) (K6:KRow .u32 W6 R1 rc1 X.W.rep) (K8:KRow .u32 W8 R1 rc1 X.W.rep) (T8:TrO W8 A1 c1 X.W.tr)
    (ofl:∀ j,j < w.heap.size→(s.x.W.rep=[]∨Off (RA k) j)→(X.W.rep=[]∨Off R1 j)) (nw:∀ a,A1=some a→(∃ x,TA k=some x∧x.block=a.block)∨W6.heap.size≤a.block)
    (mpU:MapAt WU mb (fun j=>if j=k then some (.agg cs.toArray) else valO h RA TA rc tc j)) (grU:W8.drew.grownBy WU (some mb)) (szU:WU.heap.size=W8.drew.heap.size) :
    ∃ F',HAt WU hb (runO h k s n) F'∧ChF F w WU∧SubF w F F':=by
  have hrun:=(HI.run hs n).1
  have hl:k < h.m.length:=Ho.has_lt hs
  have hnew:(runO h k s n).has k ⟨s.b,s.hf,s.code,(slF h.T n s.x h.B).1⟩:=has_set_same hl _
  have bx:=hrun.bi k _ hnew
  have hsU:w.heap.size≤WU.heap.size:=by rw [szU];exact Nat.le_trans s6.1 s6.2
  obtain ⟨ap1,ap2,ap3⟩:=I.apart
  have lt:=I.lt
  have tk:=I.rows.tr k s hs
  have hU:∀ i,i < W8.heap.size→i≠mb→WU.heap[i]?=W8.heap[i]?:=fun i hi h1=>grU.block i hi (by simpa using h1)
  have same:∀ i,i < w.heap.size→i≠g→i≠mb→(∀ a,TA k=some a→a.block≠i)→WU.heap[i]?=w.heap[i]?:=fun i hi h1 h2 h3=>(hU i (Nat.lt_of_lt_of_le hi (Nat.le_trans s6.1 s6.2)) h2).trans (eq i hi h1 h3)
  have a1lt:∀ a,A1=some a→a.block < W8.heap.size:=fun a ha=>by
    rcases T8.own with ⟨h1,_⟩ | ⟨q,h1,h2⟩
    · rw [h1] at ha;cases ha
    · rw [h1] at ha;cases ha
      exact (h2.lt q (by rw [h1];rfl)).2
  have a1mb:∀ a,A1=some a→a.block≠mb:=fun a ha=>by
    rcases nw a ha with ⟨x,hx,e⟩ | h1
    · rw [← e];exact (tk x hx).2.1.2.2.2.2
    · omega
  have r1mb:X.W.rep=[]∨Off R1 mb:=by
    by_cases hn:X.W.rep=[]
    · exact .inl hn
    · refine .inr (fun x hx e=>?_)
      obtain ⟨q,hq,_,hc⟩:=K8.2.2.2 hn
      rw [hx] at hq
      cases hq
      have h0:=hc 0 (List.length_pos_iff.2 hn)
      obtain ⟨es,c,hb',_⟩:=mp.map
      unfold World.cell? at h0
      rw [block_add,e,hb'] at h0
      cases h0
  have e:runO h k s n=⟨B1,h.T,h.m.set k (some ⟨s.b,s.hf,s.code,X⟩)⟩:=by unfold runO;rw [hX,hB]
  rw [hX] at bx
  rw [e]
  refine ⟨_,⟨p,g,y,mb,upd RA k R1,upd TA k A1,upd rc k rc1,upd tc k c1,I.put (s':=⟨s.b,s.hf,s.code,X⟩) (RAk:=R1) (TAk:=A1) (rck:=rc1) (tck:=c1) hl hsU ?_ ?_ ?_ ⟨bx.ok,bx.b,?_⟩ ?_ ?_ ?_ ?_ ?_ ?_⟩,?_,?_⟩
  · exact (hU hb mp.own.lt (by omega)).trans mp.own
  · exact ⟨(hU p mem.own.lt (by omega)).trans mem.own,(hU g mem.bytes.lt (by omega)).trans mem.bytes,(hU y mem.zones.lt (by omega)).trans mem.zones,mem.len,mem.pos,mem.top,mem.byte⟩
  · have:(⟨s.b,s.hf,s.code,X⟩:Sb).x.val R1 rc1 A1 c1=.agg cs.toArray:=by rw [← hcs];rfl
    rw [this];exact mpU
  · have:=bx.s
    simp only at this ⊢
    rw [this]
    congr 1
    omega
  · exact K8.same (by rw [szU];exact Nat.le_refl _) (by
      by_cases hn:X.W.rep=[]
      · exact .inl hn
      · obtain ⟨q,hq,hlt,_⟩:=K8.2.2.2 hn
        exact .inr (fun a ha=>by rw [hq] at ha;cases ha;exact hU _ hlt ((r1mb.resolve_left hn) _ hq)))
  · exact T8.same (by rw [szU];exact Nat.le_refl _) (fun a ha=>hU _ (a1lt a ha) (a1mb a ha))
  · intro j t hj ht
    refine ⟨?_,fun a ha=>?_⟩
    · rcases I.repOff ht with h1 | ⟨h1,h2,h3⟩
      · exact .inl h1
      · rcases I.rows.rep j t ht with h4 | h4
        · exact .inl h4
        · by_cases hr:t.x.W.rep=[]
          · exact .inl hr
          · exact .inr (fun a ha=>same a.block (I.lim _ (h4 a ha)) (h1 a ha) (h3 a ha) (fun b hb'=>Ne.symm (((tk b hb').2.2.1 j t ht).resolve_left hr a ha)))
    · obtain ⟨t1,t2,_,t4⟩:=I.rows.tr j t ht a ha
      exact same a.block (I.lim _ t1) t2.2.2.1 t2.2.2.2.2 (fun b hb'=>t4 k s (Ne.symm hj) hs b hb')
  · by_cases hr:X.W.rep=[]
    · exact .inl hr
    · refine .inr (fun a ha=>?_)
      obtain ⟨q,hq,hlt,_⟩:=K8.2.2.2 hr
      rw [ha] at hq
      cases hq
      by_cases hlt2:a.block < w.heap.size
      · left
        refine Classical.byContradiction (fun hF=>?_)
        have:=ofl a.block hlt2 (by
          rcases I.rows.rep k s hs with h4 | h4
          · exact .inl h4
          · exact .inr (fun x hx e=>hF (e ▸ h4 x hx)))
        exact (this.resolve_left hr) a ha rfl
      · exact .inr ⟨by omega,by rw [szU];exact hlt⟩
  · intro a ha
    have hlt:=a1lt a ha
    rcases nw a ha with ⟨x,hx,e2⟩ | h1
    · obtain ⟨t1,t2,t3,t4⟩:=tk x hx
      rw [← e2]
      refine ⟨.inl t1,t2,?_,fun j t hj ht=>⟨t3 j t ht,t4 j t hj ht⟩⟩
      exact ofl _ (I.lim _ t1) (t3 k s hs)
    · refine ⟨.inr ⟨by omega,by rw [szU];exact hlt⟩,⟨by omega,by omega,by omega,by omega,by omega⟩,?_,fun j t hj ht=>⟨?_,fun x hx e2=>?_⟩⟩
      · exact K6.offNew h1
      · exact (I.rep j t ht).offNew (by omega)
      · have:=I.lim _ (I.rows.tr j t ht x hx).1
        omega
  · intro j t hj ht a ha
    obtain ⟨t1,t2,t3,t4⟩:=I.rows.tr j t ht a ha
    have hlt:=I.lim _ t1
    refine ⟨ofl _ hlt (t3 k s hs),fun x hx e2=>?_⟩
    rcases nw x hx with ⟨q,hq,e3⟩ | h1
    · exact t4 k s (Ne.symm hj) hs q hq (e3.trans e2)
    · omega
  · refine ⟨grU.os.trans fr.1,grU.tape.trans fr.2.1,grU.output.trans fr.2.2,hsU,fun i hi hn=>same i hi (fun e=>hn (by subst e;exact I.rows.inF _ (by simp))) (fun e=>hn (by subst e;exact I.rows.inF _ (by simp))) (fun a ha e=>hn (by rw [← e];exact (tk a ha).1))⟩
  · rintro i (hi | hi)
    · exact .inl hi
    · exact .inr hi.1
theorem trO_lt {w:World} {A:Option Addr} {cap:Nat} {L:List Ev} (t:TrO w A cap L) {a:Addr} (ha:A=some a):a.block < w.heap.size:=by
  rcases t.own with ⟨h1,_⟩ | ⟨q,h1,h2⟩
  · rw [h1] at ha;cases ha
  · rw [h1] at ha;cases ha
    exact (h2.lt q (by rw [h1];rfl)).2
set_option maxHeartbeats 16000000 in
theorem hRun:HRunC:=by
  intro w hb z n0 h F id n ⟨p,g,y,mb,RA,TA,rc,tc,I⟩ HI hn0 hid hn
  have IH0:=Lib.hid I
  have HIH:=Lib.hid HI
  have FC:=Lib.hid (find_h I id)
  have LT:=Lib.hid I.lt
  have AP:=Lib.hid I.apart
  have HN:=Lib.hid (And.intro hn0 hn)
  clear I HI hn0 hn hid
  have hnp:∀ w:World,(binOp .eql 26 (.pointer (some ⟨hb,0,none⟩)) (.pointer none)).run Tryz.prog w=.ok (.bool false) w:=fun _=>rfl
  go_enter Tryz.func12,Tryz.ntmps12
  go_wp2_with fail
  refine FC.out.mono ?_;rintro e w1 ⟨b1,hq⟩
  have I1:=Lib.hid (IH0.out.below b1)
  have B1:=Lib.hid b1
  clear FC b1
  obtain ⟨jb,hjb⟩:∃ jb,w1.heap.size=jb:=⟨_,rfl⟩
  obtain ⟨W2,e2,X2,I2,B2,S2⟩:∃ W2,w1.alloc (.cells ([.int .u32 0,.int .u32 0,.int .u32 0,.int .u32 0,.int .u32 0,.int .u32 0,.int .u32 0,.int .u32 0,.int .u32 0,.int .u32 0,.int .u32 0,.slice none 0 0,.int .i64 0,.slice none 0 0,.bool false,.int .u32 0,.int .i64 0,.int .i64 0]:List Value).toArray 82)=W2∧Hid (HasB W2 jb 82 [.int .u32 0,.int .u32 0,.int .u32 0,.int .u32 0,.int .u32 0,.int .u32 0,.int .u32 0,.int .u32 0,.int .u32 0,.int .u32 0,.int .u32 0,.slice none 0 0,.int .i64 0,.slice none 0 0,.bool false,.int .u32 0,.int .i64 0,.int .i64 0])∧Hid (HIn W2 hb p g y mb RA TA rc tc h F)∧Hid (Below w.heap.size w W2)∧Hid (w.heap.size≤jb):=by
    have b:=bel_al (Below.refl w1.heap.size w1) (.cells ([.int .u32 0,.int .u32 0,.int .u32 0,.int .u32 0,.int .u32 0,.int .u32 0,.int .u32 0,.int .u32 0,.int .u32 0,.int .u32 0,.int .u32 0,.slice none 0 0,.int .i64 0,.slice none 0 0,.bool false,.int .u32 0,.int .i64 0,.int .i64 0]:List Value).toArray 82)
    exact ⟨_,rfl,Lib.hid (by rw [← hjb];exact HasB.new w1 82 [.int .u32 0,.int .u32 0,.int .u32 0,.int .u32 0,.int .u32 0,.int .u32 0,.int .u32 0,.int .u32 0,.int .u32 0,.int .u32 0,.int .u32 0,.slice none 0 0,.int .i64 0,.slice none 0 0,.bool false,.int .u32 0,.int .i64 0,.int .i64 0]),Lib.hid (I1.out.below b),Lib.hid (bel_then B1.out b),Lib.hid (by rw [← hjb];exact B1.out.size)⟩
  have ZL:=Lib.hid z_len
  rcases hq with ⟨k,s,rfl,hs,rfl⟩ | ⟨hno,rfl⟩
  · have OKS:=Lib.hid (IH0.out.sx k s hs).1
    have L9:=bx_len OKS.out.c (RA k) (rc k) (TA k) (tc k)
    have C13:=cs_13 OKS.out.c (RA k) (rc k) (TA k) (tc k)
    have CST:=cs_set OKS.out.c (RA k) (rc k) (TA k) (tc k) [] none 0
    obtain ⟨tn,htn⟩:∃ tn,s.x.W.tr.length=tn:=⟨_,rfl⟩
    rw [htn] at C13
    have HTN:=Lib.hid htn
    have HHAS:=Lib.hid hs
    have ITR:=Lib.hid (IH0.out.tr k s hs)
    have TKF:Hid (∀ a,TA k=some a→a.block < w.heap.size∧a.block≠g∧a.block≠hb∧a.block≠p∧a.block≠y∧a.block≠mb):=Lib.hid (fun a ha=>by
      obtain ⟨t1,t2,_⟩:=IH0.out.rows.tr k s hs a ha
      exact ⟨IH0.out.lim _ t1,t2.2.2.1,t2.1,t2.2.1,t2.2.2.2.1,t2.2.2.2.2⟩)
    have TKR:Hid (∀ a,TA k=some a→(s.x.W.rep=[]∨Off (RA k) a.block)):=Lib.hid (fun a ha=>(IH0.out.rows.tr k s hs a ha).2.2.1 k s hs)
    have HK16:Hid (k < 16):=Lib.hid (by have:=Ho.has_lt hs;have:=HIH.out.Z.ml;omega)
    -- the slice as a function
    obtain ⟨X,hX⟩:∃ X,(slF h.T n s.x h.B).1=X:=⟨_,rfl⟩
    have hrun:=(HIH.out.run hs n).1
    have bx:=hrun.bi k _ (has_set_same (Ho.has_lt hs) _)
    rw [hX] at bx
    have htr:=slF_tr0 h.T n s.x h.B
    obtain ⟨x1,hx1⟩:∃ x1,(slF h.T n s.x.tr0 h.B).1=x1:=⟨_,rfl⟩
    obtain ⟨B1',hB1⟩:∃ B1',(slF h.T n s.x.tr0 h.B).2.1=B1':=⟨_,rfl⟩
    obtain ⟨m,hm⟩:∃ m,(slF h.T n s.x.tr0 h.B).2.2=m:=⟨_,rfl⟩
    have hXX:X=x1.app s.x.W.tr:=by rw [← hX,htr,hx1]
    have HXX:=Lib.hid hXX
    have HSX:Hid ((slF h.T n s.x h.B).1=X):=Lib.hid hX
    have HSB:Hid ((slF h.T n s.x h.B).2.1=B1'):=Lib.hid (by rw [htr];exact hB1)
    have HM:Hid ((slF h.T n s.x h.B).2.2=m):=Lib.hid (by rw [htr];exact hm)
    have OKX:Hid (x1.c.Ok∧X.c.Ok):=Lib.hid ⟨by have:=bx.ok.c;rw [hXX] at this;exact this,bx.ok.c⟩
    obtain ⟨m1,hm1⟩:∃ m1,x1.W.tr.length=m1:=⟨_,rfl⟩
    have HM1:=Lib.hid hm1
    have BND:Hid (tn+m1≤100000):=Lib.hid (by
      have h1:=bx.tr
      rw [hXX] at h1
      have:(x1.app s.x.W.tr).W.tr=s.x.W.tr ++ x1.W.tr:=rfl
      simp only [this,List.length_append,htn,hm1] at h1
      have:=HN.out
      omega)
    have SL:=Lib.hid (fun (w':World) (m':MemAt w' p g y h.B h.T) (kr:KRow .u32 w' (RA k) (rc k) s.x.W.rep)=>sliceC2_code s.x.tr0 (n:Int) p g y h.B h.T w' (RA k) (rc k) none 0 (tr0_ok OKS.out) (Nat.zero_le _) (by have:=HN.out;omega) m' kr (evRow_nil w'))
    have KRI:=Lib.hid (IH0.out.rep k s hs)
    have KOG:Hid (s.x.W.rep=[]∨Off (RA k) g):=Lib.hid ((IH0.out.repOff hs).imp id (fun h=>h.1))
    have e0:s.x.tr0.cs (RA k) (rc k) none 0=(s.x.cs (RA k) (rc k) (TA k) (tc k)).set 13 (.slice none 0 0):=CST.symm
    have L0':=bx_len (x:=s.x.tr0) OKS.out.c (RA k) (rc k) none 0
    obtain ⟨cs0,hcs0⟩:∃ cs0,s.x.cs (RA k) (rc k) (TA k) (tc k)=cs0:=⟨_,rfl⟩
    rw [hcs0] at L9 C13 e0
    rw [hcs0]
    obtain ⟨c0,hc0⟩:∃ c0,s.x.tr0.cs (RA k) (rc k) none 0=c0:=⟨_,rfl⟩
    rw [hc0] at e0 L0'
    have L0:=Lib.hid L0'
    have HC0:=Lib.hid hc0
    have E0:=Lib.hid e0
    have LL:=Lib.hid L9
    have C13h:=Lib.hid C13
    clear L9 C13 CST htn hs hX hrun bx htr hXX hm1 e0 L0' hcs0 hc0 I1 B1
    dsimp only
    go_wp2_with (first
      | (refine st_any rfl 82 (.tmp 8) (.tmp 16) rfl rfl jb [.int .u32 0,.int .u32 0,.int .u32 0,.int .u32 0,.int .u32 0,.int .u32 0,.int .u32 0,.int .u32 0,.int .u32 0,.int .u32 0,.int .u32 0,.slice none 0 0,.int .i64 0,.slice none 0 0,.bool false,.int .u32 0,.int .i64 0,.int .i64 0] cs0 (by rfl) (by rfl) X2.out (by rw [LL.out.1];rfl) (by rw [LL.out.1];kernel_rfl) LL.out.2 ?_;intro W3 r3 c3
         have L3:Hid (RnS w hb p g y mb jb RA TA rc tc h F cs0 h.B W3):=Lib.hid (by
           have lt:=LT.out
           have s2:=S2.out
           exact ⟨I2.out.mp.keep (c3.block hb I2.out.own.lt (by omega) (by omega)) (c3.block mb I2.out.map.lt (by omega) (by omega)),I2.out.mem.chg c3 (by omega) (by omega) (by omega) (by omega) (by omega) (by omega),r3,Chg.andNew (Chg.of B2.out) c3 s2,lt,s2,AP.out.1.2.1,AP.out.2.1.2.1⟩)
         have K3:=Lib.hid ((KRI.out.below B2.out).off c3 (KRI.out.offNew S2.out))
         have c13:=L3.out.box.cell 13
         rw [C13h.out] at c13
         have f13:=L3.out.box.frozen 13
         obtain ⟨W4,e4,L4,C4⟩:∃ W4,W3.setCell ⟨jb,13,none⟩ (.slice none 0 0)=W4∧Hid (RnS w hb p g y mb jb RA TA rc tc h F c0 h.B W4)∧Hid (Chg jb jb W3 W4):=(by
           obtain ⟨W4,q1,q2,q3⟩:=L3.out.setB 13 (.slice none 0 0)
           exact ⟨W4,q1,Lib.hid (by rw [E0.out];exact q2),Lib.hid q3⟩)
         have K4:=Lib.hid (K3.out.off C4.out (KRI.out.offNew S2.out))
         clear r3 c3))
    have LQ:=Lib.hid (L4.out.below (Below.refl _ _).drew)
    have KQ:=Lib.hid (K4.out.below (Below.refl _ _).drew)
    have JRA:Hid (s.x.W.rep=[]∨Off (RA k) jb):=Lib.hid (KRI.out.offNew S2.out)
    have DS:=Lib.hid (LQ.out.mp.own.cell 0)
    have SC:Hid (Calls Tryz.prog 34 #[.pointer (some ⟨p,0,none⟩),.agg c0.toArray,.int .i64 (n:Int)] W4.drew fun e w'=>∃ R1 rc1 T1 tc1,e=.returned (.tuple #[.agg (x1.cs R1 rc1 T1 tc1).toArray,.int .i64 (m:Nat)])∧KRow .u32 w' R1 rc1 x1.W.rep∧EvRow w' T1 tc1 x1.W.tr∧MemAt w' p g y B1' h.T∧Chg g g W4.drew w'∧OffL W4.drew s.x.W.rep (RA k) x1.W.rep R1∧OffL W4.drew ([]:List Ev) none x1.W.tr T1):=Lib.hid (by
      have:=SL.out _ LQ.out.mem KQ.out
      unfold Bx.val at this
      rw [HC0.out,show ((n:Int)).toNat=n from rfl] at this
      refine this.mono ?_
      rintro e w' ⟨R1,rc1,T1,tc1,rfl,h1,h2,h3,h4,h5,h6⟩
      rw [hx1] at h1 h2 h5 h6
      rw [hB1] at h3
      exact ⟨R1,rc1,T1,tc1,by rw [hx1,hm];rfl,h1,h2,h3,h4,h5,h6⟩)
    have HBB:=Lib.hid hB1
    clear L4 K4 SL KRI hx1 hB1 I2 B2 X2
    refine wp_region_noPanic ?_
    refine wp_region_held_drew (S:=(fun w'=>w'.cell? ⟨hb,0,none⟩=some (.pointer (some ⟨p,0,none⟩)))) (by kernel_rfl) ?_ (fun hHeld=>?_)
    · (try dsimp only)
      exact DS.out
    refine wT 0 ?_
    refine wT 1 ?_
    refine wT 2 ?_
    refine wT 3 ?_
    refine wT 5 ?_
    refine wpAnyH_ready (rs:=[4]) (by kernel_rfl) (by simp) ?_
    refine rC (fun K hK=>?_) ?_
    · (refine ld_has 82 (.tmp 8) rfl jb (by rfl) LQ.out.box rfl Tryz.underlying82 (by rw [L0.out.1];kernel_rfl) ?_)
      refine hK.out _ _ ?_ (fun hHeld=>?_)
      · (try dsimp only)
        exact DS.out
      clear hK K
      (try simp only [Act.put,lsA,lsZ,lsS])
      refine wpAnyH_ready (rs:=[6]) (by kernel_rfl) (by simp) ?_
      refine rC (fun K hK=>?_) ?_
      · go_simp
        (with_reducible refine SC.out.mono ?_)
        rintro e w5 ⟨R1,rc1,T1,tc1,rfl,k5,t5,m5,g5,of5,ot5⟩
        have L1:Hid ((x1.cs R1 rc1 T1 tc1).length=18∧∀ v∈x1.cs R1 rc1 T1 tc1,v.oneCell'=true):=Lib.hid (bx_len OKX.out.1 R1 rc1 T1 tc1)
        have C131q:=cs_13 OKX.out.1 R1 rc1 T1 tc1
        rw [HM1.out] at C131q
        have C131:=Lib.hid C131q
        clear C131q
        have HSET:=Lib.hid (fun (Lx:List Ev) TB tb=>cs_set OKX.out.1 R1 rc1 T1 tc1 Lx TB tb)
        obtain ⟨c1,hc1⟩:∃ c1,x1.cs R1 rc1 T1 tc1=c1:=⟨_,rfl⟩
        rw [hc1] at L1 C131 HSET
        rw [hc1]
        clear hc1
        have L5:=Lib.hid (LQ.out.chgG g5 m5)
        have K5:=Lib.hid k5
        have T5:=Lib.hid t5
        have OF5:=Lib.hid of5
        have O5j:=Lib.hid (show w.heap.size≤W4.drew.heap.size∧jb < W4.drew.heap.size from ⟨LQ.out.ch.size,LQ.out.box.lt⟩)
        have KJ5:Hid (x1.W.rep=[]∨Off R1 jb):=Lib.hid (of5 jb O5j.out.2 JRA.out)
        have TJ5:Hid (x1.W.tr=[]∨Off T1 jb):=Lib.hid (ot5 jb O5j.out.2 (.inl rfl))
        clear k5 t5 m5 of5 ot5 g5
        refine hK.out _ _ ?_ (fun hHeld=>?_)
        · (try dsimp only)
          exact L5.out.mp.own.cell 0
        clear hK K
        (try simp only [Act.put,lsA,lsZ,lsS])
        refine wT 7 ?_
        refine wT 8 ?_
        refine wT 9 ?_
        refine wpAnyH_ready (rs:=[10]) (by kernel_rfl) (by simp) ?_
        refine rC (fun K hK=>?_) ?_
        · (refine st_has 82 (.tmp 8) (.tmp 34) rfl rfl jb c0 c1 rfl rfl L5.out.box (by rw [L0.out.1,L1.out.1]) (by rw [L1.out.1];kernel_rfl) L1.out.2 ?_;intro W6 r6 c6)
          have L6:=Lib.hid (L5.out.chgB c6 r6)
          have K6:=Lib.hid (K5.out.off c6 KJ5.out)
          have T6:=Lib.hid (T5.out.off c6 TJ5.out)
          have SZ6:=Lib.hid (show w.heap.size≤W6.heap.size from L6.out.ch.size)
          clear r6 c6
          refine hK.out _ _ ?_ (fun hHeld=>?_)
          · (try dsimp only)
            exact L6.out.mp.own.cell 0
          clear hK K
          (try simp only [Act.put,lsA,lsZ,lsS])
          refine wT 11 ?_
          refine wpAnyH_done (by kernel_rfl) ?_ _
          refine NoPanic.normal ?_
          clear hHeld
          have c13:=L6.out.box.cell 13
          rw [C131.out] at c13
          have TR6:Hid (TrO W6 (TA k) (tc k) s.x.W.tr):=Lib.hid ((ITR.out).same SZ6.out (fun a ha=>L6.out.ch.block _ (TKF.out a ha).1 (TKF.out a ha).2.1 (TKF.out a ha).2.1))
          go_wp2_with (first
            | (at_builtin;refine app_tro rfl (.tmp 36) (.tmp 39) rfl (TA k) (tc k) tn s.x.W.tr HTN.out (by rfl) TR6.out T1 tc1 m1 x1.W.tr HM1.out (by rfl) T6.out BND.out ?_;intro A1 c1' W7 t7 gr7 nw7
               have G7:Hid (∀ i,i < W6.heap.size→(∀ a,TA k=some a→a.block≠i)→W7.heap[i]?=W6.heap[i]?):=Lib.hid (fun i hi hne=>gr7.block i hi (by
                 cases hta:TA k with
                 | none=>simp
                 | some a=>simpa using (Ne.symm (hne a hta))))
               have S7:=Lib.hid (show W6.heap.size≤W7.heap.size from gr7.size)
               have B7:Hid (HasB W7 jb 82 c1):=Lib.hid ((G7.out jb L6.out.box.lt (fun a ha e=>by have:=(TKF.out a ha).1;have:=L6.out.jb_;omega)).trans L6.out.box)
               have F7:=Lib.hid (And.intro gr7.os (And.intro gr7.tape gr7.output))
               have d13:=B7.out.cell 13
               rw [C131.out] at d13
               have e13:=B7.out.frozen 13
               obtain ⟨W8,e8,B8,C8⟩:∃ W8,W7.setCell ⟨jb,13,none⟩ (.slice A1 (tn+m1) c1')=W8∧Hid (HasB W8 jb 82 (c1.set 13 (.slice A1 (tn+m1) c1')))∧Hid (Chg jb jb W7 W8):=⟨_,rfl,Lib.hid (has_set B7.out 13 _),Lib.hid (chg_set (Chg.refl _ _ _) _ (.inl rfl) _ _)⟩
               have T7:=Lib.hid t7
               have NW7:=Lib.hid nw7
               clear t7 nw7 gr7))
          have HC2:Hid (c1.set 13 (.slice A1 (tn+m1) c1')=X.cs R1 rc1 A1 c1'):=Lib.hid (by
            have:=HSET.out (s.x.W.tr ++ x1.W.tr) A1 c1'
            rw [List.length_append,HTN.out,HM1.out] at this
            rw [this,HXX.out]
            rfl)
          have LX2:Hid ((X.cs R1 rc1 A1 c1').length=18∧∀ v∈X.cs R1 rc1 A1 c1',v.oneCell'=true):=Lib.hid (bx_len OKX.out.2 R1 rc1 A1 c1')
          have B8':Hid (HasB W8 jb 82 (X.cs R1 rc1 A1 c1')):=Lib.hid (by rw [← HC2.out];exact B8.out)
          have HXc:=Lib.hid (rfl:X.cs R1 rc1 A1 c1'=X.cs R1 rc1 A1 c1')
          have MP8:Hid (HMp W8 hb p mb RA TA rc tc h):=Lib.hid (by
            have h1:=L6.out.lt
            have h2:=L6.out.jb_
            have s6:=SZ6.out
            exact L6.out.mp.keep ((C8.out.block hb (by have:=S7.out;omega) (by omega) (by omega)).trans (G7.out hb (by omega) (fun a ha=>(TKF.out a ha).2.2.1))) ((C8.out.block mb (by have:=S7.out;omega) (by omega) (by omega)).trans (G7.out mb (by omega) (fun a ha=>(TKF.out a ha).2.2.2.2.2))))
          have LC:Hid ((X.cs R1 rc1 A1 c1').length=18∧∀ v∈X.cs R1 rc1 A1 c1',v.oneCell'=true):=LX2
          obtain ⟨WU,hmu,mpU,grU,szU⟩:=(MP8.out.map.below (Below.refl _ _).drew).put (P:=Tryz.prog) (mt:=67) Tryz.underlying67 Tryz.underlying3 k HK16.out (.agg (X.cs R1 rc1 A1 c1').toArray)
          have FIN:Hid (HRunP w hb h F (k:Int) n (.returned (.tuple #[.int .i64 (m:Nat),.int .i64 0])) WU):=Lib.hid (by
            have h1:=L6.out.lt
            have h2:=L6.out.jb_
            have s6:=SZ6.out
            have s7:=S7.out
            have s8:=C8.out.size
            have rep7:KRow .u32 W7 R1 rc1 x1.W.rep:=K6.out.same s7 (by
              by_cases hn:x1.W.rep=[]
              · exact .inl hn
              · obtain ⟨q,hq,hlt,_⟩:=K6.out.2.2.2 hn
                refine .inr (fun a ha=>G7.out _ (by rw [ha] at hq;cases hq;exact hlt) (fun b hb' e=>?_))
                have:=OF5.out b.block (by have:=(TKF.out b hb').1;have:=O5j.out.1;omega) (TKR.out b hb')
                exact (this.resolve_left hn) a ha e.symm)
            have NJ:∀ a,A1=some a→a.block≠jb:=fun a ha=>by
              have lj:=L6.out.box.lt
              rcases NW7.out a ha with ⟨x,hx,e⟩ | h3
              · have:=(TKF.out x hx).1;omega
              · omega
            have eqX:x1.W.rep=X.W.rep:=by rw [HXX.out];rfl
            have eqT:s.x.W.tr ++ x1.W.tr=X.W.tr:=by rw [HXX.out];rfl
            refine .inl ⟨k,s,rfl,HHAS.out,by rw [HM.out],?_⟩
            refine run_fin (W6:=W6) (W8:=W8) IH0.out HIH.out HHAS.out n HSX.out HSB.out rfl ⟨s6,Nat.le_trans s7 s8⟩ (fun i hi h3 h4=>?_) ?_ MP8.out ?_ (by rw [← eqX];exact K6.out) (by rw [← eqX];exact rep7.off C8.out KJ5.out) (by rw [← eqT];exact T7.out.same s8 (fun a ha=>C8.out.block _ (trO_lt T7.out ha) (NJ a ha) (NJ a ha))) (fun j hj h3=>by rw [← eqX];exact OF5.out j (by have:=O5j.out.1;omega) h3) NW7.out mpU grU szU
            · exact (C8.out.block i (by omega) (by omega) (by omega)).trans ((G7.out i (by omega) h4).trans (L6.out.ch.block i hi h3 h3))
            · exact ⟨C8.out.os.trans (F7.out.1.trans L6.out.ch.os),C8.out.tape.trans (F7.out.2.1.trans L6.out.ch.tape),C8.out.output.trans (F7.out.2.2.trans L6.out.ch.output)⟩
            · have tkf:=TKF.out
              have M:=L6.out.mem
              exact (⟨(G7.out p M.own.lt (fun a ha=>(tkf a ha).2.2.2.1)).trans M.own,(G7.out g M.bytes.lt (fun a ha=>(tkf a ha).2.1)).trans M.bytes,(G7.out y M.zones.lt (fun a ha=>(tkf a ha).2.2.2.2.1)).trans M.zones,M.len,M.pos,M.top,M.byte⟩:MemAt W7 p g y B1' h.T).chg C8.out (by omega) (by omega) (by omega) (by omega) (by omega) (by omega))
          have NE8:=Lib.hid (Ne.symm (map_ne MP8.out.map MP8.out.own))
          have D8:Hid (W8.drew.cell? ⟨hb,1,none⟩=some (.map (some mb))∧HasB W8.drew jb 82 (X.cs R1 rc1 A1 c1')):=Lib.hid ⟨(MP8.out.own.below (Below.refl _ _).drew).cell 1,B8'.out.below (Below.refl _ _).drew⟩
          have E8:Hid (WU.cell? ⟨hb,1,none⟩=some (.map (some mb))∧HasB WU jb 82 (X.cs R1 rc1 A1 c1')):=Lib.hid ⟨(cell_same (p:=⟨hb,1,none⟩) (grU.block hb MP8.out.own.lt (by simpa using NE8.out))).trans ((MP8.out.own.below (Below.refl _ _).drew).cell 1),(grU.block jb B8'.out.lt (by have:=map_ne MP8.out.map B8'.out;simpa using (Ne.symm this))).trans B8'.out⟩
          have HC2':=HC2
          clear mpU grU szU
          obtain ⟨c2,hc2⟩:∃ c2,X.cs R1 rc1 A1 c1'=c2:=⟨_,rfl⟩
          rw [hc2] at hmu D8 E8 LC
          clear hc2
          go_wp2_with fail
          refine wp_region_noPanic ?_
          refine wp_region_held_drew (S:=(fun w'=>w'.cell? ⟨hb,1,none⟩=some (.map (some mb))∧HasB w' jb 82 c2)) (by kernel_rfl) ?_ (fun hHeld=>?_)
          · (try dsimp only)
            exact D8.out
          refine wT 0 ?_
          refine wT 1 ?_
          refine wT 2 ?_
          refine wT 3 ?_
          refine wT 4 ?_
          refine wpAnyH_take (i:=5) (oi:={ dst:=some 48,op:=Op.load 82 (Operand.tmp 8),type:=82,pos:= "host.go:78",after:=#[],guard:=none }) (v:=?_) rfl (by kernel_rfl) (by kernel_rfl) (by kernel_rfl) (fun _ _ _ h=>h) (Or.inl ⟨by rfl,?_⟩) (by assumption) ?_
          rotate_left
          · intro wz hSw;refine exec_load_has 82 (.tmp 8) ?_ (jb) ?_ hSw.2 ?_ Tryz.underlying82 ?_ <;> first | rfl | (rw [LC.out.1];kernel_rfl) | kernel_rfl
          (try simp only [Act.put,lsA,lsZ,lsS])
          refine wpAnyH_ready (rs:=[6]) (by kernel_rfl) (by simp) ?_
          refine rC (fun K hK=>?_) ?_
          · (refine mu_has 67 (.tmp 46) (.tmp 47) (.tmp 48) rfl rfl WU (by exact hmu) ?_)
            refine hK.out _ _ ?_ (fun hHeld=>?_)
            · (try dsimp only)
              exact E8.out
            clear hK K
            (try simp only [Act.put,lsA,lsZ,lsS])
            refine wpAnyH_done (by kernel_rfl) ?_ _
            refine NoPanic.normal ?_
            go_wp2_with fail
            (try simp only [Act.put,lsA,lsZ,lsS])
            refine bodyPost_ret (v:=.tuple #[.int .i64 (m:Nat),.int .i64 0]) (by simp [results,Tryz.results12]) rfl ?_
            exact FIN.out
          exact AllReadyH.nil
        exact AllReadyH.nil
      exact AllReadyH.nil
    exact AllReadyH.nil
  · dsimp only
    go_wp2_with (first
      | (refine st_any rfl 82 (.tmp 8) (.tmp 16) rfl rfl jb [.int .u32 0,.int .u32 0,.int .u32 0,.int .u32 0,.int .u32 0,.int .u32 0,.int .u32 0,.int .u32 0,.int .u32 0,.int .u32 0,.int .u32 0,.slice none 0 0,.int .i64 0,.slice none 0 0,.bool false,.int .u32 0,.int .i64 0,.int .i64 0] [.int .u32 0,.int .u32 0,.int .u32 0,.int .u32 0,.int .u32 0,.int .u32 0,.int .u32 0,.int .u32 0,.int .u32 0,.int .u32 0,.int .u32 0,.slice none 0 0,.int .i64 0,.slice none 0 0,.bool false,.int .u32 0,.int .i64 0,.int .i64 0] (by rfl) (by rfl) X2.out rfl (by kernel_rfl) ZL.out.2 ?_;intro W3 r3 c3;have I3:=Lib.hid (I2.out.same c3.size (fun i hi=>c3.block i (I2.out.lim i hi) (by have:=IH0.out.lim i hi;have:=S2.out;omega) (by have:=IH0.out.lim i hi;have:=S2.out;omega)));have B3:=Lib.hid (Below.trans B2.out (Below.ofNew c3 B2.out.size S2.out))))
    (try simp only [Act.put,lsA,lsZ,lsS])
    refine bodyPost_ret (v:=.tuple #[.int .i64 0,.int .i64 8]) (by simp [results,Tryz.results12]) rfl ?_
    exact .inr ⟨hno,rfl,⟨p,g,y,mb,RA,TA,rc,tc,I3.out⟩,B3.out⟩
end Go.Proofs.YteefmjhemhlapaaGreat.Mm
