/- The program's own host: Load. -/
import Derived.Test.YteefmjhemhlapaaGreatVHoB
import Derived.Test.YteefmjhemhlapaaGreatVBxN
namespace Go.Proofs.YteefmjhemhlapaaGreat.Mm
open Go.ChangeShapes Go.WideShapes Go.ChangeAt Go.RowKit
set_option linter.unusedVariables false
set_option linter.unusedSimpArgs false
set_option maxRecDepth 10000
set_option maxHeartbeats 4000000
theorem mu_has {o:Oper} {a:Act} {w:World} {K:Act→World→Prop} {Q:Exit→Act→World→Prop} (mt:TypeId) (x y z:Operand) (ho:o.op=.mapUpdate mt x y z) (hd:o.dst=none) (W':World) (hm:(Instr.mapUpdate mt (a.eval x) (a.eval y) (a.eval z)).run Tryz.prog w=.ok () W')
    (k:K a W'):o.wp Tryz.prog a w K Q:=by
  unfold Oper.wp
  simp [execOp,ho,hm,Result.andThen]
  show K (a.put o.dst undef) W'
  rw [hd]
  exact k
theorem kr_u32 {w:World} {A:Option Addr} {cap:Nat} {l:List Int} (r:KRow .u32 w A cap l):∀ v∈l,U32 v:=fun v hv=>by
  have:=u32_bd (r.2.2.1 v hv)
  unfold U32
  omega
structure LdS (w:World) (hb p g y mb jI jR:Nat) (RA TA:Nat→Option Addr) (rc tc:Nat→Nat) (h:Ho) (ic rg:List Value) (W:World):Prop where
  mp:HMp W hb p mb RA TA rc tc h
  xi:HasB W jI 57 ic
  xr:HasB W jR 52 rg
  ch:Chg g y w W
  l:(hb < w.heap.size∧p < w.heap.size∧g < w.heap.size∧y < w.heap.size∧mb < w.heap.size)∧w.heap.size≤jI∧w.heap.size≤jR
  d:hb≠g∧hb≠y∧mb≠g∧mb≠y
theorem LdS.ne {w W:World} {hb p g y mb jI jR:Nat} {RA TA:Nat→Option Addr} {rc tc:Nat→Nat} {h:Ho} {ic rg:List Value} (k:LdS w hb p g y mb jI jR RA TA rc tc h ic rg W):hb≠mb:=fun e=>map_ne k.mp.map k.mp.own e.symm
theorem LdS.s {w W:World} {hb p g y mb jI jR:Nat} {RA TA:Nat→Option Addr} {rc tc:Nat→Nat} {h:Ho} {ic rg:List Value} (k:LdS w hb p g y mb jI jR RA TA rc tc h ic rg W):W.cell? ⟨hb,0,none⟩=some (.pointer (some ⟨p,0,none⟩))∧HasB W jI 57 ic∧HasB W jR 52 rg:=⟨k.mp.own.cell 0,k.xi,k.xr⟩
theorem LdS.below {w W W':World} {hb p g y mb jI jR:Nat} {RA TA:Nat→Option Addr} {rc tc:Nat→Nat} {h:Ho} {ic rg:List Value} (k:LdS w hb p g y mb jI jR RA TA rc tc h ic rg W) (b:Below W.heap.size W W'):LdS w hb p g y mb jI jR RA TA rc tc h ic rg W':=
  ⟨k.mp.below b,k.xi.below b,k.xr.below b,chg2Below k.ch b,k.l,k.d⟩
theorem LdS.chgM {w W W':World} {hb p g y mb jI jR:Nat} {RA TA:Nat→Option Addr} {rc tc:Nat→Nat} {h:Ho} {ic rg:List Value} (k:LdS w hb p g y mb jI jR RA TA rc tc h ic rg W) (c:Chg g y W W'):LdS w hb p g y mb jI jR RA TA rc tc h ic rg W':=
  ⟨k.mp.keep (c.block hb (k.mp.own.lt) k.d.1 k.d.2.1) (c.block mb k.mp.map.lt k.d.2.2.1 k.d.2.2.2),k.xi.chg c (by have:=k.l;omega) (by have:=k.l;omega),k.xr.chg c (by have:=k.l;omega) (by have:=k.l;omega),chg2Trans k.ch c,k.l,k.d⟩
theorem LdS.chgN {w W W':World} {hb p g y mb jI jR j:Nat} {RA TA:Nat→Option Addr} {rc tc:Nat→Nat} {h:Ho} {ic rg:List Value} (k:LdS w hb p g y mb jI jR RA TA rc tc h ic rg W) (c:Chg j j W W') (hj:w.heap.size≤j) (h1:jI≠j) (h2:jR≠j):LdS w hb p g y mb jI jR RA TA rc tc h ic rg W':=
  ⟨k.mp.keep (c.block hb k.mp.own.lt (by have:=k.l;omega) (by have:=k.l;omega)) (c.block mb k.mp.map.lt (by have:=k.l;omega) (by have:=k.l;omega)),k.xi.chg c h1 h1,k.xr.chg c h2 h2,chg2New k.ch c hj,k.l,k.d⟩
theorem load_fin {w w10 WU:World} {z hb p g y mb jI jR:Nat} {RA TA:Nat→Option Addr} {rc tc:Nat→Nat} {h:Ho} {F:Nat→Prop} (I:HIn w hb p g y mb RA TA rc tc h F) {ic rg:List Value} {k b hf:Nat} {code data rep:List Int} {R9:Option Addr} {c9:Nat} (hk:k < h.m.length) (hno:∀ s,¬ h.has k s)
    (u1:U32 (b:Int)) (u2:U32 ((2 * hf:Nat):Int)) (hu:∀ v∈rep,U32 v) (hl:rep.length≤100000)
    (n9:∀ a,R9=some a→w.heap.size≤a.block) (L:LdS w hb p g y mb jI jR RA TA rc tc h ic rg w10) (K:KRow .u32 w10 R9 c9 rep) (M:MemAt w10 p g y (newB h.B ((b:Int),((2 * hf:Nat):Int)) code data) (newT h.T ((b:Int),((2 * hf:Nat):Int))))
    (mpU:MapAt WU mb (fun j=>if j=k then some (.agg ((newX ((b:Int),((2 * hf:Nat):Int)) rep).cs R9 c9 none 0).toArray) else valO h RA TA rc tc j)) (grU:w10.drew.grownBy WU (some mb)) (szU:WU.heap.size=w10.drew.heap.size) :
    ∃ F',HAt WU hb (loadO h k b hf code data rep) F'∧ChF F w WU∧SubF w F F':=by
  have hs:w.heap.size≤WU.heap.size:=by rw [szU];exact L.ch.size
  have d:=L.d
  have hne:=L.ne
  have lts:=L.l.1
  obtain ⟨ap1,ap2,ap3⟩:=I.apart
  have same:∀ i,i < w.heap.size→i≠g→i≠y→i≠mb→WU.heap[i]?=w.heap[i]?:=fun i hi h1 h2 h3=>
    (grU.block i (Nat.lt_of_lt_of_le hi L.ch.size) (by simpa using h3)).trans (L.ch.block i hi h1 h2)
  have ok:(newX ((b:Int),((2 * hf:Nat):Int)) rep).Ok:=newX_ok u1 u2 hu hl
  refine ⟨_,⟨p,g,y,mb,upd RA k R9,upd TA k none,upd rc k c9,upd tc k 0,I.put (s':=⟨b,hf,code,newX ((b:Int),((2 * hf:Nat):Int)) rep⟩) (RAk:=R9) (TAk:=none) (rck:=c9) (tck:=0) hk hs ?_ ?_ mpU ⟨ok,rfl,rfl⟩ ?_ (TrO.nil _) ?_ ?_ ?_ ?_⟩,?_,?_⟩
  · exact (grU.block hb L.mp.own.lt (by simpa using hne)).trans L.mp.own
  · have mb1:mb≠p∧mb≠g∧mb≠y:=ap2
    exact ⟨(grU.block p M.own.lt (by simpa using Ne.symm mb1.1)).trans M.own,(grU.block g M.bytes.lt (by simpa using Ne.symm mb1.2.1)).trans M.bytes,(grU.block y M.zones.lt (by simpa using Ne.symm mb1.2.2)).trans M.zones,M.len,M.pos,M.top,M.byte⟩
  · by_cases hr:rep=[]
    · exact K.same (by rw [szU];exact Nat.le_refl _) (.inl hr)
    · refine K.same (by rw [szU];exact Nat.le_refl _) (.inr (fun a ha=>?_))
      obtain ⟨q,hq,hb',_⟩:=K.2.2.2 hr
      rw [ha] at hq
      cases hq
      exact grU.block a.block hb' (by have:=n9 a ha;simp;omega)
  · intro j t hj ht
    refine ⟨?_,fun a ha=>?_⟩
    · rcases I.repOff ht with h1 | ⟨h1,h2,h3⟩
      · exact .inl h1
      · rcases I.rows.rep j t ht with h4 | h4
        · exact .inl h4
        · exact .inr (fun a ha=>same a.block (I.lim _ (h4 a ha)) (h1 a ha) (h2 a ha) (h3 a ha))
    · obtain ⟨t1,t2,_⟩:=I.rows.tr j t ht a ha
      exact same a.block (I.lim _ t1) t2.2.2.1 t2.2.2.2.1 t2.2.2.2.2
  · by_cases hr:rep=[]
    · exact .inl hr
    · refine .inr (fun a ha=>.inr ⟨n9 a ha,?_⟩)
      obtain ⟨q,hq,hb',_⟩:=K.2.2.2 hr
      rw [ha] at hq
      cases hq
      rw [szU];exact hb'
  · intro a ha;cases ha
  · intro j t hj ht a ha
    obtain ⟨t1,_⟩:=I.rows.tr j t ht a ha
    have:=I.lim _ t1
    exact ⟨.inr (fun x hx e=>by have:=n9 x hx;omega),fun x hx=>by cases hx⟩
  · refine ⟨grU.os.trans L.ch.os,grU.tape.trans L.ch.tape,grU.output.trans L.ch.output,hs,fun i hi hn=>same i hi (fun e=>hn (by subst e;exact I.rows.inF _ (by simp))) (fun e=>hn (by subst e;exact I.rows.inF _ (by simp))) (fun e=>hn (by subst e;exact I.rows.inF _ (by simp)))⟩
  · rintro i (hi | hi)
    · exact .inl hi
    · exact .inr hi.1
theorem loadE_img {z:Nat} {h:Ho} {E:Int} {code data:List Int} {size:Int} (hE:E≠0):loadE z h E code data size=E:=by unfold loadE;rw [if_pos hE]
theorem loadE_size {z:Nat} {h:Ho} {code data:List Int} {size:Int} (hp:powS size=true) (hf:¬ ((code.length:Int)≤size / 2 - 32∧(data.length:Int)≤size / 2)):loadE z h 0 code data size=4:=by
  unfold loadE
  rw [if_neg (by simp),if_neg (by rw [hp];decide),if_pos hf]
theorem loadE_place {z:Nat} {h:Ho} {code data:List Int} {size:Int} (hp:powS size=true) (hf:(code.length:Int)≤size / 2 - 32∧(data.length:Int)≤size / 2):loadE z h 0 code data size=placeE z h size:=by
  unfold loadE placeE
  rw [if_neg (by simp),if_neg (by rw [hp];decide),if_neg (by simp [hf])]
  cases freeO h <;> rfl
set_option maxHeartbeats 16000000 in
theorem hLoad:HLoadC:=by
  intro w hb z h F A cap n l size RA0 rc0 rn rep ⟨p,g,y,mb,RA,TA,rc,tc,I⟩ H z1 z2 R hn hn2 hp KR hrl hrl2
  have IH:=Lib.hid I
  have SP:=Lib.hid (And.intro hp (powS_pos hp))
  have FC:=Lib.hid (fitting_h A cap n l size hn hn2 hp w R)
  have LT:=Lib.hid I.lt
  have AP:=Lib.hid I.apart
  have HZ:=Lib.hid H
  have KR0:=Lib.hid KR
  have IH0:=Lib.hid I
  have IKR:=Lib.hid (fun (j:Nat) (hj:w.heap.size≤j)=>KR.offNew hj)
  have HRL:=Lib.hid (And.intro hrl hrl2)
  have ZZ:=Lib.hid (And.intro z1 z2)
  have LIM:Hid ((codeI l).length≤4200∧(dataL l).length≤4200):=Lib.hid ⟨by unfold codeI;rw [List.length_take,List.length_drop];omega,by unfold dataL;rw [List.length_take,List.length_drop];omega⟩
  have hTL:h.T.length=z:=H.zl
  clear I R hn hn2 hp H KR hrl hrl2 z1 z2
  have hnp:∀ w:World,(binOp .eql 26 (.pointer (some ⟨hb,0,none⟩)) (.pointer none)).run Tryz.prog w=.ok (.bool false) w:=fun _=>rfl
  go_enter Tryz.func9,Tryz.ntmps9
  go_wp2_with fail
  refine FC.out.mono ?_;rintro e w1 ⟨b1,hq⟩
  have I1:=Lib.hid (IH.out.below b1)
  have KR1:=Lib.hid (KR0.out.below b1)
  have B1:=Lib.hid b1
  have hq2:(∃ E,E≠0∧loadE z h (imgE l) (codeI l) (dataL l) size=E∧e=.returned (.tuple #[.agg #[.slice none 0 0,.slice none 0 0],.int .i64 E])) ∨
      (imgE l=0∧fitIs l size∧∃ A5 c5 A6 c6,e=.returned (.tuple #[.agg #[.slice A5 (codeI l).length c5,.slice A6 (dataL l).length c6],.int .i64 0])∧Own w.heap.size w1 A5 c5 (codeI l)∧Own w.heap.size w1 A6 c6 (dataL l)):=by
    rcases hq with ⟨hE,rfl⟩ | ⟨hE,hf,rfl⟩ | hq
    · exact .inl ⟨_,hE,loadE_img hE,rfl⟩
    · exact .inl ⟨4,by decide,by rw [hE];exact loadE_size SP.out.1 hf,rfl⟩
    · exact .inr hq
  clear hq FC IH KR0 b1
  obtain ⟨W2,e2,X2,I2,B2,K2,S2⟩:∃ W2,w1.alloc (.cells #[.slice none 0 0,.slice none 0 0] 57)=W2∧Hid (HasB W2 w1.heap.size 57 [.slice none 0 0,.slice none 0 0])∧Hid (HIn W2 hb p g y mb RA TA rc tc h F)∧Hid (Below w.heap.size w W2)∧Hid (KRow .u32 W2 RA0 rc0 rep)∧Hid (w.heap.size≤w1.heap.size∧w1.heap.size < W2.heap.size):=by
    have b:=bel_al (Below.refl w1.heap.size w1) (.cells #[.slice none 0 0,.slice none 0 0] 57)
    exact ⟨_,rfl,Lib.hid (HasB.new w1 57 _),Lib.hid (I1.out.below b),Lib.hid (bel_then B1.out b),Lib.hid (KR1.out.below b),Lib.hid ⟨B1.out.size,by simp⟩⟩
  rcases hq2 with ⟨E,hE,hLE,rfl⟩ | ⟨hE,hf,A5,c5,A6,c6,rfl,o5,o6⟩
  · have q:(E != 0)=true:=by simpa using hE
    have HE:=Lib.hid hE
    have HLE:=Lib.hid hLE
    clear hE hLE I1 KR1 B1
    dsimp only
    go_wp2_with (first
      | (refine st_any rfl 57 (.tmp 10) (.tmp 21) rfl rfl w1.heap.size [.slice none 0 0,.slice none 0 0] [.slice none 0 0,.slice none 0 0] (by rfl) (by rfl) X2.out rfl (by kernel_rfl) (by simp [Value.oneCell']) ?_;intro W3 r3 c3;have I3:=Lib.hid (I2.out.same c3.size (fun i hi=>c3.block i (I2.out.lim i hi) (by have:=IH0.out.lim i hi;have:=S2.out;omega) (by have:=IH0.out.lim i hi;have:=S2.out;omega)));have B3:=Lib.hid (Below.trans B2.out (Below.ofNew c3 B2.out.size S2.out.1))))
    (try simp only [Act.put,lsA,lsZ,lsS])
    refine bodyPost_ret (v:=.tuple #[.int .i64 0,.int .i64 E]) (by simp [results,Tryz.results9]) rfl ?_
    exact .inl ⟨by rw [HLE.out];exact HE.out,by rw [HLE.out],⟨p,g,y,mb,RA,TA,rc,tc,I3.out⟩,B3.out⟩
  · have HE:=Lib.hid hE
    have HF:=Lib.hid hf
    obtain ⟨cn,hcn⟩:∃ cn,(codeI l).length=cn:=⟨_,rfl⟩
    obtain ⟨dn,hdn⟩:∃ dn,(dataL l).length=dn:=⟨_,rfl⟩
    rw [hcn,hdn] at LIM
    rw [hcn,hdn]
    have HC:=Lib.hid hcn
    have HD:=Lib.hid hdn
    obtain ⟨code,hcode⟩:∃ code,codeI l=code:=⟨_,rfl⟩
    obtain ⟨data,hdata⟩:∃ data,dataL l=data:=⟨_,rfl⟩
    rw [hcode] at o5 HC
    rw [hdata] at o6 HD
    have O5:=Lib.hid o5
    have O6:=Lib.hid o6
    have bW:Below w1.heap.size w1 W2:=by rw [← e2];exact bel_al (Below.refl _ _) _
    have P5:=Lib.hid (o5.below bW)
    have P6:=Lib.hid (o6.below bW)
    have OF5:=Lib.hid (OwnOff o5 (Nat.le_refl w1.heap.size))
    have OF6:=Lib.hid (OwnOff o6 (Nat.le_refl w1.heap.size))
    have HCODE:=Lib.hid hcode
    have HDATA:=Lib.hid hdata
    clear hE hf I1 KR1 B1 o5 o6 hcn hdn hcode hdata O5 O6 bW
    dsimp only
    go_wp2_with (first
      | (refine st_any rfl 57 (.tmp 10) (.tmp 21) rfl rfl w1.heap.size [.slice none 0 0,.slice none 0 0] [.slice A5 cn c5,.slice A6 dn c6] (by rfl) (by rfl) X2.out rfl (by kernel_rfl) (by simp [Value.oneCell']) ?_;intro W3 r3 c3;have I3:=Lib.hid (I2.out.same c3.size (fun i hi=>c3.block i (I2.out.lim i hi) (by have:=IH0.out.lim i hi;have:=S2.out;omega) (by have:=IH0.out.lim i hi;have:=S2.out;omega)));have B3:=Lib.hid (Below.trans B2.out (Below.ofNew c3 B2.out.size S2.out.1));have Q5:=Lib.hid (OwnChg P5.out c3 OF5.out);have Q6:=Lib.hid (OwnChg P6.out c3 OF6.out);have KR3:=Lib.hid (K2.out.off c3 (IKR.out _ S2.out.1));have R3:=Lib.hid r3;clear r3 c3 e2))
    have PC:=Lib.hid (place_h I3.out HZ.out ZZ.out.1 ZZ.out.2 size SP.out.1)
    refine PC.out.mono ?_;rintro e w4 ⟨rfl,b4⟩
    have I4:=Lib.hid (I3.out.below b4)
    have B4:=Lib.hid (bel_then B3.out b4)
    have T5:=Lib.hid (Q5.out.below b4)
    have T6:=Lib.hid (Q6.out.below b4)
    have KR4:=Lib.hid (KR3.out.below b4)
    have R4:=Lib.hid (R3.out.below b4)
    clear b4 PC I3 B3 Q5 Q6 KR3 R3 I2 B2 K2 P5 P6 OF5 OF6 X2 IKR
    obtain ⟨pe,hpe⟩:∃ pe,placeE z h size=pe:=⟨_,rfl⟩
    rw [hpe]
    have HLE:Hid (loadE z h (imgE l) (codeI l) (dataL l) size=pe):=Lib.hid (by rw [HE.out,loadE_place SP.out.1 HF.out];exact hpe)
    clear hpe
    by_cases hp0:pe=0
    · subst hp0
      obtain ⟨k,b,hf2,q1,q2,q3,q4,q5,q6,q7,q8,q9,q10⟩:=load_ok HZ.out (HLE.out)
      obtain ⟨bi,hbi⟩:∃ bi,takeV (regsU h) ((64 * z:Nat):Int) size=bi:=⟨_,rfl⟩
      rw [if_pos rfl,hbi]
      rw [HCODE.out,HC.out] at q9
      rw [HDATA.out,HD.out] at q10
      obtain ⟨rq1,rq2,rq3,rq4⟩:=reg_iff.1 q7
      have HFR:=Lib.hid q1
      have HK16:=Lib.hid q5
      have RIB:Hid (RgI (bi,size)∧newE code data (bi,size) (64 * h.T.length)=0):=Lib.hid (by
        have e1:bi=(b:Int):=by rw [← hbi];exact q3
        have hp:=SP.out
        refine ⟨⟨?_,?_⟩,?_⟩
        · simp only at rq4 ⊢;have:=ZZ.out;omega
        · simp only;omega
        · unfold newE
          have hv:verE code=0:=by
            have:=HE.out
            unfold imgE at this
            by_cases h0:errL l=0
            · rw [if_neg (by simp [h0])] at this;rw [← HCODE.out];exact this
            · rw [if_pos h0] at this;exact absurd this h0
          rw [if_neg (by simp [hv])]
          have hlen1:decide ((code.length:Int)≤size / 2 - 32)=true:=decide_eq_true (by rw [HC.out];omega)
          have hlen2:decide ((data.length:Int)≤size / 2)=true:=decide_eq_true (by rw [HD.out];omega)
          simp only [hp.1,hlen1,hlen2,Bool.and_true]
          rw [if_neg (by decide),hTL]
          have:=reg_one (n:=((64 * z:Nat):Int)) (r:=((b:Int),((2 * hf2:Nat):Int))) (by omega) (by have:=ZZ.out;omega) q7
          rw [e1,q2,show (64 * (z:Int))=((64 * z:Nat):Int) by omega,this]
          simp)
      have LFIN:Hid (∀ R9 c9 w10 WU cs9,(newX (bi,size) rep).cs R9 c9 none 0=cs9→(∀ a,R9=some a→w.heap.size≤a.block)→LdS w hb p g y mb w1.heap.size w4.heap.size RA TA rc tc h [.slice A5 cn c5,.slice A6 dn c6] [.int .i64 bi,.int .i64 size] w10→KRow .u32 w10 R9 c9 rep→MemAt w10 p g y (newB h.B (bi,size) code data) (newT h.T (bi,size)) →
          MapAt WU mb (fun j=>if j=k then some (.agg cs9.toArray) else valO h RA TA rc tc j)→w10.drew.grownBy WU (some mb)→WU.heap.size=w10.drew.heap.size→HLoadP w hb z h F l size rep (.returned (.tuple #[.int .i64 (k:Int),.int .i64 0])) WU):=Lib.hid (by
        intro R9 c9 w10 WU cs9 hcs n9 L K M mp gr sz
        have e1:bi=(b:Int):=by rw [← hbi];exact q3
        have hno:∀ s,¬ h.has k s:=fun s hs=>by unfold Ho.has at hs;rw [q6] at hs;cases hs
        refine .inr ⟨HLE.out,k,b,hf2,q1,q2,q3,rfl,?_⟩
        rw [HCODE.out,HDATA.out]
        subst hcs
        rw [e1,q2] at mp M L
        have hsz:=SP.out.2
        have:=ZZ.out
        simp only at rq4
        refine load_fin (z:=z) IH0.out (by have:=HZ.out.ml;omega) hno (by unfold U32;omega) (by unfold U32;omega) (fun v hv=>kr_u32 KR4.out v hv) (by have:=HRL.out;omega) n9 L K M mp gr sz)
      have UB:U32 bi:=by
        have e1:bi=(b:Int):=by rw [← hbi];exact q3
        simp only at rq4
        have:=ZZ.out
        unfold U32
        omega
      have US:U32 size:=by have:=SP.out;unfold U32;omega
      have LCN:Hid (∀ R9 c9,((newX (bi,size) rep).cs R9 c9 none 0).length=18∧∀ v∈(newX (bi,size) rep).cs R9 c9 none 0,v.oneCell'=true):=Lib.hid (fun R9 c9=>bx_len (newX_ok (r:=(bi,size)) UB US (fun v hv=>kr_u32 KR4.out v hv) (by have:=HRL.out;omega)).c R9 c9 none 0)
      clear q1 q2 q3 q4 q5 q6 q7 q8 q9 q10 rq1 rq2 rq3 rq4 hbi UB US
      obtain ⟨jI,hjI⟩:∃ jI,w1.heap.size=jI:=⟨_,rfl⟩
      obtain ⟨jR,hjR⟩:∃ jR,w4.heap.size=jR:=⟨_,rfl⟩
      have HJI:=Lib.hid hjI
      have HJR:=Lib.hid hjR
      rw [hjI,hjR] at LFIN
      rw [hjI] at R4 S2
      rw [hjI]
      obtain ⟨W5,e5,X5,I5,B5,T55,T65,KR5,R5,S5⟩:∃ W5,w4.alloc (.cells #[.int .i64 0,.int .i64 0] 52)=W5∧Hid (HasB W5 jR 52 [.int .i64 0,.int .i64 0])∧Hid (HIn W5 hb p g y mb RA TA rc tc h F)∧Hid (Below w.heap.size w W5)∧Hid (Own w.heap.size W5 A5 c5 code)∧Hid (Own w.heap.size W5 A6 c6 data)∧Hid (KRow .u32 W5 RA0 rc0 rep)∧Hid (HasB W5 jI 57 [.slice A5 cn c5,.slice A6 dn c6])∧Hid (w.heap.size≤jI∧w.heap.size≤jR∧jI < jR):=by
        have b:=bel_al (Below.refl w4.heap.size w4) (.cells #[.int .i64 0,.int .i64 0] 52)
        exact ⟨_,rfl,Lib.hid (by rw [← hjR];exact HasB.new w4 52 _),Lib.hid (I4.out.below b),Lib.hid (bel_then B4.out b),Lib.hid (T5.out.below b),Lib.hid (T6.out.below b),Lib.hid (KR4.out.below b),Lib.hid (R4.out.below b),Lib.hid ⟨S2.out.1,by have:=B4.out.size;omega,by have:=R4.out.lt;omega⟩⟩
      have OF5:=Lib.hid (OwnNe T55.out X5.out (by decide))
      have OF6:=Lib.hid (OwnNe T65.out X5.out (by decide))
      have OFK:=Lib.hid (KR4.out.offNew (by omega:w4.heap.size≤jR))
      clear I4 B4 T5 T6 KR4 R4
      (try simp only [hjR])
      go_wp2_with (first
        | (refine st_any rfl 52 (.tmp 12) (.tmp 30) rfl rfl jR [.int .i64 0,.int .i64 0] [.int .i64 bi,.int .i64 size] (by rfl) (by rfl) X5.out rfl (by kernel_rfl) (by simp [Value.oneCell']) ?_;intro W6 r6 c6;have R6:=Lib.hid r6;have C6:=Lib.hid c6;clear r6 c6 e5))
      have L6:Hid (LdS w hb p g y mb jI jR RA TA rc tc h [.slice A5 cn c5,.slice A6 dn c6] [.int .i64 bi,.int .i64 size] W6):=Lib.hid (by
        have lt:=LT.out
        have s5:=S5.out
        refine ⟨I5.out.mp.keep (C6.out.block hb I5.out.own.lt (by omega) (by omega)) (C6.out.block mb I5.out.map.lt (by omega) (by omega)),R5.out.chg C6.out (by omega) (by omega),R6.out,chg2New (Chg.of B5.out) C6.out s5.2.1,⟨lt,s5.1,s5.2.1⟩,AP.out.1.2.1,AP.out.1.2.2.1,AP.out.2.1.2.1,AP.out.2.1.2.2⟩)
      have M6:=Lib.hid (I5.out.mem.chg C6.out (by have:=LT.out;have:=S5.out;omega) (by have:=LT.out;have:=S5.out;omega) (by have:=LT.out;have:=S5.out;omega) (by have:=LT.out;have:=S5.out;omega) (by have:=LT.out;have:=S5.out;omega) (by have:=LT.out;have:=S5.out;omega))
      have O56:=Lib.hid (OwnChg T55.out C6.out OF5.out)
      have O66:=Lib.hid (OwnChg T65.out C6.out OF6.out)
      have K6:=Lib.hid (KR5.out.off C6.out OFK.out)
      have NC:Hid (∀ w',Below W6.heap.size W6 w'→Calls Tryz.prog 25 #[.pointer (some ⟨p,0,none⟩),.agg #[.int .i64 bi,.int .i64 size],.agg #[.slice A5 cn c5,.slice A6 dn c6],.slice RA0 rn rc0] w' fun e w''=>∃ R9 c9,e=.returned (.tuple #[.agg ((newX (bi,size) rep).cs R9 c9 none 0).toArray,.int .i64 0])∧KRow .u32 w'' R9 c9 rep∧MemAt w'' p g y (newB h.B (bi,size) code data) (newT h.T (bi,size))∧Chg g y w' w''∧(∀ a,R9=some a→w'.heap.size≤a.block)):=Lib.hid (by
        intro w' b'
        refine (newC2 p g y h.B h.T (bi,size) A5 c5 cn code A6 c6 dn data RA0 rc0 rn rep w' RIB.out.1 HC.out (by have:=LIM.out;omega) HD.out (by have:=LIM.out;omega) HRL.out.1 HRL.out.2 (M6.out.below b') (O56.out.row.below b') (O66.out.row.below b') (K6.out.below b') (.inr (fun a ha e=>by have:=(O56.out.own.lt a.block (by rw [ha];rfl)).1;have:=LT.out;omega)) (.inr (fun a ha e=>by have:=(O66.out.own.lt a.block (by rw [ha];rfl)).1;have:=LT.out;omega))).mono ?_
        rintro e w'' ⟨R9,c9,⟨h1,_⟩ | ⟨_,rfl,h3,h4,h5,h6⟩⟩
        · exact absurd RIB.out.2 h1
        · exact ⟨R9,c9,rfl,h3,h4,h5,h6⟩)
      have LQ:=Lib.hid (L6.out.below (Below.refl _ _).drew)
      have DS:=Lib.hid LQ.out.s
      have BD:Hid (Below W6.heap.size W6 W6.drew):=Lib.hid (Below.refl _ _).drew
      obtain ⟨jb,hjb0⟩:∃ jb,W6.drew.heap.size=jb:=⟨_,rfl⟩
      have JB:Hid (w.heap.size≤jb∧jI < jb∧jR < jb):=Lib.hid (by have:=LQ.out.xi.lt;have:=LQ.out.xr.lt;have:=S5.out;omega)
      obtain ⟨WB,eB,XBA,LQB,BB⟩:∃ WB,W6.drew.alloc (.cells ([.int .u32 0,.int .u32 0,.int .u32 0,.int .u32 0,.int .u32 0,.int .u32 0,.int .u32 0,.int .u32 0,.int .u32 0,.int .u32 0,.int .u32 0,.slice none 0 0,.int .i64 0,.slice none 0 0,.bool false,.int .u32 0,.int .i64 0,.int .i64 0]:List Value).toArray 82)=WB∧Hid (HasB WB jb 82 [.int .u32 0,.int .u32 0,.int .u32 0,.int .u32 0,.int .u32 0,.int .u32 0,.int .u32 0,.int .u32 0,.int .u32 0,.int .u32 0,.int .u32 0,.slice none 0 0,.int .i64 0,.slice none 0 0,.bool false,.int .u32 0,.int .i64 0,.int .i64 0])∧Hid (LdS w hb p g y mb jI jR RA TA rc tc h [.slice A5 cn c5,.slice A6 dn c6] [.int .i64 bi,.int .i64 size] WB)∧Hid (Below W6.heap.size W6 WB):=by
        have b:=bel_al (Below.refl W6.drew.heap.size W6.drew) (.cells ([.int .u32 0,.int .u32 0,.int .u32 0,.int .u32 0,.int .u32 0,.int .u32 0,.int .u32 0,.int .u32 0,.int .u32 0,.int .u32 0,.int .u32 0,.slice none 0 0,.int .i64 0,.slice none 0 0,.bool false,.int .u32 0,.int .i64 0,.int .i64 0]:List Value).toArray 82)
        exact ⟨_,rfl,Lib.hid (by rw [← hjb0];exact HasB.new W6.drew 82 [.int .u32 0,.int .u32 0,.int .u32 0,.int .u32 0,.int .u32 0,.int .u32 0,.int .u32 0,.int .u32 0,.int .u32 0,.int .u32 0,.int .u32 0,.slice none 0 0,.int .i64 0,.slice none 0 0,.bool false,.int .u32 0,.int .i64 0,.int .i64 0]),Lib.hid (LQ.out.below b),Lib.hid (bel_then BD.out b)⟩
      clear L6 M6 O56 O66 K6 I5 B5 T55 T65 KR5 R5 X5 OF5 OF6 OFK R6 C6 IH0 RIB
      go_wp2_with fail
      refine wp_region_noPanic ?_
      refine wp_region_held_drew (S:=(fun w'=>w'.cell? ⟨hb,0,none⟩=some (.pointer (some ⟨p,0,none⟩))∧HasB w' jI 57 [.slice A5 cn c5,.slice A6 dn c6]∧HasB w' jR 52 [.int .i64 bi,.int .i64 size])) (by kernel_rfl) ?_ (fun hHeld=>?_)
      · (try dsimp only)
        exact DS.out
      refine wT 0 ?_
      refine wT 1 ?_
      refine wT 2 ?_
      refine wT 3 ?_
      refine wpAnyH_take (i:=4) (oi:={ dst:=some 40,op:=Op.load 52 (Operand.tmp 12),type:=52,pos:= "host.go:58",after:=#[],guard:=none }) (v:=?_) rfl (by kernel_rfl) (by kernel_rfl) (by kernel_rfl) (fun _ _ _ h=>h) (Or.inl ⟨by rfl,?_⟩) (by assumption) ?_
      rotate_left
      · intro wz hSw;refine exec_load_has 52 (.tmp 12) ?_ (jR) ?_ hSw.2.2 ?_ Tryz.underlying52 ?_ <;> first | rfl | (rw [LC.out.1];kernel_rfl) | kernel_rfl
      (try simp only [Act.put,lsA,lsZ,lsS])
      refine wpAnyH_take (i:=5) (oi:={ dst:=some 41,op:=Op.load 57 (Operand.tmp 10),type:=57,pos:= "host.go:58",after:=#[],guard:=none }) (v:=?_) rfl (by kernel_rfl) (by kernel_rfl) (by kernel_rfl) (fun _ _ _ h=>h) (Or.inl ⟨by rfl,?_⟩) (by assumption) ?_
      rotate_left
      · intro wz hSw;refine exec_load_has 57 (.tmp 10) ?_ (jI) ?_ hSw.2.1 ?_ Tryz.underlying57 ?_ <;> first | rfl | (rw [LC.out.1];kernel_rfl) | kernel_rfl
      (try simp only [Act.put,lsA,lsZ,lsS])
      refine wT 6 ?_
      refine wpAnyH_ready (rs:=[7,11]) (by kernel_rfl) (by simp) ?_
      refine rC (fun K hK=>?_) ?_
      · go_simp
        (with_reducible refine (NC.out _ BD.out).mono ?_)
        rintro e w9 ⟨R9,c9,rfl,k9,m9,g9,n9⟩
        obtain ⟨cs9,hcs9⟩:∃ cs9,(newX (bi,size) rep).cs R9 c9 none 0=cs9:=⟨_,rfl⟩
        rw [hcs9]
        have LC:Hid (cs9.length=18∧∀ v∈cs9,v.oneCell'=true):=Lib.hid (by rw [← hcs9];exact LCN.out R9 c9)
        have HCS:=Lib.hid hcs9
        clear hcs9
        have L9:=Lib.hid (LQ.out.chgM g9)
        have K9:=Lib.hid k9
        have M9:=Lib.hid m9
        have N9:=Lib.hid (fun (a:Addr) (ha:R9=some a)=>(Nat.le_trans LQ.out.ch.size (n9 a ha):w.heap.size≤a.block))
        have KS9:=Lib.hid L9.out.s
        have SZ9:=Lib.hid (show w.heap.size≤w9.heap.size from Nat.le_trans LQ.out.ch.size g9.size)
        obtain ⟨jb,hjb⟩:∃ jb,w9.heap.size=jb:=⟨_,rfl⟩
        obtain ⟨WA,eA,XB9,LA,KA,MA⟩:∃ WA,w9.alloc (.cells ([.int .u32 0,.int .u32 0,.int .u32 0,.int .u32 0,.int .u32 0,.int .u32 0,.int .u32 0,.int .u32 0,.int .u32 0,.int .u32 0,.int .u32 0,.slice none 0 0,.int .i64 0,.slice none 0 0,.bool false,.int .u32 0,.int .i64 0,.int .i64 0]:List Value).toArray 82)=WA∧Hid (HasB WA jb 82 [.int .u32 0,.int .u32 0,.int .u32 0,.int .u32 0,.int .u32 0,.int .u32 0,.int .u32 0,.int .u32 0,.int .u32 0,.int .u32 0,.int .u32 0,.slice none 0 0,.int .i64 0,.slice none 0 0,.bool false,.int .u32 0,.int .i64 0,.int .i64 0])∧Hid (LdS w hb p g y mb jI jR RA TA rc tc h [.slice A5 cn c5,.slice A6 dn c6] [.int .i64 bi,.int .i64 size] WA)∧Hid (KRow .u32 WA R9 c9 rep)∧Hid (MemAt WA p g y (newB h.B (bi,size) code data) (newT h.T (bi,size))):=by
          have bA:=bel_al (Below.refl w9.heap.size w9) (.cells ([.int .u32 0,.int .u32 0,.int .u32 0,.int .u32 0,.int .u32 0,.int .u32 0,.int .u32 0,.int .u32 0,.int .u32 0,.int .u32 0,.int .u32 0,.slice none 0 0,.int .i64 0,.slice none 0 0,.bool false,.int .u32 0,.int .i64 0,.int .i64 0]:List Value).toArray 82)
          exact ⟨_,rfl,Lib.hid (by rw [← hjb];exact HasB.new w9 82 [.int .u32 0,.int .u32 0,.int .u32 0,.int .u32 0,.int .u32 0,.int .u32 0,.int .u32 0,.int .u32 0,.int .u32 0,.int .u32 0,.int .u32 0,.slice none 0 0,.int .i64 0,.slice none 0 0,.bool false,.int .u32 0,.int .i64 0,.int .i64 0]),Lib.hid (L9.out.below bA),Lib.hid (k9.below bA),Lib.hid (m9.below bA)⟩
        have JB9:Hid (w.heap.size≤jb∧jI < jb∧jR < jb):=Lib.hid (by have:=SZ9.out;have:=L9.out.xi.lt;have:=L9.out.xr.lt;omega)
        have KSA:=Lib.hid LA.out.s
        have O9:Hid (rep=[]∨Off R9 jb):=Lib.hid (k9.offNew (by omega))
        clear k9 m9 g9 n9
        refine hK.out _ _ ?_ (fun hHeld=>?_)
        · (try dsimp only)
          exact KS9.out
        clear hK K
        (try simp only [Act.put,lsA,lsZ,lsS])
        refine wT 8 ?_
        refine wT 9 ?_
        refine wT 10 ?_
        refine wpAnyH_ready (rs:=[11]) (by kernel_rfl) (by simp) ?_
        refine rC (fun K hK=>?_) ?_
        · go_simp
          (try rw [eA])
          (try rw [hjb])
          refine hK.out _ _ ?_ (fun hHeld=>?_)
          · (try dsimp only)
            exact KSA.out
          clear hK K
          (try simp only [Act.put,lsA,lsZ,lsS])
          refine wpAnyH_ready (rs:=[12]) (by kernel_rfl) (by simp) ?_
          refine rC (fun K hK=>?_) ?_
          · (refine st_has 82 (.tmp 13) (.tmp 44) rfl rfl jb [.int .u32 0,.int .u32 0,.int .u32 0,.int .u32 0,.int .u32 0,.int .u32 0,.int .u32 0,.int .u32 0,.int .u32 0,.int .u32 0,.int .u32 0,.slice none 0 0,.int .i64 0,.slice none 0 0,.bool false,.int .u32 0,.int .i64 0,.int .i64 0] cs9 rfl rfl XB9.out (by rw [LC.out.1];rfl) (by rw [LC.out.1];kernel_rfl) LC.out.2 ?_;intro WZ rZ cZ)
            have LZ:=Lib.hid (LA.out.chgN cZ JB9.out.1 (by have:=JB9.out;omega) (by have:=JB9.out;omega))
            have KSZ:=Lib.hid LZ.out.s
            have KZ:Hid (KRow .u32 WZ R9 c9 rep):=Lib.hid (KA.out.off cZ O9.out)
            have MZ:=Lib.hid (MA.out.chg cZ (by have:=LT.out;have:=JB9.out;omega) (by have:=LT.out;have:=JB9.out;omega) (by have:=LT.out;have:=JB9.out;omega) (by have:=LT.out;have:=JB9.out;omega) (by have:=LT.out;have:=JB9.out;omega) (by have:=LT.out;have:=JB9.out;omega))
            have RZ:=Lib.hid rZ
            clear rZ cZ
            refine hK.out _ _ ?_ (fun hHeld=>?_)
            · (try dsimp only)
              exact KSZ.out
            clear hK K
            (try simp only [Act.put,lsA,lsZ,lsS])
            refine wT 13 ?_
            refine wpAnyH_done (by kernel_rfl) ?_ _
            refine NoPanic.normal ?_
            clear hHeld
            go_wp2_with fail
            have FR:=Lib.hid (free_h LZ.out.mp HZ.out HFR.out)
            refine FR.out.mono ?_;rintro e w10 ⟨rfl,b10⟩
            have LX:=Lib.hid (LZ.out.below b10)
            have KX:=Lib.hid (KZ.out.below b10)
            have MX:=Lib.hid (MZ.out.below b10)
            have RX:=Lib.hid (RZ.out.below b10)
            clear FR b10 LZ KZ MZ RZ
            obtain ⟨WU,hmu,mpU,grU,szU⟩:=(LX.out.mp.map.below (Below.refl _ _).drew).put (P:=Tryz.prog) (mt:=67) Tryz.underlying67 Tryz.underlying3 k HK16.out (.agg cs9.toArray)
            have FIN:=Lib.hid (LFIN.out R9 c9 w10 WU cs9 HCS.out N9.out LX.out KX.out MX.out mpU grU szU)
            have D13:Hid (w10.drew.cell? ⟨hb,1,none⟩=some (.map (some mb))∧HasB w10.drew jb 82 cs9):=Lib.hid ⟨(LX.out.mp.own.below (Below.refl _ _).drew).cell 1,RX.out.below (Below.refl _ _).drew⟩
            have E13:Hid (WU.cell? ⟨hb,1,none⟩=some (.map (some mb))∧HasB WU jb 82 cs9):=Lib.hid ⟨(cell_same (p:=⟨hb,1,none⟩) (grU.block hb (LX.out.mp.own.lt) (by simpa using LX.out.ne))).trans ((LX.out.mp.own.below (Below.refl _ _).drew).cell 1),(grU.block jb RX.out.lt (by have:=map_ne LX.out.mp.map RX.out;simpa using (Ne.symm this))).trans RX.out⟩
            clear mpU grU szU LX KX MX RX
            go_wp2_with fail
            refine wp_region_noPanic ?_
            refine wp_region_held_drew (S:=(fun w'=>w'.cell? ⟨hb,1,none⟩=some (.map (some mb))∧HasB w' jb 82 cs9)) (by kernel_rfl) ?_ (fun hHeld=>?_)
            · (try dsimp only)
              exact D13.out
            refine wT 0 ?_
            refine wT 1 ?_
            refine wT 2 ?_
            refine wT 3 ?_
            refine wT 4 ?_
            refine wpAnyH_take (i:=5) (oi:={ dst:=some 56,op:=Op.load 82 (Operand.tmp 13),type:=82,pos:= "host.go:63",after:=#[],guard:=none }) (v:=?_) rfl (by kernel_rfl) (by kernel_rfl) (by kernel_rfl) (fun _ _ _ h=>h) (Or.inl ⟨by rfl,?_⟩) (by assumption) ?_
            rotate_left
            · intro wz hSw;refine exec_load_has 82 (.tmp 13) ?_ (jb) ?_ hSw.2 ?_ Tryz.underlying82 ?_ <;> first | rfl | (rw [LC.out.1];kernel_rfl) | kernel_rfl
            (try simp only [Act.put,lsA,lsZ,lsS])
            refine wpAnyH_ready (rs:=[6]) (by kernel_rfl) (by simp) ?_
            refine rC (fun K hK=>?_) ?_
            · (refine mu_has 67 (.tmp 54) (.tmp 55) (.tmp 56) rfl rfl WU (by first | exact hmu | (simpa using hmu)) ?_)
              refine hK.out _ _ ?_ (fun hHeld=>?_)
              · (try dsimp only)
                exact E13.out
              clear hK K
              (try simp only [Act.put,lsA,lsZ,lsS])
              refine wpAnyH_done (by kernel_rfl) ?_ _
              refine NoPanic.normal ?_
              go_wp2_with fail
              (try simp only [Act.put,lsA,lsZ,lsS])
              refine bodyPost_ret (v:=.tuple #[.int .i64 (k:Int),.int .i64 0]) (by simp [results,Tryz.results9]) rfl ?_
              exact FIN.out
            exact AllReadyH.nil
          exact AllReadyH.nil
        exact AllReadyH.nil
      refine rC (fun K hK=>?_) ?_
      · go_simp
        (try rw [eB])
        (try rw [hjb0])
        have LQ:=LQB
        have KSA:=Lib.hid LQB.out.s
        refine hK.out _ _ ?_ (fun hHeld=>?_)
        · (try dsimp only)
          exact KSA.out
        clear hK K
        (try simp only [Act.put,lsA,lsZ,lsS])
        refine wpAnyH_ready (rs:=[7]) (by kernel_rfl) (by simp) ?_
        refine rC (fun K hK=>?_) ?_
        · go_simp
          (with_reducible refine (NC.out _ BB.out).mono ?_)
          rintro e w9 ⟨R9,c9,rfl,k9,m9,g9,n9⟩
          obtain ⟨cs9,hcs9⟩:∃ cs9,(newX (bi,size) rep).cs R9 c9 none 0=cs9:=⟨_,rfl⟩
          rw [hcs9]
          have LC:Hid (cs9.length=18∧∀ v∈cs9,v.oneCell'=true):=Lib.hid (by rw [← hcs9];exact LCN.out R9 c9)
          have HCS:=Lib.hid hcs9
          clear hcs9
          have L9:=Lib.hid (LQ.out.chgM g9)
          have K9:=Lib.hid k9
          have M9:=Lib.hid m9
          have N9:=Lib.hid (fun (a:Addr) (ha:R9=some a)=>(Nat.le_trans LQ.out.ch.size (n9 a ha):w.heap.size≤a.block))
          have XB9:=Lib.hid (XBA.out.chg g9 (by have:=LT.out;have:=JB.out;omega) (by have:=LT.out;have:=JB.out;omega))
          have JB9:=JB
          have KS9:=Lib.hid L9.out.s
          have O9:=Lib.hid (fun (a:Addr) (ha:R9=some a)=>(by have:=n9 a ha;have:=XBA.out.lt;omega:a.block≠jb))
          clear k9 m9 g9 n9
          refine hK.out _ _ ?_ (fun hHeld=>?_)
          · (try dsimp only)
            exact KS9.out
          clear hK K
          (try simp only [Act.put,lsA,lsZ,lsS])
          refine wT 8 ?_
          refine wT 9 ?_
          refine wT 10 ?_
          refine wpAnyH_ready (rs:=[12]) (by kernel_rfl) (by simp) ?_
          refine rC (fun K hK=>?_) ?_
          · (refine st_has 82 (.tmp 13) (.tmp 44) rfl rfl jb [.int .u32 0,.int .u32 0,.int .u32 0,.int .u32 0,.int .u32 0,.int .u32 0,.int .u32 0,.int .u32 0,.int .u32 0,.int .u32 0,.int .u32 0,.slice none 0 0,.int .i64 0,.slice none 0 0,.bool false,.int .u32 0,.int .i64 0,.int .i64 0] cs9 rfl rfl XB9.out (by rw [LC.out.1];rfl) (by rw [LC.out.1];kernel_rfl) LC.out.2 ?_;intro WZ rZ cZ)
            have LZ:=Lib.hid (L9.out.chgN cZ JB9.out.1 (by have:=JB9.out;omega) (by have:=JB9.out;omega))
            have KSZ:=Lib.hid LZ.out.s
            have KZ:Hid (KRow .u32 WZ R9 c9 rep):=Lib.hid (K9.out.off cZ (.inr (fun a ha=>O9.out a ha)))
            have MZ:=Lib.hid (M9.out.chg cZ (by have:=LT.out;have:=JB9.out;omega) (by have:=LT.out;have:=JB9.out;omega) (by have:=LT.out;have:=JB9.out;omega) (by have:=LT.out;have:=JB9.out;omega) (by have:=LT.out;have:=JB9.out;omega) (by have:=LT.out;have:=JB9.out;omega))
            have RZ:=Lib.hid rZ
            clear rZ cZ
            refine hK.out _ _ ?_ (fun hHeld=>?_)
            · (try dsimp only)
              exact KSZ.out
            clear hK K
            (try simp only [Act.put,lsA,lsZ,lsS])
            refine wT 13 ?_
            refine wpAnyH_done (by kernel_rfl) ?_ _
            refine NoPanic.normal ?_
            clear hHeld
            go_wp2_with fail
            have FR:=Lib.hid (free_h LZ.out.mp HZ.out HFR.out)
            refine FR.out.mono ?_;rintro e w10 ⟨rfl,b10⟩
            have LX:=Lib.hid (LZ.out.below b10)
            have KX:=Lib.hid (KZ.out.below b10)
            have MX:=Lib.hid (MZ.out.below b10)
            have RX:=Lib.hid (RZ.out.below b10)
            clear FR b10 LZ KZ MZ RZ
            obtain ⟨WU,hmu,mpU,grU,szU⟩:=(LX.out.mp.map.below (Below.refl _ _).drew).put (P:=Tryz.prog) (mt:=67) Tryz.underlying67 Tryz.underlying3 k HK16.out (.agg cs9.toArray)
            have FIN:=Lib.hid (LFIN.out R9 c9 w10 WU cs9 HCS.out N9.out LX.out KX.out MX.out mpU grU szU)
            have D13:Hid (w10.drew.cell? ⟨hb,1,none⟩=some (.map (some mb))∧HasB w10.drew jb 82 cs9):=Lib.hid ⟨(LX.out.mp.own.below (Below.refl _ _).drew).cell 1,RX.out.below (Below.refl _ _).drew⟩
            have E13:Hid (WU.cell? ⟨hb,1,none⟩=some (.map (some mb))∧HasB WU jb 82 cs9):=Lib.hid ⟨(cell_same (p:=⟨hb,1,none⟩) (grU.block hb (LX.out.mp.own.lt) (by simpa using LX.out.ne))).trans ((LX.out.mp.own.below (Below.refl _ _).drew).cell 1),(grU.block jb RX.out.lt (by have:=map_ne LX.out.mp.map RX.out;simpa using (Ne.symm this))).trans RX.out⟩
            clear mpU grU szU LX KX MX RX
            go_wp2_with fail
            refine wp_region_noPanic ?_
            refine wp_region_held_drew (S:=(fun w'=>w'.cell? ⟨hb,1,none⟩=some (.map (some mb))∧HasB w' jb 82 cs9)) (by kernel_rfl) ?_ (fun hHeld=>?_)
            · (try dsimp only)
              exact D13.out
            refine wT 0 ?_
            refine wT 1 ?_
            refine wT 2 ?_
            refine wT 3 ?_
            refine wT 4 ?_
            refine wpAnyH_take (i:=5) (oi:={ dst:=some 56,op:=Op.load 82 (Operand.tmp 13),type:=82,pos:= "host.go:63",after:=#[],guard:=none }) (v:=?_) rfl (by kernel_rfl) (by kernel_rfl) (by kernel_rfl) (fun _ _ _ h=>h) (Or.inl ⟨by rfl,?_⟩) (by assumption) ?_
            rotate_left
            · intro wz hSw;refine exec_load_has 82 (.tmp 13) ?_ (jb) ?_ hSw.2 ?_ Tryz.underlying82 ?_ <;> first | rfl | (rw [LC.out.1];kernel_rfl) | kernel_rfl
            (try simp only [Act.put,lsA,lsZ,lsS])
            refine wpAnyH_ready (rs:=[6]) (by kernel_rfl) (by simp) ?_
            refine rC (fun K hK=>?_) ?_
            · (refine mu_has 67 (.tmp 54) (.tmp 55) (.tmp 56) rfl rfl WU (by first | exact hmu | (simpa using hmu)) ?_)
              refine hK.out _ _ ?_ (fun hHeld=>?_)
              · (try dsimp only)
                exact E13.out
              clear hK K
              (try simp only [Act.put,lsA,lsZ,lsS])
              refine wpAnyH_done (by kernel_rfl) ?_ _
              refine NoPanic.normal ?_
              go_wp2_with fail
              (try simp only [Act.put,lsA,lsZ,lsS])
              refine bodyPost_ret (v:=.tuple #[.int .i64 (k:Int),.int .i64 0]) (by simp [results,Tryz.results9]) rfl ?_
              exact FIN.out
            exact AllReadyH.nil
          exact AllReadyH.nil
        exact AllReadyH.nil
      exact AllReadyH.nil
    · have q:(pe != 0)=true:=by simpa using hp0
      have HP:=Lib.hid hp0
      rw [if_neg hp0]
      clear hp0
      obtain ⟨W5,e5,X5,I5,B5,S5⟩:∃ W5,w4.alloc (.cells #[.int .i64 0,.int .i64 0] 52)=W5∧Hid (HasB W5 w4.heap.size 52 [.int .i64 0,.int .i64 0])∧Hid (HIn W5 hb p g y mb RA TA rc tc h F)∧Hid (Below w.heap.size w W5)∧Hid (w.heap.size≤w4.heap.size):=by
        have b:=bel_al (Below.refl w4.heap.size w4) (.cells #[.int .i64 0,.int .i64 0] 52)
        exact ⟨_,rfl,Lib.hid (HasB.new w4 52 _),Lib.hid (I4.out.below b),Lib.hid (bel_then B4.out b),Lib.hid B4.out.size⟩
      clear I4 B4 T5 T6 KR4 R4
      dsimp only
      go_wp2_with (first
        | (refine st_any rfl 52 (.tmp 12) (.tmp 30) rfl rfl w4.heap.size [.int .i64 0,.int .i64 0] [.int .i64 0,.int .i64 0] (by rfl) (by rfl) X5.out rfl (by kernel_rfl) (by simp [Value.oneCell']) ?_;intro W6 r6 c6;have I6:=Lib.hid (I5.out.same c6.size (fun i hi=>c6.block i (I5.out.lim i hi) (by have:=IH0.out.lim i hi;have:=S5.out;omega) (by have:=IH0.out.lim i hi;have:=S5.out;omega)));have B6:=Lib.hid (Below.trans B5.out (Below.ofNew c6 B5.out.size S5.out))))
      (try simp only [Act.put,lsA,lsZ,lsS])
      refine bodyPost_ret (v:=.tuple #[.int .i64 0,.int .i64 pe]) (by simp [results,Tryz.results9]) rfl ?_
      exact .inl ⟨by rw [HLE.out];exact HP.out,by rw [HLE.out],⟨p,g,y,mb,RA,TA,rc,tc,I6.out⟩,B6.out⟩
end Go.Proofs.YteefmjhemhlapaaGreat.Mm
