/- The statement HostPlays, walked. -/
import Derived.Test.YteefmjhemhlapaaGreatVHoD
import Derived.Test.YteefmjhemhlapaaGreatVSlR
import Derived.Test.YteefmjhemhlapaaGreatVHoE
namespace Go.Proofs.YteefmjhemhlapaaGreat.Mm
open Go.ChangeShapes Go.WideShapes Go.ChangeAt Go.RowKit
set_option linter.unusedVariables false
set_option linter.unusedSimpArgs false
set_option maxRecDepth 10000
set_option maxHeartbeats 4000000
theorem shl_a (u:Int) (hu:0≤u∧u≤255):∃ hf:Nat,powS ((2 * hf:Nat):Int)=true∧(64≤hf∧hf≤512)∧∀ w:World,(Op.shift BinOp.shl IntKind.i64 128 IntKind.u8 (u.tmod 4)).run Tryz.prog w=.ok (.int .i64 ((2 * hf:Nat):Int)) w:=by
  have h4:u.tmod 4=0∨u.tmod 4=1∨u.tmod 4=2∨u.tmod 4=3:=by
    rw [Int.tmod_eq_emod_of_nonneg hu.1]
    omega
  rcases h4 with h | h | h | h
  · exact ⟨64,by decide,by omega,fun w=>by rw [h];rfl⟩
  · exact ⟨128,by decide,by omega,fun w=>by rw [h];rfl⟩
  · exact ⟨256,by decide,by omega,fun w=>by rw [h];rfl⟩
  · exact ⟨512,by decide,by omega,fun w=>by rw [h];rfl⟩
set_option maxHeartbeats 32000000 in
theorem hostPlays_walk (A A':Option Addr) (n cap m cap':Nat) (sz:Int) (w:World) (rA:RowsB w A n cap) (rB:AcsAt w A' m cap') (wv:(Lit.int .u8 sz).wf=true) :
    Calls Tryz.prog 3 #[.slice A n cap,.slice A' m cap',.int .u8 sz] w fun e w'=>e=.returned (.bool true)∧Below w.heap.size w w':=by
  have hsz:=u8_bd wv
  clear wv
  have FW:=Lib.hid (fun w1 (b:Below w.heap.size w w1)=>few14 A A' n cap m cap' w1 (rA.below b) (rB.below b))
  have RA:=Lib.hid (fun w1 (b:Below w.heap.size w w1)=>rA.below b)
  have RB:=Lib.hid (fun w1 (b:Below w.heap.size w w1)=>rB.below b)
  obtain ⟨z,hz1,hz2,hzz⟩:∃ z:Nat,1≤z∧z≤256∧64 * (1+sz)=((64 * z:Nat):Int):=⟨1+sz.toNat,by omega,by omega,by omega⟩
  have NC:=Lib.hid (fun w'=>hNew z hz1 (by omega) w')
  have wsz:IntKind.i64.wrap sz=sz:=IntWalk.i64_in _ (by omega)
  have HZ:Hid (1≤z∧z≤256):=Lib.hid ⟨hz1,hz2⟩
  obtain ⟨zn,hzn⟩:∃ zn,((64 * z:Nat):Int)=zn:=⟨_,rfl⟩
  have ZNB:0≤zn∧zn≤16384:=by omega
  rw [hzn] at NC hzz
  have HZN:=Lib.hid hzn
  clear rA rB hzn hz1 hz2
  go_enter Tryz.func3,Tryz.ntmps3
  go_wp2_with fail
  refine (awake14 _).mono ?_;rintro e w0 ⟨rfl,b0⟩
  have B0:=Lib.hid b0;clear b0
  dsimp only
  go_wp2_with fail
  refine (FW.out _ B0.out).mono ?_;rintro e w1 ⟨bf,rfl,hb,rfl⟩
  have hb':=Lib.hid hb
  clear FW hb
  cases bf
  · dsimp only
    go_wp2_with fail
    refine (awake14 _).mono ?_;rintro e w2 ⟨rfl,b2⟩
    have B2:=Lib.hid (bel_then B0.out b2);clear b2
    dsimp only
    go_wp2_with fail
    go_ret
    exact ⟨rfl,B2.out⟩
  obtain ⟨w1',w2',w3',w4',w5'⟩:=hb'.out rfl
  have NM:Hid (1≤n∧n≤6∧m≤30∧m≤cap'∧cap'≤maxLen∧n≤cap∧cap≤maxLen):=Lib.hid ⟨w1',w2',w3',(RB.out _ B0.out).1,(RB.out _ B0.out).2.1,(RA.out _ B0.out).1,(RA.out _ B0.out).2.1⟩
  have CODE:Hid (∀ i,i < n→∃ (x:Addr) (B:Option Addr) (c:Nat) (l:List Int),A=some x∧l.length≤300∧∀ w',Below w0.heap.size w0 w'→SlAt w' (x.add i) B c l):=Lib.hid (fun i hi=>by
    obtain ⟨x,hx,xb,hxc⟩:=(RA.out _ B0.out).2.2 (by omega)
    obtain ⟨B,c,l,ht⟩:=hxc i hi
    exact ⟨x,B,c,l,hx,w4' x hx i hi B c l ht,fun w' b=>ht.below b (by rw [block_add];exact xb)⟩)
  have ACT:Hid (∀ i,i < m→∃ x t,A'=some x∧t.r.length≤20∧∀ w',Below w0.heap.size w0 w'→AcAt w' (x.add (i * 6)) t):=Lib.hid (fun i hi=>by
    obtain ⟨x,hx,hb,hxc⟩:=(RB.out _ B0.out).2.2 (by omega)
    obtain ⟨t,ht⟩:=hxc i hi
    exact ⟨x,t,hx,w5' x hx i hi t ht,fun w' b=>ht.below b (by rw [block_add];exact hb)⟩)
  clear RA RB hb' w1' w2' w3' w4' w5'
  dsimp only
  go_upto_region 4 with fail
  clear hzz wsz hsz
  go_wp2_with fail
  refine (NC.out _).mono ?_;rintro e w3 ⟨hb,F3,rfl,at3,hF3,b3⟩
  have AT3:=Lib.hid at3
  have B3:=Lib.hid b3
  have FL:=Lib.hid hF3
  clear at3 hF3 b3 NC
  dsimp only
  go_upto_region 7 with fail
  obtain ⟨cs,hcs⟩:∃ cs:List Value,cs=dcC (List.replicate 16 false) (List.replicate 16 (0,0)) zn:=⟨_,rfl⟩
  have CL:cs.length=49:=by rw [hcs];rfl
  have C1:∀ v∈cs,v.oneCell'=true:=fun v hv=>by rw [hcs] at hv;exact dc_one v hv
  go_wp2_with (first
    | (refine st_any rfl 35 (.tmp 10) (.tmp 50) rfl rfl w3.heap.size zC cs (by rfl) (by rw [hcs];rfl) (HasB.new _ _ zC) (by rw [CL,zC_len]) (by rw [CL];kernel_rfl) C1 ?_;intro W4 r4 c4))
  have B4:Below w3.heap.size w3 W4:=Below.trans (bel_al (Below.refl w3.heap.size w3) _) (Below.ofNew c4 (by simp) (Nat.le_refl _))
  have S0:Hid (PlS w0 hb w3.heap.size z 0 (newO z) F3 (dcC (List.replicate 16 false) (List.replicate 16 (0,0)) zn) (List.replicate 16 false) (List.replicate 16 (0,0)) W4):=Lib.hid ⟨AT3.out.below B4,newO_i z 0,FL.out,hcs ▸ r4,fun hf=>by have:=AT3.out.lim _ hf;omega,B3.out.size,⟨rfl,rfl,fun k hk=>by
    rw [List.getD_eq_getElem?_getD,List.getElem?_replicate]
    split <;> (unfold rgWf;simp)⟩,DocH.new z,bel_then B3.out B4⟩
  clear B4 c4 r4 AT3 FL B3 C1 CL hcs
  generalize w3.heap.size=xb at *
  go_loopw [11] (fun v wr=>∃ (j n0:Nat) (h:Ho) (F:Nat→Prop) (I:List Bool) (R:List Rg),v=.int .i64 (j:Int)∧j≤m∧n0≤40 * j∧Hid (PlS w0 hb xb z n0 h F (dcC I R zn) I R wr)) (fun v _=>m - (intOf v).toNat)
  case atStart=>exact ⟨0,0,newO z,F3,_,_,rfl,by omega,by omega,S0⟩
  case round=>
    obtain ⟨j,n0,h,F,I,R,rfl,hj,hn0,SA⟩:=hrel
    clear S0
    by_cases hjm:j < m
    · obtain ⟨x,t,rfl,htr,hact⟩:=ACT.out j hjm
      have AC:=hact wr SA.out.bel
      obtain ⟨c0,c1,c2',c3',c4,c5,d0,d1,d2,d3,d4,row⟩:=AC
      obtain ⟨rl,hrl⟩:∃ rl,t.r.length=rl:=⟨_,rfl⟩
      rw [hrl] at c5 htr
      have HR:=Lib.hid hrl
      have RL:=Lib.hid htr
      have ROW:=Lib.hid row
      have kI:(j:Int) < (m:Int):=by omega
      have wj:IntKind.i64.wrap ((j:Int)+1)=((j+1:Nat):Int):=by rw [show ((j+1:Nat):Int)=(j:Int)+1 by omega];exact IntWalk.i64_in _ (by have:=NM.out;omega)
      have NJ:=Lib.hid (And.intro hj (And.intro hjm hn0))
      clear hact hrl htr row hj
      obtain ⟨td,tc,tg,ti,tn,tA,tcap,tr⟩:=t
      simp only at c0 c1 c2' c3' c4 c5 d0 d1 d2 d3 d4
      go_upto_region 12 with fail
      obtain ⟨wy,hwy⟩:∃ wy,wr.alloc (.cells #[.int .u8 td,.int .u8 tc,.int .u8 tg,.int .u8 ti,.int .u8 tn,.slice tA rl tcap] 38)=wy:=⟨_,rfl⟩
      have by_:Below wr.heap.size wr wy:=by rw [← hwy];exact bel_al (Below.refl _ _) _
      have hY:HasB wy wr.heap.size 38 [.int .u8 td,.int .u8 tc,.int .u8 tg,.int .u8 ti,.int .u8 tn,.slice tA rl tcap]:=by rw [← hwy];exact HasB.newAt _ _ _ #[.int .u8 td,.int .u8 tc,.int .u8 tg,.int .u8 ti,.int .u8 tn,.slice tA rl tcap] rfl
      have YLT:Hid (wr.heap.size < wy.heap.size):=Lib.hid hY.lt
      have SY:=Lib.hid (SA.out.below by_)
      have ROWY:=Lib.hid (ROW.out.below by_)
      have LIMY:Hid (∀ i,F i→i < wr.heap.size):=Lib.hid SA.out.ah.lim
      have HY:=Lib.hid hY
      rw [hwy]
      clear hwy by_ hY c0 c1 c2' c3' c4 c5 SA ROW
      generalize wr.heap.size=Y at *
      have y0:=HY.out.cell 0
      have y1:=HY.out.cell 1
      have y2:=HY.out.cell 2
      have y3:=HY.out.cell 3
      have y4:=HY.out.cell 4
      have y5:=HY.out.cell 5
      simp only [List.getElem?_cons_succ,List.getElem?_cons_zero] at y0 y1 y2 y3 y4 y5
      obtain ⟨r,hr,hr7⟩:∃ r:Nat,td.tmod 7=(r:Int)∧r < 7:=⟨(td.tmod 7).toNat,by rw [Int.tmod_eq_emod_of_nonneg (by omega)];omega,by rw [Int.tmod_eq_emod_of_nonneg (by omega)];omega⟩
      obtain ⟨ee,he,he18⟩:∃ ee:Nat,ti.tmod 18=(ee:Int)∧ee < 18:=⟨(ti.tmod 18).toNat,by rw [Int.tmod_eq_emod_of_nonneg (by omega)];omega,by rw [Int.tmod_eq_emod_of_nonneg (by omega)];omega⟩
      have wti:IntKind.i64.wrap ti=ti:=IntWalk.i64_in _ (by omega)
      have EB:=Lib.hid he18
      by_cases he16:ee < 16
      rotate_left
      focus
        have e16:decide ((ee:Int) < 16)=false:=decide_eq_false (by omega)
        have e16':decide (ee < 16)=false:=decide_eq_false he16
        have HT:Hid ((false=true→ee < 16∧I.getD ee false=true)∧(false=false→∀ s,¬ h.has ee s)):=Lib.hid ⟨fun e=>(by cases e),fun _=>SY.out.no16 (by omega)⟩
        go_upto_region 14 with fail
        clear e16 e16'
      rotate_left
      focus
        have e16:decide ((ee:Int) < 16)=true:=decide_eq_true (by omega)
        have e16':decide (ee < 16)=true:=decide_eq_true he16
        have em:(ee:Int).tmod 16=(ee:Int):=Int.tmod_eq_of_lt (by omega) (by omega)
        have cth:=(SY.out.xh.cell ee).trans (dc_is SY.out.dw.il ee he16)
        obtain ⟨th,hth⟩:∃ th,I.getD ee false=th:=⟨_,rfl⟩
        rw [hth] at cth
        have HT:Hid ((th=true→ee < 16∧I.getD ee false=true)∧(th=false→∀ s,¬ h.has ee s)):=Lib.hid ⟨fun e=>⟨he16,by rw [hth];exact e⟩,fun e=>SY.out.no he16 (hth.trans e)⟩
        clear hth
        go_upto_region 14 with fail
        clear cth e16 e16' em
      all_goals clear he16 he18
      all_goals by_cases hr01:r=0∨r=1
      all_goals first
        | (have hL:r=0∨r=1:=hr01
           clear HT hr01
           rcases hL with rfl | rfl
           all_goals
             obtain ⟨ci,hci,hcn⟩:∃ ci:Nat,tc.tmod (n:Int)=(ci:Int)∧ci < n:=⟨(tc.tmod n).toNat,by rw [Int.tmod_eq_emod_of_nonneg (by omega)];have:=NM.out;have:=Int.emod_nonneg tc (b:=(n:Int)) (by omega);omega,by rw [Int.tmod_eq_emod_of_nonneg (by omega)];have:=NM.out;have:=Int.emod_lt_of_pos tc (b:=(n:Int)) (by omega);have:=Int.emod_nonneg tc (b:=(n:Int)) (by omega);omega⟩
             obtain ⟨xc,cA,cc,cll,hxc,hcl3,hct⟩:=CODE.out ci hcn
             subst hxc
             obtain ⟨cl,hcl⟩:∃ cl,cll.length=cl:=⟨_,rfl⟩
             obtain ⟨hf2,p1,p2,p3⟩:=shl_a tg d2
             obtain ⟨sz2,hsz2⟩:∃ sz2:Int,((2 * hf2:Nat):Int)=sz2:=⟨_,rfl⟩
             rw [hsz2] at p1 p3
             clear hsz2 p2
             have LB:Hid ((layL cll D8).length≤4200∧(layL cll D8).length=cl+20):=Lib.hid (by
               rw [layL_len]
               have e8:D8.length=8:=rfl
               omega)
             have PW:=Lib.hid p1
             have BY:=Lib.hid (bytes14n cA cc cl cll hcl (by omega) wy (hct wy SY.out.bel).2)
             have g1:=(hct wy SY.out.bel).1
             rw [hcl] at g1
             have hsz:=p3
             have wtc:IntKind.i64.wrap tc=tc:=IntWalk.i64_in _ (by omega)
             have hcd:decide (ci < n)=true:=decide_eq_true hcn
             have hcd':decide ((ci:Int) < (n:Int))=true:=decide_eq_true (by omega)
             have hnz:((n:Int) == 0)=false:=by simp;omega
             have hnz':¬ ((n:Int)=0):=by omega
             have hnz2:¬ (n=0):=by omega
             clear hct hcl hcl3 p1 p3 d0 d1 d2 d3 d4
             go_wp2_with fail
             refine BY.out.mono ?_;rintro e w2 ⟨A2,c2,rfl,r2,b2,n2⟩
             have S2:=Lib.hid (SY.out.below b2)
             have R2':=Lib.hid r2
             have ROW2:=Lib.hid (ROWY.out.below b2)
             have Y2:=Lib.hid (Nat.lt_of_lt_of_le YLT.out b2.size)
             have NF:Hid (∀ a,A2=some a→¬ F a.block):=Lib.hid (fun a ha hf=>by have:=n2 a ha;have:=LIMY.out _ hf;have:=YLT.out;omega)
             replace y2:=(b2.cell (p:=⟨Y,2,none⟩) YLT.out).trans y2
             replace y5:=(b2.cell (p:=⟨Y,5,none⟩) YLT.out).trans y5
             clear r2 b2 n2 g1 BY y0 y1 y3 y4 SY ROWY hcd hcd' hnz hnz' hnz2 hci
             generalize layL cll D8=l at *
             obtain ⟨E,hE⟩:∃ E,loadE z h (imgE l) (codeI l) (dataL l) sz2=E:=⟨_,rfl⟩
             have LD:=Lib.hid (S2.out.load (by have:=HZ.out;omega) (by have:=HZ.out;omega) R2'.out LB.out.2 (by have:=LB.out;omega) PW.out ROW2.out HR.out (by have:=RL.out;omega))
             rw [hE] at LD
             have HE:=Lib.hid hE
             clear hE
             dsimp only
             go_wp2_with fail
             refine LD.out.mono ?_;rintro e w3' ⟨k,h2,F2,I2,R2,rfl,ds,s3,ch3⟩
             have DS:=Lib.hid ds
             have S3:=Lib.hid s3
             have R3:=Lib.hid (R2'.out.chF ch3 (.inr NF.out))
             have y2':=(cell_same (p:=⟨Y,2,none⟩) (ch3.block Y Y2.out (fun hf=>by have:=LIMY.out _ hf;omega))).trans y2
             have RD:=Lib.hid (rLoad_any S2.out.dw S2.out.dh S2.out.hi.Z (by have:=HZ.out;omega) A2 c2 (cl+20) l LB.out.2 (by have:=LB.out;omega) sz2 PW.out w3' R3.out)
             rw [HZN.out] at RD
             have DL:Hid ((dcC I R zn).length=49):=Lib.hid (dc_length S2.out.dw.il S2.out.dw.rl)
             clear ds s3 ch3 y2 y5 LD S2 R2' R3 NF ROW2
             dsimp only
             go_wp2_with (first
               | (refine ld_any rfl 35 (.tmp 10) rfl xb (by rfl) (dcC I R zn) S3.out.xh rfl Tryz.underlying35 (by rw [DL.out];kernel_rfl) ?_))
             refine RD.out.mono ?_;rintro e w4 ⟨b4,I3,R3,k3,he,hd⟩
             rw [HZN.out,HE.out] at he
             subst he
             obtain ⟨rfl,rfl,rfl⟩:k=k3∧I2=I3∧R2=R3:=DocStep.one DS.out hd
             have S4:=Lib.hid (S3.out.below b4)
             have DL2:Hid ((dcC I2 R2 zn).length=49):=Lib.hid (dc_length S3.out.dw.il S3.out.dw.rl)
             have D1:=Lib.hid (fun v (hv:v∈dcC I2 R2 zn)=>dc_one v hv)
             clear hd b4 RD S3 DS HE PW LB y2' hsz
             have qE:(E != E)=false:=by simp
             have qk:((k:Int) != (k:Int))=false:=by simp
             obtain ⟨cs2,hcs2⟩:∃ cs2,dcC I2 R2 zn=cs2:=⟨_,rfl⟩
             rw [hcs2] at DL2 D1 ⊢
             dsimp only
             go_wp2_with (first
               | (refine ld_any rfl 35 (.tmp 18) rfl w4.heap.size (by rfl) cs2 r6 rfl Tryz.underlying35 (by rw [DL2.out];kernel_rfl) ?_)
               | (refine st_any rfl 35 (.tmp 18) (.tmp 144) rfl rfl w4.heap.size zC cs2 (by rfl) (by rfl) (HasB.new _ _ zC) (by rw [DL2.out,zC_len]) (by rw [DL2.out];kernel_rfl) D1.out ?_;intro W6 r6 q6;have S6:=Lib.hid (S4.out.below (Below.trans (bel_al (Below.refl w4.heap.size w4) _) (Below.ofNew q6 (by simp) (Nat.le_refl _)))))
               | (refine st_any rfl 35 (.tmp 10) (.tmp 147) rfl rfl xb (dcC I R zn) cs2 (by rfl) (by rfl) S6.out.xh (by rw [DL.out,DL2.out]) (by rw [DL2.out];kernel_rfl) D1.out ?_;intro wk r7 q7;have s7:=S6.out.put r7 q7;rw [← hcs2] at s7;clear r7 q7 r6 q6 S6 S4))
             have SK:∃ nK hK FK IK RK,nK≤40 * (j+1)∧Hid (PlS w0 hb xb z nK hK FK (dcC IK RK zn) IK RK wk):=⟨_,_,_,_,_,by have:=NJ.out;omega,Lib.hid s7⟩
             clear DL2 D1 qE qk RL HR wtc LIMY Y2 s7
             generalize w4.heap.size=g4 at *
             clear hcs2 DL)
        | ((try cases th)
           all_goals by_cases hr6:r=6
           all_goals first
             | (
                obtain ⟨N,hN,hN40⟩:∃ N:Nat,tn.tmod 40=(N:Int)∧N < 40:=⟨(tn.tmod 40).toNat,by rw [Int.tmod_eq_emod_of_nonneg (by omega)];omega,by rw [Int.tmod_eq_emod_of_nonneg (by omega)];omega⟩
                have wtn:IntKind.i64.wrap tn=tn:=IntWalk.i64_in _ (by omega)
                have q0:((r:Int) == 0)=false:=by simp;omega
                have q1:((r:Int) == 1)=false:=by simp;omega
                have q6:((r:Int) == 6)=false:=by simp;omega
                clear hr6 hr01
                first
                  | (have RC:=Lib.hid (SY.out.runY (n:=N) (by have:=NJ.out;have:=NM.out;omega) (HT.out.1 (by trivial)).1 (by omega) (HT.out.1 (by trivial)).2)
                     go_wp2_with fail
                     refine RC.out.mono ?_;rintro e wk ⟨p,h2,F2,hpn,rfl,s7,ch7⟩
                     have hp1:decide ((N:Int) < (p:Int))=false:=decide_eq_false (by omega)
                     have hp2:decide (N < p)=false:=decide_eq_false (by omega)
                     have y4':=(cell_same (p:=⟨Y,4,none⟩) (ch7.block Y YLT.out (fun hf=>by have:=LIMY.out _ hf;omega))).trans y4
                     have SK:∃ nK hK FK IK RK,nK≤40 * (j+1)∧Hid (PlS w0 hb xb z nK hK FK (dcC IK RK zn) IK RK wk):=⟨_,_,_,_,_,by have:=NJ.out;omega,Lib.hid s7⟩
                     clear s7 ch7 RC y4
                     go_wp2_with fail
                     clear y4')
                  | (have RC:=Lib.hid (SY.out.runN (n:=N) (by have:=NJ.out;have:=NM.out;omega) EB.out (by omega) (HT.out.2 (by trivial)))
                     go_wp2_with fail
                     refine RC.out.mono ?_;rintro e wk ⟨rfl,s7,ch7⟩
                     have hp1:decide ((N:Int) < 0)=false:=decide_eq_false (by omega)
                     have y4':=(cell_same (p:=⟨Y,4,none⟩) (ch7.block Y YLT.out (fun hf=>by have:=LIMY.out _ hf;omega))).trans y4
                     have SK:∃ nK hK FK IK RK,nK≤40 * (j+1)∧Hid (PlS w0 hb xb z nK hK FK (dcC IK RK zn) IK RK wk):=⟨_,_,_,_,_,by have:=NJ.out;omega,Lib.hid s7⟩
                     clear s7 ch7 RC y4
                     go_wp2_with fail
                     clear y4'))
             | (
                subst hr6
                have KC:=Lib.hid (SY.out.killN EB.out (HT.out.2 (by trivial)))
                go_wp2_with fail
                refine KC.out.mono ?_;rintro e wk ⟨rfl,s7⟩
                have SK:∃ nK hK FK IK RK,nK≤40 * (j+1)∧Hid (PlS w0 hb xb z nK hK FK (dcC IK RK zn) IK RK wk):=⟨_,_,_,_,_,by have:=NJ.out;omega,Lib.hid s7⟩
                clear s7 KC
                go_wp2_with fail)
             | (
                subst hr6
                have he16:=(HT.out.1 (by trivial)).1
                have KC:=Lib.hid (SY.out.killY (HT.out.1 (by trivial)).1 (HT.out.1 (by trivial)).2)
                go_wp2_with fail
                refine KC.out.mono ?_;rintro e w7 ⟨h2,rfl,s7⟩
                have S7:=Lib.hid s7
                have a0:=(S7.out.xh.cell ee).trans (dc_is SY.out.dw.il ee (HT.out.1 (by trivial)).1)
                rw [(HT.out.1 (by trivial)).2] at a0
                have af:=S7.out.xh.frozen ee
                obtain ⟨wk,e8,s8⟩:∃ W8,w7.setCell ⟨xb,ee,none⟩ (.bool false)=W8∧PlS w0 hb xb z n0 h2 F (dcC (I.set ee false) R zn) (I.set ee false) R W8:=⟨_,rfl,by
                  have:=S7.out.put (has_set S7.out.xh ee (.bool false)) (chg_set (Chg.refl _ _ _) _ (.inl rfl) _ _)
                  rw [dc_seti SY.out.dw.il ee (HT.out.1 (by trivial)).1 false] at this
                  exact this⟩
                have SK:∃ nK hK FK IK RK,nK≤40 * (j+1)∧Hid (PlS w0 hb xb z nK hK FK (dcC IK RK zn) IK RK wk):=⟨_,_,_,_,_,by have:=NJ.out;omega,Lib.hid s8⟩
                clear s7 s8 KC
                go_wp2_with fail
                (try rw [e8])
                clear a0 af S7 e8)
           all_goals clear HT SY ROWY y0 y1 y2 y3 y5)
      all_goals as_aux_lemma=>
        obtain ⟨nK,hK,FK,IK,RK,hnK,SK⟩:=SK
        have SZ:=Lib.hid (hRegs wk hb z hK FK SK.out.ah SK.out.hi.Z (by have:=HZ.out;omega))
        refine SZ.out.mono ?_;rintro e wg ⟨Ag,cg,L,rfl,hL,rL,_,bg⟩
        have SG:=Lib.hid (SK.out.below bg)
        have RG1:=Lib.hid rL
        have HL:=Lib.hid hL
        clear hL rL bg SZ SK
        obtain ⟨nL,hnL⟩:∃ nL,nL=L.length:=⟨_,rfl⟩
        rw [← hnL]
        have HNL:=Lib.hid hnL
        clear hnL
        have RD:=Lib.hid (rRegs_any SG.out.dw z (by have:=HZ.out;omega) wg)
        rw [HZN.out] at RD
        have DL:Hid ((dcC IK RK zn).length=49):=Lib.hid (dc_length SG.out.dw.il SG.out.dw.rl)
        dsimp only
        go_wp2_with (first
          | (refine ld_any rfl 35 (.tmp 10) rfl xb (by rfl) (dcC IK RK zn) SG.out.xh rfl Tryz.underlying35 (by rw [DL.out];kernel_rfl) ?_))
        refine RD.out.mono ?_;rintro e w6 ⟨A6,c6,q6,rfl,hq6,r6,b6⟩
        have eL:dUp IK RK q6=L:=(SG.out.dh.regs SG.out.hi.Z (by have:=HZ.out;omega) hq6).one HL.out
        have N16:Hid (nL≤16):=Lib.hid (by rw [HNL.out,← eL];exact dUp_few _ _ _)
        rw [eL] at r6
        rw [eL,← HNL.out]
        have R6:=Lib.hid r6
        have RG6:=Lib.hid (RG1.out.below b6)
        have S6:=Lib.hid (SG.out.below b6)
        clear eL hq6 r6 b6 RD DL SG RG1
        have RT:=Lib.hid (right_code Ag cg nL L zn HNL.out.symm (by have:=N16.out;omega) (by unfold I64r;omega) w6 RG6.out)
        rw [show rgtB L zn=true from rgt_iff.2 (HZN.out ▸ HL.out.ri)] at RT
        dsimp only
        go_wp2_with fail
        refine RT.out.mono ?_;rintro e w7 ⟨rfl,b7⟩
        have R7:=Lib.hid (R6.out.below b7)
        have RG7:=Lib.hid (RG6.out.below b7)
        have S7:=Lib.hid (S6.out.below b7)
        have nL16:=N16.out
        clear b7 RT R6 RG6 S6 HL N16
        dsimp only
        go_wp2_with fail
        go_loopw [25] (fun v wr=>∃ (k:Nat),v=.int .i64 (k:Int)∧k≤nL∧Hid (Below w7.heap.size w7 wr)) (fun v _=>nL - (intOf v).toNat)
        case atStart=>exact ⟨0,rfl,by omega,Lib.hid (Below.refl _ _)⟩
        case round=>
          obtain ⟨k,rfl,hk,BK⟩:=hrel
          by_cases hkl:k < nL
          · obtain ⟨p,hp,hpb,hpc⟩:=(RG7.out.below BK.out).2.2.2 (by intro e;have:=HNL.out;rw [e] at this;simp at this;omega)
            obtain ⟨q,hq,hqb,hqc⟩:=(R7.out.below BK.out).2.2.2 (by intro e;have:=HNL.out;rw [e] at this;simp at this;omega)
            subst hp hq
            obtain ⟨e0,e1⟩:=hpc k (by rw [← HNL.out];exact hkl)
            obtain ⟨e2,e3⟩:=hqc k (by rw [← HNL.out];exact hkl)
            have hkI:(k:Int) < (nL:Int):=by omega
            clear hpc hpb hqc hqb
            generalize L.getD k (0,0)=rr at *
            obtain ⟨ra,rb⟩:=rr
            simp only at e0 e1 e2 e3
            have qa:(ra != ra)=false:=by simp
            have qb:(rb != rb)=false:=by simp
            go_wp2_with fail
            go_quiet (fail)
            all_goals go_wp2
            all_goals go_roundw
            case rel=>exact ⟨k+1,by go_num,hkl,Lib.hid (below_drewN BK.out _)⟩
            case measure=>simp [intOf];omega
          · obtain rfl:k=nL:=by omega
            have S8:=Lib.hid (S7.out.below BK.out)
            go_wp2_with fail
            go_roundw
            case rel=>exact ⟨j+1,nK,hK,FK,IK,RK,by go_num,by have:=NJ.out;omega,hnK,S8⟩
            case measure=>simp [intOf];have:=NJ.out;omega
    · as_aux_lemma=>
      obtain rfl:j=m:=by omega
      clear CODE ACT hj hjm hn0
      have TH:=Lib.hid (fun (a:Nat) (ha:a < 64 * z)=>SA.out.dh.there SA.out.hi.Z a ha)
      have RGB:Hid (∀ k,k < 16→I.getD k false=true→0≤(R.getD k (0,0)).1∧(R.getD k (0,0)).1≤16384∧0≤(R.getD k (0,0)).2∧(R.getD k (0,0)).2≤16384):=Lib.hid (fun k hk hI=>by
        obtain ⟨s,hs⟩:=(SA.out.dh.is k hk).1 hI
        rw [SA.out.dh.at_ k s hs]
        obtain ⟨p1,p2,p3,p4⟩:=reg_iff.1 (SA.out.hi.Z.rg k s hs)
        have:=powS_pos p1
        have:=HZ.out
        omega)
      have CI:=Lib.hid (fun k (hk:k < 16)=>dc_is (R:=R) (n:=zn) SA.out.dw.il k hk)
      have CR0:=Lib.hid (fun k (hk:k < 16)=>dc_r (n:=zn) SA.out.dw.il SA.out.dw.rl k 0 hk (by decide))
      have CR1:=Lib.hid (fun k (hk:k < 16)=>dc_r (n:=zn) SA.out.dw.il SA.out.dw.rl k 1 hk (by decide))
      have XH:=Lib.hid SA.out.xh
      go_wp2_with fail
      generalize hq:wr=ws at *
      clear hq
      go_loopw [26] (fun v wr=>∃ (a:Nat),v=.int .i64 (a:Int)∧(a:Int)≤zn∧Hid (Below ws.heap.size ws wr)) (fun v _=>zn.toNat - (intOf v).toNat)
      case atStart=>exact ⟨0,rfl,by simp;omega,Lib.hid (Below.refl _ _)⟩
      case round=>
        obtain ⟨a,rfl,ha,BA⟩:=hrel
        by_cases hal:(a:Int) < zn
        · go_wp2_with fail
          generalize hq:wr=wa at *
          clear hq
          go_loopw [27,28] (fun u v wr=>∃ (k:Nat),v=.int .i64 (k:Int)∧u=.bool (thereF I R (a:Int) k)∧k≤16∧Hid (Below ws.heap.size ws wr)) (fun _ v _=>16 - (intOf v).toNat)
          case atStart=>exact ⟨0,rfl,rfl,by omega,BA⟩
          case round=>
            obtain ⟨k,rfl,rfl,hk,BK⟩:=hrel
            by_cases hkl:k < 16
            · have hkI:(k:Int) < 16:=by omega
              have XR:=XH.out.below BK.out
              have ci:=(XR.cell k).trans (CI.out k hkl)
              have r0:wr.cell? ⟨xb,16+k * 2,none⟩=some (.int .i64 (R.getD k (0,0)).1):=(XR.cell (16+k * 2)).trans (CR0.out k hkl)
              have r1:wr.cell? ⟨xb,16+k * 2+1,none⟩=some (.int .i64 (R.getD k (0,0)).2):=(XR.cell (16+k * 2+1)).trans (CR1.out k hkl)
              have HB:=Lib.hid (RGB.out k hkl)
              have TS:Hid (thereF I R (a:Int) (k+1)=(thereF I R (a:Int) k || (I.getD k false && decide ((R.getD k (0,0)).1≤(a:Int)) && decide ((a:Int) < (R.getD k (0,0)).1+(R.getD k (0,0)).2)))):=Lib.hid rfl
              clear XR
              obtain ⟨tn1,htn1⟩:∃ tn1,thereF I R (a:Int) (k+1)=tn1:=⟨_,rfl⟩
              rw [htn1] at TS
              have HT1:=Lib.hid htn1
              clear htn1
              generalize thereF I R (a:Int) k=tn0 at *
              generalize I.getD k false=bi at *
              generalize R.getD k (0,0)=rr at *
              obtain ⟨ra,rb⟩:=rr
              simp only at r0 r1
              cases tn0
              · cases bi
                · have HN:Hid (thereF I R (a:Int) (k+1)=false):=Lib.hid (by rw [HT1.out,TS.out];rfl)
                  go_wp2_with fail
                  go_quiet (fail)
                  all_goals go_wp2
                  all_goals go_roundw
                  case rel=>exact ⟨k+1,by go_num,by rw [HN.out],hkl,Lib.hid (below_drewN BK.out _)⟩
                  case measure=>simp [intOf];omega
                · obtain ⟨g1,g2,g3,g4⟩:=HB.out rfl
                  simp only at g1 g2 g3 g4
                  have wab:IntKind.i64.wrap (ra+rb)=ra+rb:=IntWalk.i64_in _ (by omega)
                  cases hB:decide (ra≤(a:Int))
                  · have HN:Hid (thereF I R (a:Int) (k+1)=false):=Lib.hid (by rw [HT1.out,TS.out];simp only [hB];rfl)
                    go_wp2_with fail
                    go_quiet (fail)
                    all_goals go_wp2
                    all_goals go_roundw
                    case rel=>exact ⟨k+1,by go_num,by rw [HN.out],hkl,Lib.hid (below_drewN BK.out _)⟩
                    case measure=>simp [intOf];omega
                  · cases hC:decide ((a:Int) < ra+rb)
                    · have HN:Hid (thereF I R (a:Int) (k+1)=false):=Lib.hid (by rw [HT1.out,TS.out];simp only [hB,hC];rfl)
                      go_wp2_with fail
                      go_quiet (fail)
                      all_goals go_wp2
                      all_goals go_roundw
                      case rel=>exact ⟨k+1,by go_num,by rw [HN.out],hkl,Lib.hid (below_drewN BK.out _)⟩
                      case measure=>simp [intOf];omega
                    · have HN:Hid (thereF I R (a:Int) (k+1)=true):=Lib.hid (by rw [HT1.out,TS.out];simp only [hB,hC];rfl)
                      go_wp2_with fail
                      go_quiet (fail)
                      all_goals go_wp2
                      all_goals go_roundw
                      case rel=>exact ⟨k+1,by go_num,by rw [HN.out],hkl,Lib.hid (below_drewN BK.out _)⟩
                      case measure=>simp [intOf];omega
              · have HN:Hid (thereF I R (a:Int) (k+1)=true):=Lib.hid (by rw [HT1.out,TS.out];rfl)
                go_wp2_with fail
                go_quiet (fail)
                all_goals go_wp2
                all_goals go_roundw
                case rel=>exact ⟨k+1,by go_num,by rw [HN.out],hkl,Lib.hid (below_drewN BK.out _)⟩
                case measure=>simp [intOf];omega
            · obtain rfl:k=16:=by omega
              have TC:=hThere wr hb h F (a:Int) (SA.out.ah.below BK.out) (by omega)
              rw [show wholeB h.T (a:Int) 1=thereF I R (a:Int) 16 from by
                rw [← TH.out a (by have:=HZN.out;omega)]
                unfold wholeB
                rw [(liesB_iff _ _ _).2 ⟨by omega,by omega,by rw [SA.out.hi.Z.zl];have:=HZN.out;omega⟩,Bool.true_and]
                show thr h.T a 1=_
                unfold thr
                simp] at TC
              replace TC:=Lib.hid TC
              generalize thereF I R (a:Int) 16=tt at *
              cases tt
              all_goals
                go_wp2_with fail
                refine TC.out.mono ?_;rintro e wt ⟨rfl,rfl⟩
                go_wp2_with fail
                go_roundw
                case rel=>exact ⟨a+1,by go_num,by omega,BK⟩
                case measure=>simp [intOf];omega
        · obtain rfl:(a:Int)=zn:=by omega
          clear TH RGB CI CR0 CR1 XH
          go_wp2_with fail
          go_ret
          exact ⟨rfl,bel_then B0.out (bel_then SA.out.bel BA.out)⟩
end Go.Proofs.YteefmjhemhlapaaGreat.Mm
