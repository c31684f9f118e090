/- Merged by wip/tools/regroup: GoalRef, GoalRefMay. -/
import Derived.Test.YteefmjhemhlapaaGreatVGoA
import Derived.Test.YteefmjhemhlapaaGreatVRuB
import Derived.Test.YteefmjhemhlapaaGreatVRefAWalks
namespace Go.Proofs.YteefmjhemhlapaaGreat.Mm
open Go.ChangeShapes Go.WideShapes Go.ChangeAt Go.RowKit
set_option linter.unusedVariables false
set_option maxRecDepth 10000
theorem jmp_ways (x:InsV):((x.op == 19)=true∧jmpB x=true)∨((x.op == 19)=false∧(x.op == 20)=true∧jmpB x=true)∨((x.op == 19)=false∧(x.op == 20)=false∧jmpB x=false):=by
  unfold jmpB
  cases h:x.op == 19
  · cases h1:x.op == 20 <;> simp
  · simp
theorem rJump_any (x:InsV) (w:World):Calls Tryz.prog 73 #[x.agg] w fun e w'=>e=.returned (.bool (jmpB x))∧Below w.heap.size w w':=by
  have HW:=jmp_ways x
  generalize jmpB x=q at *
  obtain ⟨o,y,z,n⟩:=x
  unfold InsV.agg
  dsimp only at HW ⊢
  rcases HW with ⟨h1,rfl⟩ | ⟨h1,h2,rfl⟩ | ⟨h1,h2,rfl⟩
  all_goals
    go_enter Tryz.func73,Tryz.ntmps73
    go_wp2
    go_ret
    exact ⟨rfl,bel_al (Below.refl _ _) _⟩
theorem rgoal (o:Int) (p:Nat) (a b n:Int) (s t:Int) (g1:IntKind.i64.wrap ((p:Int)+s)=(p:Int)+s) (g2:IntKind.i64.wrap ((p:Int)+s+t)=(p:Int)+s+t)
    (C2:Hid (∀ w:World,Calls Tryz.prog 82 #[.int .i64 o] w fun e w'=>e=.returned (.int .i64 s)∧w=w'))
    (C3:Hid (∀ w:World,Calls Tryz.prog 83 #[.int .u32 n] w fun e w'=>e=.returned (.int .i64 t)∧w=w')) (w:World) :
    Calls Tryz.prog 74 #[.int .i64 p,.agg #[.int .i64 o,.int .i64 a,.int .i64 b,.int .u32 n]] w fun e w'=>e=.returned (.int .i64 ((p:Int)+s+t))∧Below w.heap.size w w':=by
  have X1:=Lib.hid (Ins4.new w ⟨o,a,b,n⟩)
  have B1:=Lib.hid (bel_al (Below.refl w.heap.size w) (.cells #[.int .i64 o,.int .i64 a,.int .i64 b,.int .u32 n] 134))
  go_enter Tryz.func74,Tryz.ntmps74
  go_wp2_with fail
  generalize hw:w.alloc (.cells #[.int .i64 o,.int .i64 a,.int .i64 b,.int .u32 n] 134)=w1 at *
  generalize hg:w.heap.size=g at *
  have HG:=Lib.hid hg
  clear hg
  have K:=Lib.hid (OfR.mk (w:=w1) X1.out (Below.refl _ _))
  go_region_held3 (fun w'=>(w'.cell? ⟨g,0,none⟩=some (.int .i64 o)∧w'.cell? ⟨g,3,none⟩=some (.int .u32 n))∧OfR w1 g ⟨o,a,b,n⟩ w')
    (first | exact OfR.s K.out | exact OfR.s (OfR.below K.out (below_drew1 (Below.refl _ _))) | exact of_keep ‹_∧OfR _ _ _ _› hb | exact of_keep0 ‹_∧OfR _ _ _ _› hb)
    (first | (go_at_call 82;(with_reducible refine (C2.out _).mono ?_);rintro e w' ⟨rfl,hb⟩) | (go_at_call 83;(with_reducible refine (C3.out _).mono ?_);rintro e w' ⟨rfl,hb⟩))
  rename_i hh
  obtain ⟨_,K2⟩:=hh
  clear hw
  go_wp2
  go_ret
  have hz:=B1.out.size
  refine ⟨rfl,?_⟩
  rw [HG.out]
  exact B1.out.trans (K2.2.mono (by have:=HG.out;omega))
theorem rGoal_any (p:Nat) (hp:p≤100000) (x:InsV) (hx:x.Wf) (w:World):Calls Tryz.prog 74 #[.int .i64 p,x.agg] w fun e w'=>e=.returned (.int .i64 (goalV (p,x)))∧Below w.heap.size w w':=by
  have h1:=size_bd x.op
  have h2:=sign_bd x.imm
  exact rgoal x.op p x.a x.b x.imm (Go.Proofs.YteefmjhemhlapaaGreat.szO x.op) (wrap32 x.imm) (IntWalk.i64_in _ (by omega)) (IntWalk.i64_in _ (by omega)) (Lib.hid (fun w'=>Go.Proofs.YteefmjhemhlapaaGreat.rSize_any x.op w')) (Lib.hid (fun w'=>Go.Proofs.YteefmjhemhlapaaGreat.rsign_any x.imm hx.2.2.2.1 hx.2.2.2.2 w')) w
end Go.Proofs.YteefmjhemhlapaaGreat.Mm
namespace Go.Proofs.YteefmjhemhlapaaGreat.Mm
open Go.ChangeShapes Go.WideShapes Go.ChangeAt Go.RowKit
set_option linter.unusedVariables false
set_option maxRecDepth 10000
def MyR (w:World) (p1:Addr) (P1:Int) (p2:Addr) (P2:Int) (q:Addr) (u:InsV) (sc:Addr) (b:Bool) (w':World):Prop:=
  w'.cell? p1=some (.int .i64 P1)∧w'.cell? p2=some (.int .i64 P2)∧w'.cell? sc=some (.bool b)∧InsAt w' q u∧Below w.heap.size w w'
def MyS (w:World) (p1:Addr) (P1:Int) (p2:Addr) (P2:Int) (q:Addr) (u:InsV) (sc:Addr) (b:Bool) (w':World):Prop:=
  (w'.cell? p1=some (.int .i64 P1)∧w'.cell? p2=some (.int .i64 P2)∧w'.cell? sc=some (.bool b)∧w'.cell? q=some (.int .i64 u.op)∧w'.cell? ⟨q.block,q.off+1,none⟩=some (.int .i64 u.a)∧w'.cell? ⟨q.block,q.off+2,none⟩=some (.int .i64 u.b)∧w'.cell? ⟨q.block,q.off+3,none⟩=some (.int .u32 u.imm)) ∧
    MyR w p1 P1 p2 P2 q u sc b w'
theorem MyR.s {w w':World} {p1 p2 q sc:Addr} {P1 P2:Int} {u:InsV} {b:Bool} (k:MyR w p1 P1 p2 P2 q u sc b w'):MyS w p1 P1 p2 P2 q u sc b w':=⟨⟨k.1,k.2.1,k.2.2.1,k.2.2.2.1.c0,k.2.2.2.1.c1,k.2.2.2.1.c2,k.2.2.2.1.c3⟩,k⟩
theorem MyR.below {w a w':World} {p1 p2 q sc:Addr} {P1 P2:Int} {u:InsV} {b:Bool} (cv:p1.block < w.heap.size∧p2.block < w.heap.size∧q.block < w.heap.size∧sc.block < w.heap.size) (k:MyR w p1 P1 p2 P2 q u sc b a) (hb:Below a.heap.size a w'):MyR w p1 P1 p2 P2 q u sc b w':=
  have hz:=k.2.2.2.2.size
  ⟨(hb.cell (by omega)).trans k.1,(hb.cell (by omega)).trans k.2.1,(hb.cell (by omega)).trans k.2.2.1,k.2.2.2.1.below (by omega) hb,bel_then k.2.2.2.2 hb⟩
theorem my_keep {w a w':World} {p1 p2 q sc:Addr} {P1 P2:Int} {u:InsV} {b:Bool} {X:Prop} (cv:p1.block < w.heap.size∧p2.block < w.heap.size∧q.block < w.heap.size∧sc.block < w.heap.size) (k:X∧MyR w p1 P1 p2 P2 q u sc b a) (hb:Below a.heap.size a w'):MyS w p1 P1 p2 P2 q u sc b w':=(k.2.below cv hb).s
theorem rMay_no (A:Option Addr) (cap n:Nat) (code:List Int) (hn:code.length=n) (hE:ruleE code≠0) (w:World) (r:RowAt w A cap code):Calls Tryz.prog 57 #[.slice A n cap] w fun e w'=>e=.returned (.int .i64 (mayE code))∧Below w.heap.size w w':=by
  have C1:=Lib.hid (rSeconds_no A cap n code hn hE w r)
  rw [show mayE code=ruleE code by unfold mayE;rw [if_pos hE]]
  have hq:(ruleE code != 0)=true:=by rw [bne_iff_ne];exact hE
  clear r hn hE
  generalize ruleE code=q at *
  go_enter Tryz.func57,Tryz.ntmps57
  go_wp2_with fail
  refine C1.out.mono ?_;rintro e w1 ⟨rfl,hb1⟩
  have B1:=Lib.hid hb1
  clear hb1
  go_wp2
  go_ret
  exact ⟨rfl,B1.out⟩
set_option maxRecDepth 10000 in
set_option maxHeartbeats 4000000 in
theorem rMay_yes (A:Option Addr) (cap n:Nat) (code:List Int) (hn:code.length=n) (hE:ruleE code=0) (w:World) (r:RowAt w A cap code):Calls Tryz.prog 57 #[.slice A n cap] w fun e w'=>e=.returned (.int .i64 (mayE code))∧Below w.heap.size w w':=by
  have hb:=r.2.2.1
  obtain ⟨hs,hsl,_⟩:=rule_scan hE
  have C1:=Lib.hid (rSeconds_yes A cap n code hn hE w r)
  have C2:=Lib.hid (fun w' (k:Below w.heap.size w w')=>rscan_any A cap n code hn w' (r.below k))
  unfold ReadP at C2
  rw [hs] at C2
  rw [hsl] at C1
  have hz:=scanL_len hb
  have HO:=Lib.hid (fun k hk=>scan_oks hb hs (k:=k) hk)
  have HP:=Lib.hid (fun k hk=>scan_place hb hs (k:=k) hk)
  have PL:=Lib.hid (posI_len (scanL code))
  have IL:=Lib.hid (insI_len (scanL code))
  have hcl:n≤4096:=by
    rcases scan_cases code with ⟨_,e,_⟩ | ⟨_,_,e,_⟩ | ⟨h,_⟩
    · rw [e] at hs;cases hs
    · rw [e] at hs;cases hs
    · have:=(sizeB_iff _).1 h;omega
  have hm:mayE code=if mayB (scanL code)=true then 0 else 6:=by unfold mayE;rw [if_neg (by omega)]
  rw [hm]
  rw [hn] at HP
  clear r hn hE hb hm hs hsl
  generalize scanL code=L at *
  have MB:=Lib.hid (fun k hk hu hf=>@may_bad L k hk hu hf)
  have MI:=Lib.hid ((may_iff L).2)
  generalize hzz:L.length=z at C2 PL IL hz
  have HZ:=Lib.hid hzz
  rw [hzz] at MI
  clear hzz
  generalize hmb:mayB L=mb at *
  clear hmb
  generalize hsec:secP L=S at *
  have HS:=Lib.hid hsec
  clear hsec
  go_enter Tryz.func57,Tryz.ntmps57
  go_wp2_with fail
  refine C1.out.mono ?_;rintro e w1 ⟨g,rfl,hgl,hh,hb1⟩
  have G1:=Lib.hid hh
  have B1:=Lib.hid hb1
  clear hh hb1 C1
  go_wp2_with fail
  refine (C2.out w1 B1.out).mono ?_;rintro e w2 ⟨A2,c2,A3,c3,rfl,i2,i3,hb2⟩
  have G2:=Lib.hid (G1.out.below hb2)
  have I2:=Lib.hid i2
  have I3:=Lib.hid i3
  have B2:=Lib.hid (bel_then B1.out hb2)
  clear i2 i3 hb2 C2 G1 B1
  go_wp2
  go_loopw [8] (fun i wr=>∃ (k:Nat),i=.int .i64 k∧k≤z∧Hid (MayI L k)∧Hid (Below w2.heap.size w2 wr)) (fun i _=>z - (intOf i).toNat)
  case atStart=>exact ⟨0,rfl,Nat.zero_le _,Lib.hid (mayI_0 L),Lib.hid (Below.refl _ _)⟩
  case round=>
    obtain ⟨k,rfl,hk,HI,HB⟩:=hrel
    by_cases hlt:k < z
    · have hkL:k < L.length:=by rw [HZ.out];exact hlt
      obtain ⟨x,rfl,hxb,hc⟩:=(I2.out.below HB.out).2.2 (by intro e;have:=PL.out;rw [e] at this;simp at this;omega)
      obtain ⟨y,rfl,hyb,hd⟩:=(I3.out.below HB.out).2.2.2 (by intro e;have:=IL.out;rw [e] at this;simp at this;omega)
      have PX:=Lib.hid (hd k (by rw [IL.out];exact hlt))
      rw [ins_at hkL] at PX
      have e1:=hc k (by rw [PL.out];exact hlt)
      rw [pos_at hkL] at e1
      have hpl:=HP.out k hkL
      have HOK:=Lib.hid (ok_wf (HO.out k hkL))
      have HGO:=Lib.hid (fun hp=>rGoal_any (L.getD k dfl).1 hp (L.getD k dfl).2 HOK.out)
      have HJ:=Lib.hid (rJump_any (L.getD k dfl).2)
      have HNX:=Lib.hid (fun h=>mayI_no HI.out h)
      have HYX:=Lib.hid (fun h=>@mayI_yes L k HI.out h)
      have HBX:=Lib.hid (fun hu hf=>MB.out k hkL hu hf)
      have hgv:goalV (L.getD k dfl)=goalV ((L.getD k dfl).1,(L.getD k dfl).2):=rfl
      rw [← hgv] at HGO
      clear hgv hd
      rw [HS.out] at HYX
      have E1:=Lib.hid e1
      generalize goalV (L.getD k dfl)=G at *
      generalize (L.getD k dfl).1=R at *
      generalize (L.getD k dfl).2=u at *
      have HGO:=Lib.hid (HGO.out (by omega))
      unfold InsV.agg at HJ HGO
      obtain ⟨p0,p1,p2,p3⟩:=PX.out
      clear hc
      cases hj:jmpB u
      · rw [hj] at HJ
        have HN2:=Lib.hid (HNX.out hj)
        clear HNX HYX HBX hj HGO
        go_wp2_with fail
        refine (HJ.out _).mono ?_;rintro e w4 ⟨rfl,hb4⟩
        have B4:=Lib.hid (bel_then HB.out hb4)
        clear hb4
        go_wp2
        go_roundw
        case rel=>exact ⟨k+1,by go_num,by omega,HN2,B4⟩
        case measure=>simp [intOf];omega
      · rw [hj] at HJ
        have HB3:=Lib.hid (HBX.out hj)
        clear HNX HBX hj
        go_wp2_with fail
        refine (HJ.out _).mono ?_;rintro e w4 ⟨rfl,hb4⟩
        have B4:=Lib.hid (bel_then HB.out hb4)
        have E4:=Lib.hid ((hb4.cell (by rw [block_add];exact hxb)).trans E1.out)
        have P4:=Lib.hid (PX.out.below (by rw [block_add];exact hyb) hb4)
        have hx4:x.block < w4.heap.size:=Nat.lt_of_lt_of_le hxb hb4.size
        have hy4:y.block < w4.heap.size:=Nat.lt_of_lt_of_le hyb hb4.size
        have G4:=Lib.hid (G2.out.below B4.out)
        have J4:=Lib.hid (I2.out.below B4.out)
        clear hb4 p0 p1 p2 p3 e1 E1 PX HB hxb hyb HJ
        go_wp2
        go_loopw [9,10] (fun f i wr=>∃ (j:Nat) (b:Bool),i=.int .i64 j∧j≤z∧f=.bool b∧Hid (b=foundB (L.take j) S G)∧Hid (Below w4.heap.size w4 wr)) (fun _ i _=>z - (intOf i).toNat)
        case atStart=>exact ⟨0,false,rfl,Nat.zero_le _,rfl,Lib.hid (found_0 L S G).symm,Lib.hid (Below.refl _ _)⟩
        case round=>
          obtain ⟨j,b0,rfl,hjz,rfl,HF,HB2⟩:=hrel
          rename World=>wq
          by_cases hjl:j < z
          · have hjL:j < L.length:=by rw [HZ.out];exact hjl
            obtain ⟨x',hx',hxb,hc⟩:=(J4.out.below HB2.out).2.2 (by intro e;have:=PL.out;rw [e] at this;simp at this;omega)
            obtain rfl:x=x':=Option.some.inj hx'
            have e1:=hc j (by rw [PL.out];exact hjl)
            rw [pos_at hjL] at e1
            have hpj:=HP.out j hjL
            have HFS:=Lib.hid (found_step (S:=S) (g:=G) hjL)
            unfold hitB at HFS
            rw [← HF.out] at HFS
            generalize (L.getD j dfl).1=P at *
            clear hc hjL hx'
            cases b0
            · have hsc:wq.cell? ⟨g,P,none⟩=some (.bool (decide (P∈S))):=by rw [(G4.out.below HB2.out).cell,bl_get _ _ _ hpj]
              generalize decide (P∈S)=b at *
              have K:=Lib.hid (show MyR wq (x.add j) P (x.add k) R (y.add (k * 4)) u ⟨g,P,none⟩ b wq from ⟨e1,(HB2.out.cell (by rw [block_add];exact hx4)).trans E4.out,hsc,P4.out.below (by rw [block_add];exact hy4) HB2.out,Below.refl _ _⟩)
              have CK:=Lib.hid (show (x.add j).block < wq.heap.size∧(x.add k).block < wq.heap.size∧(y.add (k * 4)).block < wq.heap.size∧(⟨g,P,none⟩:Addr).block < wq.heap.size from
                ⟨by rw [block_add];exact hxb,by rw [block_add];exact hxb,by rw [block_add];exact Nat.lt_of_lt_of_le hy4 HB2.out.size,(G4.out.below HB2.out).lt⟩)
              clear e1 hsc
              have hP0:(P:Int) < (n:Int):=by omega
              cases hq:decide ((P:Int)=G)
              · have hqb:((P:Int) == G)=false:=by simpa using hq
                rw [hq] at HFS
                have HFN:Hid (false=foundB (L.take (j+1)) S G):=Lib.hid (by rw [HFS.out];rfl)
                clear HFS hq
                go_wp2_with fail
                refine wp_region_noPanic ?_
                refine wp_region_held_drew (S:=(fun w'=>(w'.cell? (x.add j)=some (.int .i64 (P:Int))∧w'.cell? (x.add k)=some (.int .i64 (R:Int))∧w'.cell? ⟨g,P,none⟩=some (.bool b)∧w'.cell? (y.add (k * 4))=some (.int .i64 u.op)∧w'.cell? ⟨(y.add (k * 4)).block,(y.add (k * 4)).off+1,none⟩=some (.int .i64 u.a)∧w'.cell? ⟨(y.add (k * 4)).block,(y.add (k * 4)).off+2,none⟩=some (.int .i64 u.b)∧w'.cell? ⟨(y.add (k * 4)).block,(y.add (k * 4)).off+3,none⟩=some (.int .u32 u.imm))∧MyR wq (x.add j) P (x.add k) R (y.add (k * 4)) u ⟨g,P,none⟩ b w')) (by kernel_rfl) ?_ (fun hHeld=>?_)
                · (try dsimp only)
                  first | exact MyR.s K.out | exact MyR.s (MyR.below CK.out K.out (below_drew1 (Below.refl _ _))) | exact my_keep CK.out hHeld hbr
                refine wT 0 ?_
                refine wT 1 ?_
                refine wT 2 ?_
                refine wT 3 ?_
                refine wT 4 ?_
                refine wT 5 ?_
                refine wT 6 ?_
                refine wT 7 ?_
                refine wT 8 ?_
                refine wT 9 ?_
                refine wT 10 ?_
                refine wT 11 ?_
                refine wT 12 ?_
                refine wT 13 ?_
                refine wpAnyH_ready (rs:=[14]) (by kernel_rfl) (by simp) ?_
                refine rC (fun K hK=>?_) ?_
                · go_simp
                  (with_reducible refine (HGO.out _).mono ?_);rintro e w' ⟨rfl,hbr⟩
                  go_wp2_with fail
                  refine hK.out _ _ ?_ (fun hHeld=>?_)
                  · (try dsimp only)
                    first | exact MyR.s K.out | exact MyR.s (MyR.below CK.out K.out (below_drew1 (Below.refl _ _))) | exact my_keep CK.out hHeld hbr
                  clear hK K
                  (try simp only [Act.put,lsA,lsZ,lsS])
                  refine wT 15 ?_
                  refine wT 16 ?_
                  refine wN 17 ?_
                  refine wN 18 ?_
                  refine wN 19 ?_
                  refine wN 20 ?_
                  refine wN 21 ?_
                  refine wN 22 ?_
                  refine wN 23 ?_
                  refine wN 24 ?_
                  refine wT 25 ?_
                  refine wT 26 ?_
                  refine wT 27 ?_
                  refine wpAnyH_done (by kernel_rfl) ?_ _
                  refine NoPanic.normal ?_
                  obtain ⟨_,K2⟩:=hHeld
                  have BN:=Lib.hid (bel_then HB2.out K2.2.2.2.2)
                  clear K2 K
                  go_wp2
                  go_roundw
                  case rel=>exact ⟨j+1,_,by go_num,by omega,rfl,HFN,BN⟩
                  case measure=>simp [intOf];omega
                exact AllReadyH.nil
              · have hqb:((P:Int) == G)=true:=by simpa using hq
                rw [hq] at HFS
                cases b
                · have HFN:Hid (true=foundB (L.take (j+1)) S G):=Lib.hid (by rw [HFS.out];rfl)
                  clear HFS hq
                  go_wp2_with fail
                  go_region_held3 (fun w'=>(w'.cell? (x.add j)=some (.int .i64 (P:Int))∧w'.cell? (x.add k)=some (.int .i64 (R:Int))∧w'.cell? ⟨g,P,none⟩=some (.bool false)∧w'.cell? (y.add (k * 4))=some (.int .i64 u.op)∧w'.cell? ⟨(y.add (k * 4)).block,(y.add (k * 4)).off+1,none⟩=some (.int .i64 u.a)∧w'.cell? ⟨(y.add (k * 4)).block,(y.add (k * 4)).off+2,none⟩=some (.int .i64 u.b)∧w'.cell? ⟨(y.add (k * 4)).block,(y.add (k * 4)).off+3,none⟩=some (.int .u32 u.imm))∧MyR wq (x.add j) P (x.add k) R (y.add (k * 4)) u ⟨g,P,none⟩ false w')
                    (first | exact MyR.s K.out | exact MyR.s (MyR.below CK.out K.out (below_drew1 (Below.refl _ _))) | exact my_keep CK.out ‹_∧MyR _ _ _ _ _ _ _ _ _ _› hb)
                    (first | (go_at_call 74;(with_reducible refine (HGO.out _).mono ?_);rintro e w' ⟨rfl,hb⟩))
                  rename_i hh
                  obtain ⟨_,K2⟩:=hh
                  have BN:=Lib.hid (bel_then HB2.out K2.2.2.2.2)
                  clear K2 K
                  go_wp2
                  go_roundw
                  case rel=>exact ⟨j+1,_,by go_num,by omega,rfl,HFN,BN⟩
                  case measure=>simp [intOf];omega
                · have HFN:Hid (false=foundB (L.take (j+1)) S G):=Lib.hid (by rw [HFS.out];rfl)
                  clear HFS hq
                  go_wp2_with fail
                  go_region_held3 (fun w'=>(w'.cell? (x.add j)=some (.int .i64 (P:Int))∧w'.cell? (x.add k)=some (.int .i64 (R:Int))∧w'.cell? ⟨g,P,none⟩=some (.bool true)∧w'.cell? (y.add (k * 4))=some (.int .i64 u.op)∧w'.cell? ⟨(y.add (k * 4)).block,(y.add (k * 4)).off+1,none⟩=some (.int .i64 u.a)∧w'.cell? ⟨(y.add (k * 4)).block,(y.add (k * 4)).off+2,none⟩=some (.int .i64 u.b)∧w'.cell? ⟨(y.add (k * 4)).block,(y.add (k * 4)).off+3,none⟩=some (.int .u32 u.imm))∧MyR wq (x.add j) P (x.add k) R (y.add (k * 4)) u ⟨g,P,none⟩ true w')
                    (first | exact MyR.s K.out | exact MyR.s (MyR.below CK.out K.out (below_drew1 (Below.refl _ _))) | exact my_keep CK.out ‹_∧MyR _ _ _ _ _ _ _ _ _ _› hb)
                    (first | (go_at_call 74;(with_reducible refine (HGO.out _).mono ?_);rintro e w' ⟨rfl,hb⟩))
                  rename_i hh
                  obtain ⟨_,K2⟩:=hh
                  have BN:=Lib.hid (bel_then HB2.out K2.2.2.2.2)
                  clear K2 K
                  go_wp2
                  go_roundw
                  case rel=>exact ⟨j+1,_,by go_num,by omega,rfl,HFN,BN⟩
                  case measure=>simp [intOf];omega
            · have HFN:Hid (true=foundB (L.take (j+1)) S G):=Lib.hid (by rw [HFS.out];rfl)
              clear HFS
              go_wp2_with fail
              go_quiet (fail)
              go_wp2
              go_roundw
              case rel=>exact ⟨j+1,_,by go_num,by omega,rfl,HFN,Lib.hid (below_drewN HB2.out _)⟩
              case measure=>simp [intOf];omega
          · obtain rfl:j=z:=by omega
            have hff:=HF.out
            rw [← HZ.out,found_all] at hff
            have BN:=Lib.hid (bel_then B4.out HB2.out)
            cases b0
            · have hmb:=HB3.out hff.symm
              subst hmb
              clear hff HF HB3 HYX
              go_wp2
              go_ret
              exact ⟨rfl,bel_then B2.out BN.out⟩
            · have HM:=Lib.hid (HYX.out hff.symm)
              clear hff HF HB3 HYX
              go_wp2
              go_roundw
              case rel=>exact ⟨k+1,by go_num,by omega,HM,BN⟩
              case measure=>simp [intOf];omega
    · obtain rfl:k=z:=by omega
      have hmb:=MI.out HI.out
      subst hmb
      go_wp2
      go_ret
      exact ⟨rfl,bel_then B2.out HB.out⟩
theorem rMay_any (A:Option Addr) (cap n:Nat) (code:List Int) (hn:code.length=n) (w:World) (r:RowAt w A cap code):Calls Tryz.prog 57 #[.slice A n cap] w fun e w'=>e=.returned (.int .i64 (mayE code))∧Below w.heap.size w w':=by
  by_cases hE:ruleE code=0
  · exact rMay_yes A cap n code hn hE w r
  · exact rMay_no A cap n code hn hE w r
end Go.Proofs.YteefmjhemhlapaaGreat.Mm
