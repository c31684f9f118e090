/- Package slab as it landed: Add. -/
import Derived.Test.YteefmjhemhlapaaGreatVSlR
import Derived.Deep.LoopGhost
import Derived.Lib.AppendZeros
import Derived.Maps.AppendAt
namespace Go.Proofs.YteefmjhemhlapaaGreat.Mm
open Go.ChangeShapes Go.WideShapes Go.ChangeAt Go.RowKit
set_option linter.unusedVariables false
set_option linter.unusedSimpArgs false
set_option maxRecDepth 10000

structure Set2 (w:World) (h:Nat) (t:TypeId) (a b:Value) (w':World):Prop where
  c0:w'.cell? ⟨h,0,none⟩=some a
  c1:w'.cell? ⟨h,1,none⟩=some b
  sz:w.heap.size≤w'.heap.size
  rest:∀ k,k≠h→w'.heap[k]?=w.heap[k]?
  bel:∀ (B:Nat) (v:World),Below B v w→B≤h→Below B v w'
theorem set2 {w:World} {h:Nat} {t:TypeId} {x y:Value} (hb:HasB w h t [x,y]) (a b:Value):Set2 w h t a b ((w.setCell ⟨h,0,none⟩ a).setCell ⟨h,1,none⟩ b):=by
  have p0:=hb.cell 0
  have p1:=hb.cell 1
  simp only [List.getElem?_cons_zero,List.getElem?_cons_succ] at p0 p1
  refine ⟨by simp [go_sem,p0],by simp [go_sem,p1],by simp,fun k hk=>?_,fun B v hv hB=>(hv.setCell (p:=⟨h,0,none⟩) hB _).setCell (p:=⟨h,1,none⟩) hB _⟩
  rw [Below.heap_setCell _ _ _ _ hk,Below.heap_setCell _ _ _ _ hk]
def TkP (w:World) (r:Rg) (q:Int) (e:Ending) (w':World):Prop:=e=.returned (.tuple #[.agg #[.int .i64 r.1,.int .i64 r.2],.int .i64 q])∧Below w.heap.size w w'
set_option maxHeartbeats 1000000 in
set_option maxHeartbeats 1000000 in
set_option maxHeartbeats 1000000 in
theorem take_bad (A:Option Addr) (cap n:Nat) (L:List Rg) (m s:Int) (hl:L.length=n) (hn:n≤1000) (hm:I64r m) (hr:rgtB L m=false) (w:World) (R:RgRow w A cap L) :
    Calls Tryz.prog 50 #[.slice A n cap,.int .i64 m,.int .i64 s] w (TkP w (0,0) 12):=by
  have X0:=Lib.hid (HasB.new w 52 [.int .i64 0,.int .i64 0])
  have B0:=Lib.hid (bel_al (Below.refl w.heap.size w) (.cells #[.int .i64 0,.int .i64 0] 52))
  have RC:=Lib.hid (fun w' (b:Below w.heap.size w w')=>right_code A cap n L m hl hn hm w' (R.below b))
  rw [hr] at RC
  clear R hl hr hm
  unfold TkP
  go_enter Tryz.func50,Tryz.ntmps50
  go_wp2_with fail
  go_step3
  go_wp2_with fail
  refine (RC.out _ B0.out).mono ?_;rintro e w1 ⟨rfl,hb1⟩
  have X1:=Lib.hid (X0.out.below hb1)
  have B1:=Lib.hid (bel_then B0.out hb1)
  clear X0 hb1 B0
  obtain ⟨W,hW⟩:∃ W,(w1.setCell ⟨w.heap.size,0,none⟩ (.int .i64 0)).setCell ⟨w.heap.size,1,none⟩ (.int .i64 0)=W:=⟨_,rfl⟩
  have S:=set2 X1.out (.int .i64 0) (.int .i64 0)
  rw [hW] at S
  have p0:=X1.out.cell 0
  have p1:=X1.out.cell 1
  simp only [List.getElem?_cons_zero,List.getElem?_cons_succ] at p0 p1
  have f0:=X1.out.frozen 0
  have f1:=X1.out.frozen 1
  have e0:=S.c0
  have e1:=S.c1
  have BF:=Lib.hid (S.bel _ _ B1.out (Nat.le_refl _))
  clear S
  go_wp2_with fail
  (try rw [Exit.noGoto_ret])
  refine bodyPost_ret (v:=.tuple #[.agg #[.int .i64 0,.int .i64 0],.int .i64 12]) (by simp [results,Tryz.results50,go_sem,e0,e1]) rfl ⟨rfl,BF.out⟩
set_option maxHeartbeats 1000000 in
theorem take_arg (A:Option Addr) (cap n:Nat) (L:List Rg) (m s:Int) (hl:L.length=n) (hn:n≤1000) (hm:I64r m) (hr:rgtB L m=true) (hs:powS s=false) (w:World) (R:RgRow w A cap L) :
    Calls Tryz.prog 50 #[.slice A n cap,.int .i64 m,.int .i64 s] w (TkP w (0,0) 1):=by
  have X0:=Lib.hid (HasB.new w 52 [.int .i64 0,.int .i64 0])
  have B0:=Lib.hid (bel_al (Below.refl w.heap.size w) (.cells #[.int .i64 0,.int .i64 0] 52))
  have RC:=Lib.hid (fun w' (b:Below w.heap.size w w')=>right_code A cap n L m hl hn hm w' (R.below b))
  have MC:=Lib.hid (smay_any s)
  rw [hr] at RC
  rw [hs] at MC
  clear R hl hr hm hs
  unfold TkP
  go_enter Tryz.func50,Tryz.ntmps50
  go_wp2_with fail
  go_step3
  go_wp2_with fail
  refine (RC.out _ B0.out).mono ?_;rintro e w1 ⟨rfl,hb1⟩
  have X1:=Lib.hid (X0.out.below hb1)
  have B1:=Lib.hid (bel_then B0.out hb1)
  clear X0 hb1 B0
  go_wp2_with fail
  refine (MC.out _).mono ?_;rintro e w2 ⟨rfl,rfl⟩
  obtain ⟨W,hW⟩:∃ W,(w1.setCell ⟨w.heap.size,0,none⟩ (.int .i64 0)).setCell ⟨w.heap.size,1,none⟩ (.int .i64 0)=W:=⟨_,rfl⟩
  have S:=set2 X1.out (.int .i64 0) (.int .i64 0)
  rw [hW] at S
  have p0:=X1.out.cell 0
  have p1:=X1.out.cell 1
  simp only [List.getElem?_cons_zero,List.getElem?_cons_succ] at p0 p1
  have f0:=X1.out.frozen 0
  have f1:=X1.out.frozen 1
  have e0:=S.c0
  have e1:=S.c1
  have BF:=Lib.hid (S.bel _ _ B1.out (Nat.le_refl _))
  clear S
  go_wp2_with fail
  (try rw [Exit.noGoto_ret])
  refine bodyPost_ret (v:=.tuple #[.agg #[.int .i64 0,.int .i64 0],.int .i64 1]) (by simp [results,Tryz.results50,go_sem,e0,e1]) rfl ⟨rfl,BF.out⟩
set_option maxRecDepth 10000 in
set_option maxHeartbeats 4000000 in
theorem take_in (A:Option Addr) (cap n:Nat) (L:List Rg) (m s:Int) (hl:L.length=n) (hn:n≤1000) (hm:I64r m) (hr:RightP L m) (hs:powS s=true) (w:World) (R:RgRow w A cap L) (r:Rg) (q:Int)
    (YES:Hid (∀ b,TakeOk L m s b→(∀ c,c < b→¬ TakeOk L m s c)→r=(b,s)∧q=0)) (NO:Hid ((∀ c,¬ TakeOk L m s c)→r=(0,0)∧q=7)) :
    Calls Tryz.prog 50 #[.slice A n cap,.int .i64 m,.int .i64 s] w (TkP w r q):=by
  have RR:=Lib.hid R
  have HL:=Lib.hid hl
  have X0:=Lib.hid (HasB.new w 52 [.int .i64 0,.int .i64 0])
  have B0:=Lib.hid (bel_al (Below.refl w.heap.size w) (.cells #[.int .i64 0,.int .i64 0] 52))
  have hs0:(w.alloc (.cells #[.int .i64 0,.int .i64 0] 52)).heap.size=w.heap.size+1:=Array.size_push _
  have RC:=Lib.hid (fun w' (b:Below w.heap.size w w')=>right_code A cap n L m hl hn hm w' (R.below b))
  rw [rgt_iff.2 hr] at RC
  have MC:=Lib.hid (smay_any s)
  rw [hs] at MC
  have LC:=Lib.hid (fun b (h1:s≤b) (h2:b % s=0) (h3:b≤70000) w=>slies_any (b,s) m (by unfold rgWf;have:=powS_pos hs;simp only;omega) ⟨hr.lo,hr.hi⟩ w)
  have LE:=Lib.hid (fun b (h1:s≤b) (h2:b % s=0)=>(by unfold regB;simp [hs,h1,h2]:regB m (b,s)=decide (b+s+64≤m)))
  have RX:=Lib.hid (fun k (hk:k < n)=>reg_bd (sright_at hr (by rw [hl];exact hk):regB m (L.getD k (0,0))=true) hr.hi)
  obtain ⟨s1,s2⟩:=powS_pos hs
  have m0:=hr.lo
  have m1:=hr.hi
  clear R hl hr hs hm
  unfold TkP
  go_enter Tryz.func50,Tryz.ntmps50
  go_wp2_with fail
  go_step3
  go_wp2_with fail
  refine (RC.out _ B0.out).mono ?_;rintro e w1 ⟨rfl,hb1⟩
  have X1:=Lib.hid (X0.out.below hb1)
  have B1:=Lib.hid (bel_then B0.out hb1)
  have hz1:w.heap.size < w1.heap.size:=by have:=hb1.size;omega
  clear X0 hb1 B0 RC hs0
  go_wp2_with fail
  refine (MC.out _).mono ?_;rintro e w2 ⟨rfl,rfl⟩
  have G1:=Lib.hid (HasB.new w1 52 [.int .i64 s,.int .i64 s])
  have X2:=Lib.hid (X1.out.below (bel_al (Below.refl _ w1) (.cells #[.int .i64 s,.int .i64 s] 52)))
  have B2:=Lib.hid (bel_al B1.out (.cells #[.int .i64 s,.int .i64 s] 52))
  clear MC X1 B1
  go_wp2_with fail
  go_step3
  go_wp2_with fail
  go_loopg [8] 100000 (fun z v wr=>∃ (b:Int) (g:Nat),v=.pointer (some ⟨g,0,none⟩)∧s≤b∧b≤70000∧(z:Int)≥100000 - b∧w.heap.size < g∧Hid (b % s=0)∧Hid (∀ c,c < b→¬ TakeOk L m s c)∧Hid (HasB wr g 52 [.int .i64 b,.int .i64 s])∧Hid (HasB wr w.heap.size 52 [.int .i64 0,.int .i64 0])∧Hid (Below w.heap.size w wr))
  case atStart=>exact ⟨s,_,rfl,by omega,by omega,by omega,hz1,Lib.hid (by simp),Lib.hid (fun c hc t=>by have:=t.lo;omega),G1,X2,B2⟩
  case round=>
    obtain ⟨b,g,rfl,hb1,hb2,hgk,hg,AL,MN,HG,HX,HB⟩:=hrel
    clear G1 X2 B2
    have c0:=HG.out.cell 0
    have c1:=HG.out.cell 1
    simp only [List.getElem?_cons_zero,List.getElem?_cons_succ] at c0 c1
    have LC1:=Lib.hid (LC.out b hb1 AL.out hb2)
    (try simp only at LC1)
    rw [LE.out b hb1 AL.out] at LC1
    by_cases hlt:b+s+64≤m
    · rw [decide_eq_true hlt] at LC1
      have OK:=Lib.hid (fun (h:∀ q,q < n→apartE (L.getD q (0,0)) (b,s)=true)=>YES.out b ⟨by omega,AL.out,hlt,take_all (by rw [HL.out];exact h)⟩ MN.out)
      have NX:=Lib.hid (fun k (hk:k < n) (h:apartE (L.getD k (0,0)) (b,s)=false)=>take_next (by omega) AL.out MN.out (fun t=>by
        have:=t.ap (L.getD k (0,0)) (by rw [List.getD_eq_getElem?_getD,List.getElem?_eq_getElem (by rw [HL.out];exact hk)];exact List.getElem_mem _)
        rw [h] at this;cases this))
      have AL2:=Lib.hid (show (b+s) % s=0 by rw [Int.add_emod_right];exact AL.out)
      clear YES NO AL MN LC LE
      go_wp2_with fail
      refine (LC1.out _).mono ?_;rintro e ws ⟨rfl,hbs⟩
      replace HG:=Lib.hid (HG.out.below hbs)
      replace HX:=Lib.hid (HX.out.below hbs)
      replace HB:=Lib.hid (bel_then HB.out hbs)
      clear hbs LC1 c0 c1
      go_wp2_with fail
      go_loopw [33] (fun v wr=>∃ (k:Nat),v=.int .i64 k∧k≤n∧Hid (∀ q,q < k→apartE (L.getD q (0,0)) (b,s)=true)∧Hid (Below ws.heap.size ws wr)) (fun v _=>n - (intOf v).toNat)
      case atStart=>exact ⟨0,rfl,by omega,Lib.hid (fun q hq=>by omega),Lib.hid (Below.refl _ _)⟩
      case round=>
        obtain ⟨k,rfl,hk,FR,HC⟩:=hrel
        by_cases hkn:k < n
        · obtain ⟨x,rfl,hxb,hc⟩:=(RR.out.below (HB.out.trans (HC.out.mono HB.out.size))).2.2.2 (by intro e;have:=HL.out;rw [e] at this;simp at this;omega)
          have c0:=(hc k (by rw [HL.out];omega)).c0
          have c1:=(hc k (by rw [HL.out];omega)).c1
          have hkn':(k:Int) < (n:Int):=by omega
          have AC:=Lib.hid (fun w=>apart_code (L.getD k (0,0)) (b,s) (RX.out k hkn) (by simp only;omega) w)
          have NX2:=Lib.hid (NX.out k hkn)
          have FR2:=Lib.hid (fun (h:apartE (L.getD k (0,0)) (b,s)=true) q (hq:q < k+1)=>(by
            rcases Nat.lt_or_ge q k with h' | h'
            · exact FR.out q h'
            · obtain rfl:q=k:=by omega
              exact h:apartE (L.getD q (0,0)) (b,s)=true))
          clear hc FR
          generalize hap:apartE (L.getD k (0,0)) (b,s)=ap at *
          generalize hy:L.getD k (0,0)=y at *
          clear hy hap
          obtain ⟨ya,yb⟩:=y
          simp only at c0 c1 AC
          obtain ⟨W,hW⟩:∃ W,wr.alloc (.cells #[.int .i64 ya,.int .i64 yb] 52)=W:=⟨_,rfl⟩
          have HY:HasB (wr.alloc (.cells #[.int .i64 ya,.int .i64 yb] 52)) wr.heap.size 52 [.int .i64 ya,.int .i64 yb]:=HasB.new wr 52 [.int .i64 ya,.int .i64 yb]
          have BY:=bel_al HC.out (.cells #[.int .i64 ya,.int .i64 yb] 52)
          rw [hW] at HY BY
          replace HG:=Lib.hid (HG.out.below BY)
          replace HX:=Lib.hid (HX.out.below BY)
          have BW:=Lib.hid (HB.out.trans (BY.mono HB.out.size))
          have d0:=HY.cell 0
          have d1:=HY.cell 1
          have g0:=HG.out.cell 0
          have g1:=HG.out.cell 1
          simp only [List.getElem?_cons_zero,List.getElem?_cons_succ] at d0 d1 g0 g1
          replace HC:=Lib.hid BY
          clear BY HY
          go_wp2_with fail
          refine (AC.out _).mono ?_;rintro e w3 ⟨rfl,hb3⟩
          replace HG:=Lib.hid (HG.out.below hb3)
          replace HX:=Lib.hid (HX.out.below hb3)
          replace BW:=Lib.hid (bel_then BW.out hb3)
          replace HC:=Lib.hid (bel_then HC.out hb3)
          clear hb3 d0 d1 g0 g1 c0 c1 hW
          cases ap
          · have MN2:=Lib.hid (NX2.out rfl)
            have g0:=HG.out.cell 0
            have g1:=HG.out.cell 1
            simp only [List.getElem?_cons_zero,List.getElem?_cons_succ] at g0 g1
            clear NX NX2 FR2 OK
            have G3:=Lib.hid (HasB.new w3 52 [.int .i64 (b+s),.int .i64 s])
            have X3:=Lib.hid (HX.out.below (bel_al (Below.refl _ w3) (.cells #[.int .i64 (b+s),.int .i64 s] 52)))
            have B3:=Lib.hid (bel_al BW.out (.cells #[.int .i64 (b+s),.int .i64 s] 52))
            have hg3:w.heap.size < w3.heap.size:=by have:=HX.out.lt;omega
            go_wp2_with fail
            go_roundg (100000 - (b+s)).toNat
            case measure=>omega
            case rel=>exact ⟨b+s,w3.heap.size,rfl,by omega,by omega,by omega,hg3,AL2,MN2,G3,X3,B3⟩
          · have FR3:=Lib.hid (FR2.out rfl)
            clear NX2 FR2
            go_wp2_with fail
            go_roundw
            case rel=>exact ⟨k+1,by go_num,by omega,FR3,HC⟩
            case measure=>simp [intOf];omega
        · obtain rfl:k=n:=by omega
          obtain ⟨e1,e2⟩:=OK.out FR.out
          subst e1 e2
          have X1:=Lib.hid (HX.out.below HC.out)
          have HG2:=Lib.hid (HG.out.below HC.out)
          have BW:=Lib.hid (HB.out.trans (HC.out.mono HB.out.size))
          have g0:=HG2.out.cell 0
          have g1:=HG2.out.cell 1
          simp only [List.getElem?_cons_zero,List.getElem?_cons_succ] at g0 g1
          clear HG HX HB HC HG2 FR OK NX
          obtain ⟨W,hW⟩:∃ W,(wr.setCell ⟨w.heap.size,0,none⟩ (.int .i64 b)).setCell ⟨w.heap.size,1,none⟩ (.int .i64 s)=W:=⟨_,rfl⟩
          have S:=set2 X1.out (.int .i64 b) (.int .i64 s)
          rw [hW] at S
          have p0:=X1.out.cell 0
          have p1:=X1.out.cell 1
          simp only [List.getElem?_cons_zero,List.getElem?_cons_succ] at p0 p1
          have f0:=X1.out.frozen 0
          have f1:=X1.out.frozen 1
          have e0:=S.c0
          have e1:=S.c1
          have BF:=Lib.hid (S.bel _ _ BW.out (Nat.le_refl _))
          clear S
          go_wp2_with fail
          (try rw [Exit.noGoto_ret])
          refine bodyPost_ret (v:=.tuple #[.agg #[.int .i64 b,.int .i64 s],.int .i64 0]) (by simp [results,Tryz.results50,go_sem,e0,e1]) rfl ⟨rfl,BF.out⟩
    · obtain ⟨e1,e2⟩:=NO.out (fun c t=>by
        by_cases h:c < b
        · exact MN.out c h t
        · have:=t.hi;omega)
      subst e1 e2
      rw [decide_eq_false hlt] at LC1
      clear YES NO AL MN LC LE
      go_wp2_with fail
      refine (LC1.out _).mono ?_;rintro e ws ⟨rfl,hbs⟩
      have X1:=Lib.hid (HX.out.below hbs)
      have BW:=Lib.hid (bel_then HB.out hbs)
      clear hbs LC1 c0 c1 HG HX HB
      obtain ⟨W,hW⟩:∃ W,(ws.setCell ⟨w.heap.size,0,none⟩ (.int .i64 0)).setCell ⟨w.heap.size,1,none⟩ (.int .i64 0)=W:=⟨_,rfl⟩
      have S:=set2 X1.out (.int .i64 0) (.int .i64 0)
      rw [hW] at S
      have p0:=X1.out.cell 0
      have p1:=X1.out.cell 1
      simp only [List.getElem?_cons_zero,List.getElem?_cons_succ] at p0 p1
      have f0:=X1.out.frozen 0
      have f1:=X1.out.frozen 1
      have e0:=S.c0
      have e1:=S.c1
      have BF:=Lib.hid (S.bel _ _ BW.out (Nat.le_refl _))
      clear S
      go_wp2_with fail
      (try rw [Exit.noGoto_ret])
      refine bodyPost_ret (v:=.tuple #[.agg #[.int .i64 0,.int .i64 0],.int .i64 7]) (by simp [results,Tryz.results50,go_sem,e0,e1]) rfl ⟨rfl,BF.out⟩
theorem stake_code:TakeC:=by
  intro A cap n L m s hl hn hm hs w R
  have T:Calls Tryz.prog 50 #[.slice A n cap,.int .i64 m,.int .i64 s] w (TkP w (takeR L m s) (takeE L m s)):=by
    by_cases h1:rgtB L m=true
    · by_cases h2:powS s=true
      · refine take_in A cap n L m s hl hn hm (rgt_iff.1 h1) h2 w R _ _ (Lib.hid (fun b hb hc=>?_)) (Lib.hid (fun hc=>?_))
        · have e:=takeV_some (l:=L) (n:=m) (s:=s) (b:=b) ⟨hb,hc⟩
          have hb0:=hb.lo
          have:=powS_pos h2
          have e2:takeE L m s=0:=by unfold takeE;rw [h1,h2,e];simp;omega
          refine ⟨?_,e2⟩
          unfold takeR;rw [if_pos e2,e]
        · have e:=takeV_none (l:=L) (n:=m) (s:=s) hc
          have e2:takeE L m s=7:=by unfold takeE;rw [h1,h2,e];simp
          refine ⟨?_,e2⟩
          unfold takeR;rw [if_neg (by rw [e2];omega)]
      · have h2':powS s=false:=by simpa using h2
        have e2:takeE L m s=1:=by unfold takeE;rw [h1,h2'];simp
        have e3:takeR L m s=(0,0):=by unfold takeR;rw [if_neg (by rw [e2];omega)]
        rw [e2,e3]
        exact take_arg A cap n L m s hl hn hm h1 h2' w R
    · have h1':rgtB L m=false:=by simpa using h1
      have e2:takeE L m s=12:=by unfold takeE;rw [h1'];simp
      have e3:takeR L m s=(0,0):=by unfold takeR;rw [if_neg (by rw [e2];omega)]
      rw [e2,e3]
      exact take_bad A cap n L m s hl hn hm h1' w R
  exact T
theorem rg_el:Tryz.prog.underlying 47=some (.slice (Tryz.prog.elem 47)):=by kernel_rfl
theorem rg_sz (w:World):(sizeOf (Tryz.prog.elem 47)).run Tryz.prog w=.ok 2 w:=by kernel_rfl
theorem rgrow_take {w:World} {A:Option Addr} {cap:Nat} {l:List Rg} (r:RgRow w A cap l) (m:Nat):RgRow w A cap (l.take m):=by
  obtain ⟨h1,h2,h3,h4⟩:=r
  have hl:(l.take m).length≤l.length:=by rw [List.length_take];omega
  refine ⟨by omega,h2,fun x hx=>h3 x (List.mem_of_mem_take hx),fun hne=>?_⟩
  obtain ⟨x,hx,hb,hc⟩:=h4 (by intro e;subst e;simp at hne)
  exact ⟨x,hx,hb,fun i hi=>by rw [take_getDG l (by rw [List.length_take] at hi;omega)];exact hc i (by omega)⟩
theorem add_addG (p:Addr) (i j:Nat):(p.add (i * 2)).add (j * 2)=p.add ((i+j) * 2):=by
  unfold Addr.add
  by_cases h:i=0
  · subst h;simp
  · by_cases h2:j=0
    · subst h2;simp
    · have h4:¬ i * 2=0:=by omega
      have h5:¬ j * 2=0:=by omega
      have h6:¬ (i+j) * 2=0:=by omega
      simp [h4,h5,h6,Nat.add_mul,Nat.add_assoc]
def cutG (A:Option Addr) (cap k:Nat):Option Addr:=if cap=k then A else A.map (·.add (k * 2))
theorem rgrow_cut {w:World} {A:Option Addr} {cap:Nat} {l:List Rg} (r:RgRow w A cap l) (k:Nat) (hk:k≤l.length):RgRow w (cutG A cap k) (cap - k) (l.drop k):=by
  obtain ⟨h1,h2,h3,h4⟩:=r
  unfold cutG
  refine ⟨by rw [List.length_drop];omega,by omega,fun x hx=>h3 x (List.mem_of_mem_drop hx),fun hne=>?_⟩
  have hk2:k < l.length:=by
    rcases Nat.lt_or_ge k l.length with h | h
    · exact h
    · exact absurd (List.drop_eq_nil_of_le h) hne
  obtain ⟨x,hx,hb,hc⟩:=h4 (by intro e;subst e;simp at hk2)
  subst hx
  rw [if_neg (by omega)]
  refine ⟨_,rfl,by rw [block_add];exact hb,fun i hi=>?_⟩
  rw [List.length_drop] at hi
  rw [add_addG,show (l.drop k).getD i (0,0)=l.getD (k+i) (0,0) by simp [List.getD]]
  exact hc (k+i) (by omega)
theorem cut_toG {w0:World} {A:Option Addr} {cap:Nat} {l:List Rg} (r:RgRow w0 A cap l) (n:Nat) (hn:l.length=n) (k:Nat) (I:Int) (hI:I=k) (hk:k≤n) :
    ∃ A1 c1,(∀ w,(Instr.slice 47 (.slice A n cap) none (some (.int .i64 I)) none).run Tryz.prog w=.ok (.slice A1 k c1) w)∧∀ w',RgRow w' A cap l→RgRow w' A1 c1 (l.take k):=by
  have hc:=r.1
  refine ⟨if cap=0 then A else A.map (·.add (0 * 2)),cap,fun w=>?_,fun w' r'=>?_⟩
  · rw [run_slice_h w 47 A n cap rg_el .i64 I (by omega) (by omega),rg_sz]
    simp [Result.andThen,sliced,hI]
  · have e:(if cap=0 then A else A.map (·.add (0 * 2)))=A:=by
      split
      · rfl
      · cases A <;> rfl
    rw [e]
    exact rgrow_take r' k
theorem cut_fromG {w0:World} {A:Option Addr} {cap:Nat} {l:List Rg} (r:RgRow w0 A cap l) (n:Nat) (hn:l.length=n) (k m:Nat) (I:Int) (hI:I=k) (hm:k+m=n) :
    ∃ A1 c1,(∀ w,(Instr.slice 47 (.slice A n cap) (some (.int .i64 I)) none none).run Tryz.prog w=.ok (.slice A1 m c1) w)∧∀ w',RgRow w' A cap l→RgRow w' A1 c1 (l.drop k):=by
  have hc:=r.1
  refine ⟨cutG A cap k,cap - k,fun w=>?_,fun w' r'=>rgrow_cut r' k (by omega)⟩
  rw [run_slice_l w 47 A n cap rg_el .i64 I (by omega) (by omega),rg_sz]
  simp [Result.andThen,sliced,cutG,hI,show n - k=m by omega]
theorem rg_cells {w:World} {p:Addr} {M:List Rg} (h:∀ i,i < M.length→RgAt w (p.add (i * 2)) (M.getD i (0,0))):∀ j u,(M.flatMap rgC)[j]?=some u→w.cell? (p.add j)=some u:=by
  intro j u hj
  have hjl:j < M.length * 2:=by
    rcases Nat.lt_or_ge j (M.length * 2) with h | h
    · exact h
    · rw [List.getElem?_eq_none (by rw [flatG_len];exact h)] at hj;cases hj
  obtain ⟨q,r,hr,rfl⟩:∃ q r,r < 2∧j=q * 2+r:=⟨j / 2,j % 2,by omega,by omega⟩
  have hi:q < M.length:=by omega
  obtain ⟨k0,k1⟩:=h q hi
  have e:=flatG_get M q hi r hr
  rw [hj] at e
  generalize M.getD q (0,0)=y at *
  have hr:r=0∨r=1:=by omega
  rcases hr with rfl | rfl <;> simp [rgC] at e <;> subst e
  · exact k0
  · have e2:p.add (q * 2+1)=⟨(p.add (q * 2)).block,(p.add (q * 2)).off+1,none⟩:=by
      have e3:p.add (q * 2+1)=(p.add (q * 2)).add 1:=by
        unfold Addr.add
        by_cases h:q=0
        · subst h;simp
        · have h4:¬ q * 2=0:=by omega
          simp [h4,Nat.add_assoc]
      rw [e3]
      generalize p.add (q * 2)=y
      unfold Addr.add
      simp
    rw [e2];exact k1
theorem flatG_ones (L:List Rg):∀ u∈L.flatMap rgC,u.oneCell'=true:=by
  intro u hu
  obtain ⟨x,_,h⟩:=List.mem_flatMap.1 hu
  exact rgC_one x u h
theorem append_nil_rg {w:World} {base:Nat} {ty:TypeId} {v:Value} {n:Nat} {xs:List Value} (hown:w.ownsRow base 52 2 v n xs) (c:Nat) :
    (Builtin.append_ #[47,47] ty #[v,.slice none 0 c]).run Tryz.prog w=.ok v w:=by
  obtain ⟨u0,hu0,hz0,hz1,hz2⟩:=info_parts rg_info
  rcases hown.2 with ⟨rfl,rfl⟩ | ⟨g,cap,cur,rfl,_,_,hnc,_⟩
  · simp [Builtin.append_,run_underlying Tryz.underlying47,sizeOf,typeInfo,hu0,Builtin.lenOf,Builtin.firstCells]
  · simp [Builtin.append_,run_underlying Tryz.underlying47,sizeOf,typeInfo,hu0,Builtin.lenOf,Builtin.firstCells,hnc,storeCells]
theorem append_rgrow {w:World} {ops:Array Oper} {rest:List Oper} {o:Oper} {a:Act} {Q:Exit→Act→World→Prop} (hgd':o.guard=none) (s x:Operand)
    (ho:o.op=.call { callee:=.builtin .append,args:=#[s,x],argTypes:=#[47,47] })
    (base:Nat) (v:Value) (n:Nat) (L:List Rg) (hs:a.eval s=v) (hown:w.ownsRow base 52 2 v n (L.flatMap rgC)) (hW:∀ y∈L,rgWf y)
    (A:Option Addr) (m c:Nat) (M:List Rg) (hx:a.eval x=.slice A m c) (hm:m=M.length) (cap:Nat) (hr:RgRow w A cap M) (n':Nat) (hn':n'=n+m) (hlen:n+m≤100000) (hbase:base≤w.heap.size)
    (h:∀ A' cap' w',w'.ownsRow base 52 2 (.slice A' n' cap') n' ((L ++ M).flatMap rgC)→Below base w w'→wpList Tryz.prog ops Q rest (a.put o.dst (.slice A' n' cap')) w') :
    wpList Tryz.prog ops Q (o :: rest) a w:=by
  subst hn'
  obtain ⟨u0,hu0,hz0,hz1,hz2⟩:=info_parts rg_info
  have hLM:∀ y∈L ++ M,rgWf y:=fun z hz=>(List.mem_append.1 hz).elim (hW z) (hr.2.2.1 z)
  cases A with
  | none=>
    have hM:M=[]:=by
      by_cases hne:M=[]
      · exact hne
      · obtain ⟨ad,h,_⟩:=hr.2.2.2 hne;cases h
    subst hM
    subst hm
    refine wpList_plain hgd' fun K hK=>?_
    unfold Oper.wp execOp
    simp only [ho,resolve,invoke,builtin,Sem.run_bind,Sem.run_pure,Result.andThen_ok,List.map_toArray,List.map_cons,List.map_nil,hs,hx,List.length_nil,append_nil_rg hown c]
    have hown':w.ownsRow base 52 2 v (n+0) ((L ++ []).flatMap rgC):=by simpa using hown
    obtain ⟨A',cap',rfl,_,hrow⟩:=rg_of_own hown' hLM
    exact hK _ _ (h A' cap' w hown' (Below.refl _ _))
  | some ad=>
    have hcs:∀ j u,(M.flatMap rgC)[j]?=some u→w.cell? (ad.add j)=some u:=by
      by_cases hne:M=[]
      · subst hne;intro j u hj;simp at hj
      · obtain ⟨ad',e,_,hc⟩:=hr.2.2.2 hne
        injection e with e;subst e
        exact rg_cells hc
    refine wpList_append_own_at w hgd' s x 47 ho base 52 u0 _ 2 16 Tryz.underlying47 hu0 hz0 hz1 hz2 rfl (by decide) v n (L.flatMap rgC) hs hown ad m c (M.flatMap rgC) hx (by rw [flatG_len,hm])
      hcs (flatG_ones M) (by unfold maxLen;omega) (by omega) hbase ?_
    intro v' w' hown' hg _ _
    rw [← flatG_app] at hown'
    obtain ⟨A',cap',rfl,_,hrow⟩:=rg_of_own hown' hLM
    exact h A' cap' w' hown' ((Below.refl base w).grown hg hbase (fun k hk=>(hown.lt k hk).1))
theorem grow_any (n:Nat) (hn:n≤100000) (w:World) :
    Calls Tryz.prog 77 #[.slice none 0 0,.int .i64 n] w fun e w'=>∃ A cap,e=.returned (.slice A 0 cap)∧w'.ownsRow w.heap.size 52 2 (.slice A 0 cap) 0 (([]:List Rg).flatMap rgC)∧Below w.heap.size w w':=by
  have B0:=Lib.hid (Below.refl w.heap.size w)
  by_cases h0:n=0
  · subst h0
    go_enter Tryz.func77,Tryz.ntmps77
    go_wp2_with fail
    go_ret
    exact ⟨none,0,rfl,World.ownsRow_nil _ _ _ _,B0.out⟩
  · obtain ⟨u0,hu0,hz0,hz1,hz2⟩:=info_parts rg_info
    have h1:(0:Int) < (n:Int):=by omega
    have hr:=Lib.run_append_nil_zeros (P:=Tryz.prog) (ty:=47) w 47 3 52 u0 _ .i64 .i64 Tryz.underlying47 Tryz.underlying3 hu0 hz0 n (by omega) (by omega) (by omega) (by rw [hz2];omega)
    have hg1:=grownCap_ge w n 0 52
    have hg2:=grownCap_le_maxLen w n 0 52 (by unfold maxLen;omega)
    have hsz:∀ k,(Builtin.zeroCells (Value.agg #[.int .i64 0,.int .i64 0]).cells k).size=k * 2:=fun k=>size_zeroCells _ k
    generalize grownCap w n 0 52=gc at *
    have B1:=Lib.hid (bel_al (below_drewG (Below.refl w.heap.size w)) (.cells (Builtin.zeroCells (Value.agg #[.int .i64 0,.int .i64 0]).cells n ++ Builtin.zeroCells (Value.agg #[.int .i64 0,.int .i64 0]).cells (gc - n)) 52))
    have O1:(w.drew.alloc (.cells (Builtin.zeroCells (Value.agg #[.int .i64 0,.int .i64 0]).cells n ++ Builtin.zeroCells (Value.agg #[.int .i64 0,.int .i64 0]).cells (gc - n)) 52)).ownsRow w.heap.size 52 2 (.slice (some ⟨w.heap.size,0,none⟩) 0 gc) 0 (([]:List Rg).flatMap rgC):=by
      refine ⟨rfl,.inr ⟨w.heap.size,gc,_,rfl,Nat.le_refl _,by exact Array.getElem?_push_size,Nat.zero_le _,hg2,?_,by simp⟩⟩
      rw [Array.size_append,hsz,hsz];omega
    replace O1:=Lib.hid O1
    obtain ⟨W,hW⟩:∃ W,w.drew.alloc (.cells (Builtin.zeroCells (Value.agg #[.int .i64 0,.int .i64 0]).cells n ++ Builtin.zeroCells (Value.agg #[.int .i64 0,.int .i64 0]).cells (gc - n)) 52)=W:=⟨_,rfl⟩
    rw [hW] at O1 B1 hr
    clear hW hsz
    go_enter Tryz.func77,Tryz.ntmps77
    go_wp2_with (first
      | (at_builtin
         refine Lib.wpList_append_run _ rfl _ _ _ _ rfl _ _ rfl rfl _ _ hr ?_))
    go_ret
    exact ⟨_,gc,rfl,O1.out,B1.out⟩
structure PartG where
  A:Option Addr
  cap:Nat
  L:List Rg
def PartG.v (p:PartG):Value:=.slice p.A p.L.length p.cap
def flatP (P:List PartG):List Rg:=P.flatMap PartG.L
def RgRowN (w w':World) (A:Option Addr) (cap:Nat) (l:List Rg):Prop:=RgRow w' A cap l∧∀ a,A=some a→w.heap.size≤a.block
theorem flatP_take (P:List PartG) (k:Nat) (h:k < P.length):flatP (P.take (k+1))=flatP (P.take k) ++ P[k].L:=by
  rw [List.take_succ_eq_append_getElem h]
  simp only [flatP,List.flatMap_append,List.flatMap_cons,List.flatMap_nil,List.append_nil]
theorem flatP_len (P:List PartG) (k:Nat):(flatP (P.take k)).length≤(flatP P).length:=by
  conv=>rhs;rw [← List.take_append_drop k P]
  simp only [flatP,List.flatMap_append,List.length_append]
  omega
structure PartsG (w:World) (g:Nat) (P:List PartG):Prop where
  cells:HasB w g 47 (P.map PartG.v)
  ok:∀ p∈P,RgRow w p.A p.cap p.L
theorem PartsG.below {w w':World} {g:Nat} {P:List PartG} (h:PartsG w g P) (b:Below w.heap.size w w'):PartsG w' g P:=⟨h.cells.below b,fun p hp=>(h.ok p hp).below b⟩
theorem PartsG.cell {w:World} {g:Nat} {P:List PartG} (h:PartsG w g P) (k:Nat) (hk:k < P.length):w.cell? ⟨g,k,none⟩=some (.slice P[k].A P[k].L.length P[k].cap):=by
  rw [h.cells.cell k]
  simp [List.getElem?_eq_getElem hk,PartG.v]
set_option maxHeartbeats 1000000 in
theorem concat_any (P:List PartG) (g m:Nat) (w:World) (hm:P.length=m) (hP:PartsG w g P) (hn:(flatP P).length≤10000) (hp:m≤100) :
    Calls Tryz.prog 60 #[.slice (some ⟨g,0,none⟩) m m] w fun e w'=>∃ A cap,e=.returned (.slice A (flatP P).length cap)∧RgRowN w w' A cap (flatP P)∧Below w.heap.size w w':=by
  have HM:=Lib.hid hm
  have HP:=Lib.hid hP
  have FL:=Lib.hid (flatP_len P)
  have FT:=Lib.hid (flatP_take P)
  have FA:=Lib.hid (show flatP (P.take m)=flatP P by rw [← hm,List.take_length])
  have WP:=Lib.hid (show ∀ x∈flatP P,rgWf x from fun x hx=>by
    obtain ⟨p,hp,hx⟩:=List.mem_flatMap.1 hx
    exact (hP.ok p hp).2.2.1 x hx)
  have WT:=Lib.hid (fun k=>show ∀ x∈flatP (P.take k),rgWf x from fun x hx=>by
    obtain ⟨p,hp,hx⟩:=List.mem_flatMap.1 hx
    exact (hP.ok p (List.mem_of_mem_take hp)).2.2.1 x hx)
  have HN:=Lib.hid hn
  have B0:=Lib.hid (Below.refl w.heap.size w)
  clear hP hm hn
  go_enter Tryz.func60,Tryz.ntmps60
  go_wp2_with fail
  go_loop [3,5,11] (fun s p i=>∃ (k z:Nat),k≤m∧i=.int .i64 k∧s=.int .i64 z∧Hid ((flatP (P.take k)).length=z)) (fun _ _ i=>m - (intOf i).toNat)
  case atStart=>exact ⟨0,0,Nat.zero_le _,rfl,rfl,Lib.hid rfl⟩
  case round=>
    obtain ⟨k,z,hk,rfl,rfl,HZ⟩:=hrel
    by_cases hlt:k < m
    · have hkP:k < P.length:=by rw [HM.out];exact hlt
      have c0:=HP.out.cell k hkP
      have hb:z+P[k].L.length≤10000:=by
        have h1:=FL.out (k+1)
        rw [FT.out k hkP,List.length_append,HZ.out] at h1
        have:=HN.out
        omega
      have FN:Hid ((flatP (P.take (k+1))).length=z+P[k].L.length):=Lib.hid (by rw [FT.out k hkP,List.length_append,HZ.out])
      clear FT FL HZ
      have hkm:(k:Int) < (m:Int):=by omega
      generalize P[k].L.length=n at *
      generalize P[k].A=A at *
      generalize P[k].cap=c at *
      have hz0:¬ ((z:Int)+(n:Int) < 0):=by omega
      go_wp2
      go_round
      case rel=>exact ⟨k+1,z+n,by omega,by go_num,by go_num,FN⟩
      case measure=>simp [intOf];omega
    · obtain rfl:k=m:=by omega
      have HZ2:Hid ((flatP P).length=z):=Lib.hid (by rw [← FA.out];exact HZ.out)
      have hz:=HN.out
      rw [HZ2.out] at hz
      have GC:=Lib.hid (grow_any z (by omega))
      clear HZ
      go_wp2_with fail
      refine (GC.out _).mono ?_;rintro e w1 ⟨A1,c1,rfl,o1,hb1⟩
      have O1:=Lib.hid o1
      have B1:=Lib.hid hb1
      clear o1 hb1 GC
      go_wp2_with fail
      go_loopw [6,8,27] (fun o p i wr=>∃ (j y:Nat) (A:Option Addr) (cap:Nat),j≤k∧i=.int .i64 j∧o=.slice A y cap∧Hid ((flatP (P.take j)).length=y)∧Hid (wr.ownsRow w.heap.size 52 2 (.slice A y cap) y ((flatP (P.take j)).flatMap rgC))∧Hid (Below w.heap.size w wr)) (fun _ _ i _=>k - (intOf i).toNat)
      case atStart=>exact ⟨0,0,A1,c1,Nat.zero_le _,rfl,rfl,Lib.hid rfl,O1,B1⟩
      case round=>
        obtain ⟨j,y,A,cap,hj,rfl,rfl,HY,OY,HB⟩:=hrel
        by_cases hlt2:j < k
        · have hjP:j < P.length:=by rw [HM.out];exact hlt2
          have c0:=(HP.out.below HB.out).cell j hjP
          have R0:=Lib.hid ((HP.out.below HB.out).ok P[j] (List.getElem_mem hjP))
          have hb:y+P[j].L.length≤10000:=by
            have h1:=FL.out (j+1)
            rw [FT.out j hjP,List.length_append,HY.out] at h1
            have:=HN.out
            omega
          have FN:Hid ((flatP (P.take (j+1))).length=y+P[j].L.length):=Lib.hid (by rw [FT.out j hjP,List.length_append,HY.out])
          have FE:=Lib.hid (FT.out j hjP)
          have WJ:=Lib.hid (WT.out j)
          have hbs:=HB.out.size
          clear HY
          have hkm:(j:Int) < (k:Int):=by omega
          generalize flatP (P.take j)=F at *
          generalize hF2:flatP (P.take (j+1))=F2 at *
          replace hF2:=Lib.hid hF2
          generalize P[j]=p at *
          obtain ⟨pA,pc,pL⟩:=p
          simp only at c0 R0 hb FN FE
          have hpl:∃ n,pL.length=n:=⟨_,rfl⟩
          obtain ⟨n,hpl⟩:=hpl
          have HPL:=Lib.hid hpl
          rw [hpl] at c0 hb FN
          clear hpl
          go_wp2_with (first
            | (at_builtin
               refine append_rgrow rfl (.tmp 31) (.tmp 32) rfl w.heap.size _ y F rfl OY.out WJ.out pA n pc pL rfl HPL.out.symm pc R0.out (y+n) rfl (by omega) hbs ?_
               intro A7 c7 w7 own7 bel7
               have S2:=Lib.hid own7
               have B7:=Lib.hid (HB.out.trans (bel7.mono (Nat.le_refl _)))
               clear own7 bel7))
          go_roundw
          case rel=>exact ⟨j+1,y+n,A7,c7,by omega,by go_num,rfl,by rw [hF2.out];exact FN,by rw [hF2.out,FE.out];exact S2,B7⟩
          case measure=>simp [intOf];omega
        · obtain rfl:j=k:=by omega
          have hy:y=z:=by rw [← HY.out,FA.out,HZ2.out]
          subst hy
          have oy:=OY.out
          rw [FA.out] at oy
          obtain ⟨A5,c5,he,_,hrow⟩:=rg_of_own oy WP.out
          obtain ⟨rfl,rfl⟩:A5=A∧c5=cap:=by injection he with h1 h2 h3;exact ⟨h1.symm,h3.symm⟩
          have RO:=Lib.hid hrow
          have NW:=Lib.hid (fun (a:Addr) (ha:A5=some a)=>((oy.lt a.block (by rw [ha];rfl)).1:w.heap.size≤a.block))
          clear he hrow oy OY
          go_wp2_with fail
          go_ret
          exact ⟨_,_,(by rw [HZ2.out];rfl),⟨RO.out,NW.out⟩,HB.out⟩
theorem add_is {L:List Rg} {x:Rg} {k:Nat} (hk:k≤L.length) (h1:∀ j,k≤j→j < L.length→x.1 < (L.getD j (0,0)).1) (h2:k=0∨(L.getD (k - 1) (0,0)).1≤x.1):AddIs L x (L.take k ++ x :: L.drop k) (L.take k) (L.drop k):=by
  refine ⟨(List.take_append_drop k L).symm,rfl,fun hr r hm=>?_,fun _ r hm=>?_⟩
  · obtain ⟨i,hi,rfl⟩:=List.mem_iff_getElem.1 hm
    have hik:i < k:=by rw [List.length_take] at hi;omega
    rcases h2 with h | h
    · omega
    · have e:(L.take k)[i]=L.getD i (0,0):=by
        rw [← take_getDG L hik,List.getD_eq_getElem?_getD,List.getElem?_eq_getElem hi];rfl
      rw [e]
      by_cases hj:i=k - 1
      · rw [hj];exact h
      · have:=List.pairwise_iff_getElem.1 hr i (k - 1) (by omega) (by omega) (by omega)
        rw [List.getD_eq_getElem?_getD,List.getElem?_eq_getElem (by omega:k - 1 < L.length)] at h
        rw [List.getD_eq_getElem?_getD,List.getElem?_eq_getElem (by omega:i < L.length)]
        simp only [Option.getD_some] at h ⊢
        omega
  · obtain ⟨i,hi,rfl⟩:=List.mem_iff_getElem.1 hm
    rw [List.length_drop] at hi
    have:=h1 (k+i) (by omega) (by omega)
    rw [List.getD_eq_getElem?_getD,List.getElem?_eq_getElem (by omega:k+i < L.length)] at this
    simpa using this
theorem parts3 (ws:World) (A1:Option Addr) (c1:Nat) (L1:List Rg) (A2:Option Addr) (c2:Nat) (L2:List Rg) (x:Rg) (r1:RgRow ws A1 c1 L1) (r2:RgRow ws A2 c2 L2) (hx:rgWf x) :
    PartsG (((ws.alloc (.cells #[.int .i64 x.1,.int .i64 x.2] 52)).alloc (.cells #[.slice A1 L1.length c1,.slice (some ⟨ws.heap.size,0,none⟩) 1 1,.slice A2 L2.length c2] 47)).drew) (ws.heap.size+1) [⟨A1,c1,L1⟩,⟨some ⟨ws.heap.size,0,none⟩,1,[x]⟩,⟨A2,c2,L2⟩]:=by
  have b1:=bel_al (Below.refl ws.heap.size ws) (.cells #[.int .i64 x.1,.int .i64 x.2] 52)
  have hs:(ws.alloc (.cells #[.int .i64 x.1,.int .i64 x.2] 52)).heap.size=ws.heap.size+1:=Array.size_push _
  have b2:=bel_al (Below.refl _ (ws.alloc (.cells #[.int .i64 x.1,.int .i64 x.2] 52))) (.cells #[.slice A1 L1.length c1,.slice (some ⟨ws.heap.size,0,none⟩) 1 1,.slice A2 L2.length c2] 47)
  have H:=HasB.new (ws.alloc (.cells #[.int .i64 x.1,.int .i64 x.2] 52)) 47 [.slice A1 L1.length c1,.slice (some ⟨ws.heap.size,0,none⟩) 1 1,.slice A2 L2.length c2]
  rw [hs] at H
  have hX:RgRow (ws.alloc (.cells #[.int .i64 x.1,.int .i64 x.2] 52)) (some ⟨ws.heap.size,0,none⟩) 1 [x]:=by
    refine ⟨Nat.le_refl _,by unfold maxLen;omega,fun y hy=>by rw [List.mem_singleton.1 hy];exact hx,fun _=>⟨_,rfl,by rw [hs];exact Nat.lt_succ_self _,fun i hi=>?_⟩⟩
    obtain rfl:i=0:=by simpa using hi
    exact rgAt_new ws x _
  refine ⟨H,fun p hp=>?_⟩
  simp only [List.mem_cons,List.not_mem_nil,or_false] at hp
  rcases hp with rfl | rfl | rfl
  · exact r1.below (below_drewG (bel_then b1 b2))
  · exact hX.below (below_drewG b2)
  · exact r2.below (below_drewG (bel_then b1 b2))
theorem cat3 (ws:World) (A1:Option Addr) (c1:Nat) (L1:List Rg) (A2:Option Addr) (c2:Nat) (L2:List Rg) (x:Rg) (r1:RgRow ws A1 c1 L1) (r2:RgRow ws A2 c2 L2) (hx:rgWf x) (k m N:Nat) (hk:L1.length=k) (hm:L2.length=m) (hN:k+1+m=N) (hb:N≤5000) :
    ∀ W,W=(((ws.alloc (.cells #[.int .i64 x.1,.int .i64 x.2] 52)).alloc (.cells #[.slice A1 k c1,.slice (some ⟨ws.heap.size,0,none⟩) 1 1,.slice A2 m c2] 47)).drew) →
    Calls Tryz.prog 60 #[.slice (some ⟨ws.heap.size+1,0,none⟩) 3 3] W fun e w'=>∃ A cap,e=.returned (.slice A N cap)∧RgRowN W w' A cap (L1 ++ x :: L2)∧Below W.heap.size W w':=by
  intro W hW
  have P:=parts3 ws A1 c1 L1 A2 c2 L2 x r1 r2 hx
  rw [hk,hm,← hW] at P
  have e:flatP [⟨A1,c1,L1⟩,⟨some ⟨ws.heap.size,0,none⟩,1,[x]⟩,⟨A2,c2,L2⟩]=L1 ++ x :: L2:=by simp [flatP]
  have hl:(L1 ++ x :: L2).length=N:=by simp;omega
  have C:=concat_any _ (ws.heap.size+1) 3 W rfl P (by rw [e,hl];omega) (by omega)
  rw [e,hl] at C
  exact C
def AddC2:Prop:=∀ (A:Option Addr) (cap n:Nat) (L:List Rg) (x:Rg),L.length=n→n≤1000→rgWf x→∀ w:World,RgRow w A cap L →
  Calls Tryz.prog 35 #[.slice A n cap,.agg #[.int .i64 x.1,.int .i64 x.2]] w fun e w'=>∃ A' c' M P Q,e=.returned (.slice A' (n+1) c')∧AddIs L x M P Q∧RgRowN w w' A' c' M∧Below w.heap.size w w'
set_option maxRecDepth 10000 in
set_option maxHeartbeats 4000000 in
theorem add_code:AddC2:=by
  intro A cap n L x hl hn hx w R
  obtain ⟨xa,xb⟩:=x
  have RR:=Lib.hid R
  have HL:=Lib.hid hl
  have HW:=Lib.hid hx
  have HX:=Lib.hid (HasB.new w 52 [.int .i64 xa,.int .i64 xb])
  have B0:=Lib.hid (bel_al (Below.refl w.heap.size w) (.cells #[.int .i64 xa,.int .i64 xb] 52))
  have hX2:w.alloc (.cells #[.int .i64 xa,.int .i64 xb] 52)=w.alloc (.cells [.int .i64 xa,.int .i64 xb].toArray 52):=rfl
  rw [← hX2] at HX
  clear hX2 R hl hx
  simp only
  go_enter Tryz.func35,Tryz.ntmps35
  go_wp2_with fail
  go_loopw [5] (fun v wr=>∃ (k:Nat),v=.int .i64 k∧k≤n∧Hid (∀ j,k≤j→j < n→xa < (L.getD j (0,0)).1)∧Hid (HasB wr w.heap.size 52 [.int .i64 xa,.int .i64 xb])∧Hid (Below w.heap.size w wr)) (fun v _=>(intOf v).toNat)
  case atStart=>exact ⟨n,rfl,Nat.le_refl _,Lib.hid (fun j h1 h2=>by omega),HX,B0⟩
  case round=>
    obtain ⟨k,rfl,hk,UP,HG,HB⟩:=hrel
    clear HX B0
    have d0:=HG.out.cell 0
    simp only [List.getElem?_cons_zero,List.getElem?_cons_succ] at d0
    have STOP:k=0∨(0 < k∧(L.getD (k - 1) (0,0)).1≤xa)∨(0 < k∧xa < (L.getD (k - 1) (0,0)).1):=by omega
    have CUTL:=Lib.hid (cut_toG RR.out n HL.out k (k:Int) rfl hk)
    have CUTR:=Lib.hid (cut_fromG RR.out n HL.out k (n - k) (k:Int) rfl (by omega))
    rcases STOP with h0 | ⟨h0,h1⟩ | ⟨h0,h1⟩
    · have kp:decide ((0:Int) < (k:Int))=false:=by simp;omega
      have kp':decide (0 < k)=false:=by simp;omega
      have h0':¬ (0:Int) < (k:Int):=by omega
      have ADD:=Lib.hid (add_is (L:=L) (x:=(xa,xb)) (k:=k) (by rw [HL.out];exact hk) (fun j h1 h2=>UP.out j h1 (by rw [← HL.out];exact h2)) (.inl h0))
      clear UP h0
      go_wp2_with fail
      go_quiet (fail)
      go_wp2_with fail
      have HG2:=Lib.hid (HG.out.below (below_drewN (Below.refl wr.heap.size wr) nq))
      have HB2:=Lib.hid (below_drewN HB.out nq)
      clear HG HB d0
      (try clear c0)
      generalize wr.drewN nq=ws at *
      have KS:=Lib.hid (fun (w':World) (b:Below ws.heap.size ws w')=>(show (w'.cell? ⟨w.heap.size,0,none⟩=some (.int .i64 xa)∧w'.cell? ⟨w.heap.size,1,none⟩=some (.int .i64 xb))∧Below ws.heap.size ws w' from ⟨⟨(HG2.out.below b).cell 0,(HG2.out.below b).cell 1⟩,b⟩))
      have BR:=Lib.hid (Below.refl ws.heap.size ws)
      obtain ⟨A1,c1,s1,t1⟩:=CUTL.out
      obtain ⟨A2,c2,s2,t2⟩:=CUTR.out
      replace t1:=Lib.hid t1
      replace t2:=Lib.hid t2
      clear CUTL CUTR
      have RW:=RR.out.below HB2.out
      have C3:=Lib.hid (cat3 ws A1 c1 _ A2 c2 _ (xa,xb) (t1.out _ RW) (t2.out _ RW) HW.out k (n - k) (n+1) (by rw [List.length_take,HL.out];omega) (by rw [List.length_drop,HL.out]) (by omega) (by omega))
      simp only at C3
      clear RW
      refine wp_region_noPanic ?_
      refine wp_region_held_drew (S:=(fun w'=>(w'.cell? ⟨w.heap.size,0,none⟩=some (.int .i64 xa)∧w'.cell? ⟨w.heap.size,1,none⟩=some (.int .i64 xb))∧Below ws.heap.size ws w')) (by kernel_rfl) ?_ (fun hHeld=>?_)
      · (try dsimp only)
        first | exact KS.out _ BR.out | exact KS.out _ (below_drewG BR.out)
      refine wT 0 ?_
      refine wT 1 ?_
      refine wT 2 ?_
      refine wT 3 ?_
      refine wT 5 ?_
      refine wT 6 ?_
      refine wT 7 ?_
      refine wpAnyH_ready (rs:=[4]) (by kernel_rfl) (by simp) ?_
      refine rC (fun K hK=>?_) ?_
      · go_simp
        refine hK.out _ _ ?_ (fun hHeld=>?_)
        · (try dsimp only)
          exact KS.out _ (bel_al hHeld.2 _)
        clear hK K
        (try simp only [Act.put,lsA,lsZ,lsS])
        refine wpAnyH_ready (rs:=[8]) (by kernel_rfl) (by simp) ?_
        refine rC (fun K hK=>?_) ?_
        · go_simp
          refine hK.out _ _ ?_ (fun hHeld=>?_)
          · (try dsimp only)
            exact KS.out _ (bel_al hHeld.2 _)
          clear hK K
          (try simp only [Act.put,lsA,lsZ,lsS])
          refine wpAnyH_ready (rs:=[9]) (by kernel_rfl) (by simp) ?_
          refine rC (fun K hK=>?_) ?_
          · go_simp
            (with_reducible refine (C3.out _ rfl).mono ?_);rintro e w' ⟨A9,c9,rfl,r9,hb⟩
            go_wp2_with fail
            refine hK.out _ _ ?_ (fun hHeld=>?_)
            · (try dsimp only)
              exact KS.out _ (bel_then hHeld.2 hb)
            clear hK K
            (try simp only [Act.put,lsA,lsZ,lsS])
            refine wT 10 ?_
            refine wpAnyH_done (by kernel_rfl) ?_ _
            refine NoPanic.normal ?_
            have R9:=Lib.hid r9.1
            have N9:=Lib.hid (fun (a:Addr) (ha:A9=some a)=>(Nat.le_trans HB2.out.size (Nat.le_trans (by (try simp) <;> omega) (r9.2 a ha)):w.heap.size≤a.block))
            have BN:=Lib.hid (HB2.out.trans (hHeld.2.mono HB2.out.size))
            clear r9 hHeld hb
            go_wp2_with fail
            go_ret
            exact ⟨A9,c9,_,_,_,rfl,ADD.out,⟨R9.out,N9.out⟩,BN.out⟩
          exact AllReadyH.nil
        exact AllReadyH.nil
      exact AllReadyH.nil
    · obtain ⟨j,hj⟩:∃ j:Nat,k - 1=j:=⟨_,rfl⟩
      have hjk:j < k:=by omega
      have ADD:=Lib.hid (add_is (L:=L) (x:=(xa,xb)) (k:=k) (by rw [HL.out];exact hk) (fun j h1 h2=>UP.out j h1 (by rw [← HL.out];exact h2)) (.inr h1))
      obtain ⟨p,rfl,hpb,hc⟩:=(RR.out.below HB.out).2.2.2 (by intro e;have:=HL.out;rw [e] at this;simp at this;omega)
      have c0:=(hc j (by rw [HL.out];omega)).c0
      rw [hj] at h1
      clear hc UP
      generalize (L.getD j (0,0)).1=ya at *
      have wj:wrap64 ((k:Int) - 1)=j:=by rw [w64 (by omega)];omega
      have wj2:IntKind.i64.wrap ((k:Int) - 1)=j:=by rw [IntWalk.i64_in _ (by omega)];omega
      have kp:decide ((0:Int) < (k:Int))=true:=by simp;omega
      have kp':decide (0 < k)=true:=by simp;omega
      have h0':(0:Int) < (k:Int):=by omega
      have hjn:(j:Int) < (n:Int):=by omega
      have hjn':j < n:=by omega
      have hd:decide (xa < ya)=false:=by simp;omega
      go_wp2_with fail
      go_quiet (fail)
      go_wp2_with fail
      have HG2:=Lib.hid (HG.out.below (below_drewN (Below.refl wr.heap.size wr) nq))
      have HB2:=Lib.hid (below_drewN HB.out nq)
      clear HG HB d0
      (try clear c0)
      generalize wr.drewN nq=ws at *
      have KS:=Lib.hid (fun (w':World) (b:Below ws.heap.size ws w')=>(show (w'.cell? ⟨w.heap.size,0,none⟩=some (.int .i64 xa)∧w'.cell? ⟨w.heap.size,1,none⟩=some (.int .i64 xb))∧Below ws.heap.size ws w' from ⟨⟨(HG2.out.below b).cell 0,(HG2.out.below b).cell 1⟩,b⟩))
      have BR:=Lib.hid (Below.refl ws.heap.size ws)
      obtain ⟨A1,c1,s1,t1⟩:=CUTL.out
      obtain ⟨A2,c2,s2,t2⟩:=CUTR.out
      replace t1:=Lib.hid t1
      replace t2:=Lib.hid t2
      clear CUTL CUTR
      have RW:=RR.out.below HB2.out
      have C3:=Lib.hid (cat3 ws A1 c1 _ A2 c2 _ (xa,xb) (t1.out _ RW) (t2.out _ RW) HW.out k (n - k) (n+1) (by rw [List.length_take,HL.out];omega) (by rw [List.length_drop,HL.out]) (by omega) (by omega))
      simp only at C3
      clear RW
      refine wp_region_noPanic ?_
      refine wp_region_held_drew (S:=(fun w'=>(w'.cell? ⟨w.heap.size,0,none⟩=some (.int .i64 xa)∧w'.cell? ⟨w.heap.size,1,none⟩=some (.int .i64 xb))∧Below ws.heap.size ws w')) (by kernel_rfl) ?_ (fun hHeld=>?_)
      · (try dsimp only)
        first | exact KS.out _ BR.out | exact KS.out _ (below_drewG BR.out)
      refine wT 0 ?_
      refine wT 1 ?_
      refine wT 2 ?_
      refine wT 3 ?_
      refine wT 5 ?_
      refine wT 6 ?_
      refine wT 7 ?_
      refine wpAnyH_ready (rs:=[4]) (by kernel_rfl) (by simp) ?_
      refine rC (fun K hK=>?_) ?_
      · go_simp
        refine hK.out _ _ ?_ (fun hHeld=>?_)
        · (try dsimp only)
          exact KS.out _ (bel_al hHeld.2 _)
        clear hK K
        (try simp only [Act.put,lsA,lsZ,lsS])
        refine wpAnyH_ready (rs:=[8]) (by kernel_rfl) (by simp) ?_
        refine rC (fun K hK=>?_) ?_
        · go_simp
          refine hK.out _ _ ?_ (fun hHeld=>?_)
          · (try dsimp only)
            exact KS.out _ (bel_al hHeld.2 _)
          clear hK K
          (try simp only [Act.put,lsA,lsZ,lsS])
          refine wpAnyH_ready (rs:=[9]) (by kernel_rfl) (by simp) ?_
          refine rC (fun K hK=>?_) ?_
          · go_simp
            (with_reducible refine (C3.out _ rfl).mono ?_);rintro e w' ⟨A9,c9,rfl,r9,hb⟩
            go_wp2_with fail
            refine hK.out _ _ ?_ (fun hHeld=>?_)
            · (try dsimp only)
              exact KS.out _ (bel_then hHeld.2 hb)
            clear hK K
            (try simp only [Act.put,lsA,lsZ,lsS])
            refine wT 10 ?_
            refine wpAnyH_done (by kernel_rfl) ?_ _
            refine NoPanic.normal ?_
            have R9:=Lib.hid r9.1
            have N9:=Lib.hid (fun (a:Addr) (ha:A9=some a)=>(Nat.le_trans HB2.out.size (Nat.le_trans (by (try simp) <;> omega) (r9.2 a ha)):w.heap.size≤a.block))
            have BN:=Lib.hid (HB2.out.trans (hHeld.2.mono HB2.out.size))
            clear r9 hHeld hb
            go_wp2_with fail
            go_ret
            exact ⟨A9,c9,_,_,_,rfl,ADD.out,⟨R9.out,N9.out⟩,BN.out⟩
          exact AllReadyH.nil
        exact AllReadyH.nil
      exact AllReadyH.nil
    · obtain ⟨j,hj⟩:∃ j:Nat,k - 1=j:=⟨_,rfl⟩
      have hjk:j < k:=by omega
      obtain ⟨p,rfl,hpb,hc⟩:=(RR.out.below HB.out).2.2.2 (by intro e;have:=HL.out;rw [e] at this;simp at this;omega)
      have c0:=(hc j (by rw [HL.out];omega)).c0
      have UP2:=Lib.hid (fun i (h2:j≤i) (h3:i < n)=>(by
        rcases Nat.lt_or_ge i k with h | h
        · obtain rfl:i=j:=by omega
          rw [← hj];exact h1
        · exact UP.out i h h3:xa < (L.getD i (0,0)).1))
      rw [hj] at h1
      clear hc UP
      generalize (L.getD j (0,0)).1=ya at *
      have wj:wrap64 ((k:Int) - 1)=j:=by rw [w64 (by omega)];omega
      have wj2:IntKind.i64.wrap ((k:Int) - 1)=j:=by rw [IntWalk.i64_in _ (by omega)];omega
      have kp:decide ((0:Int) < (k:Int))=true:=by simp;omega
      have kp':decide (0 < k)=true:=by simp;omega
      have h0':(0:Int) < (k:Int):=by omega
      have hjn:(j:Int) < (n:Int):=by omega
      have hjn':j < n:=by omega
      have hd:decide (xa < ya)=true:=by simp;omega
      go_wp2_with fail
      go_quiet (fail)
      go_wp2_with fail
      go_roundw
      case rel=>exact ⟨j,rfl,by omega,UP2,Lib.hid (HG.out.below (below_drewN (Below.refl _ _) _)),Lib.hid (below_drewN HB.out _)⟩
      case measure=>simp [intOf];omega
end Go.Proofs.YteefmjhemhlapaaGreat.Mm
