/- Package gate as it landed: an event behind others. -/
import Derived.Test.YteefmjhemhlapaaGreatVGaA
import Derived.Test.YteefmjhemhlapaaGreatVMeA
import Derived.ArgAppend
import Derived.Deep.AppendLies
namespace Go.Proofs.YteefmjhemhlapaaGreat.Mm
open Go.ChangeShapes Go.WideShapes Go.ChangeAt Go.RowKit
set_option linter.unusedVariables false

set_option maxHeartbeats 2000000 in
theorem owns_code:OwnsC:=by
  intro c at_ n o ha hn w
  obtain ⟨r0,r1,r2,r3,r4,r5,r6,r7,hr⟩:=o.eight
  have hb:=o.b
  have hs:=o.s
  obtain ⟨pc,r,b,s⟩:=c
  simp only at hr hb hs
  subst hr
  clear o
  unfold U32 at hb hs ha hn
  obtain ⟨b0,b1⟩:=hb
  obtain ⟨s0,s1⟩:=hs
  obtain ⟨a0,a1⟩:=ha
  obtain ⟨n0,n1⟩:=hn
  have hh:0≤s / 2∧s / 2 < 2147483648:=by omega
  obtain ⟨h0,h1⟩:=hh
  have et:s.tdiv 2=s / 2:=Int.tdiv_eq_ediv_of_nonneg s0
  have HD:=Lib.hid (show ownsB b s at_ n=(decide (b+s / 2≤at_) && decide (at_+n≤b+s / 2+s / 2)) from rfl)
  show Calls Tryz.prog 121 #[.agg #[.int .u32 pc,.int .u32 r0,.int .u32 r1,.int .u32 r2,.int .u32 r3,.int .u32 r4,.int .u32 r5,.int .u32 r6,.int .u32 r7,.int .u32 b,.int .u32 s],.int .u32 at_,.int .u32 n] w fun e w'=>e=.returned (.bool (ownsB b s at_ n))∧Below w.heap.size w w'
  by_cases k1:b+s / 2≤at_
  · by_cases k2:at_+n≤b+s / 2+s / 2
    · have hq:ownsB b s at_ n=true:=by rw [HD.out];simp [k1,k2]
      rw [hq]
      clear HD hq
      generalize s / 2=h at *
      go_enter Tryz.func121,Tryz.ntmps121
      go_wp2_with fail
      go_ret
      exact ⟨rfl,bel_al (Below.refl _ _) _⟩
    · have hq:ownsB b s at_ n=false:=by rw [HD.out];simp [k1,k2]
      rw [hq]
      clear HD hq
      generalize s / 2=h at *
      go_enter Tryz.func121,Tryz.ntmps121
      go_wp2_with fail
      go_ret
      exact ⟨rfl,bel_al (Below.refl _ _) _⟩
  · have hq:ownsB b s at_ n=false:=by rw [HD.out];simp [k1]
    rw [hq]
    clear HD hq
    generalize s / 2=h at *
    go_enter Tryz.func121,Tryz.ntmps121
    go_wp2_with fail
    go_ret
    exact ⟨rfl,bel_al (Below.refl _ _) _⟩
theorem take_code (w:World) (g:Nat) (W:Wd) (o:W.Ok) (RA:Option Addr) (rc:Nat) (TA:Option Addr) (tc:Nat)
    (H:HasB w g 80 [.slice RA W.rep.length rc,.int .i64 W.tk,.slice TA W.tr.length tc,.bool W.ov,.int .u32 W.cd]) (R:KRow .u32 w RA rc W.rep) (hoff:W.rep≠[]→Off RA g) :
    Calls Tryz.prog 102 #[.pointer (some ⟨g,0,none⟩)] w fun e w'=>e=.returned (.int .u32 (repV W))∧w'=w.setCell ⟨g,1,none⟩ (.int .i64 (repT W)):=by
  obtain ⟨t0,t1⟩:=o.tk
  have hrep:=o.rep
  have em:max W.tk 0=W.tk:=by omega
  obtain ⟨⟨c0,c1,_,_,_⟩,⟨f0,f1,_,_,_⟩⟩:=has5 H
  by_cases k:W.tk < W.rep.length
  · have ev:repV W=W.rep.getD W.tk.toNat 0:=by unfold repV;rw [em,if_pos k]
    have et:repT W=W.tk+1:=by unfold repT;rw [em,if_pos k]
    rw [ev,et]
    obtain ⟨p,rfl,hc,hwf⟩:=R.at (i:=W.tk.toNat) (by omega)
    have hpb:p.block≠g:=hoff (by intro e;rw [e] at k;simp at k;omega) p rfl
    obtain ⟨j,hj⟩:∃ j:Nat,W.tk=j:=⟨W.tk.toNat,by omega⟩
    rw [hj] at c1 k hc ⊢
    rw [Int.toNat_natCast] at hc ⊢
    have hg1:w.cell? ⟨g,1,none⟩=some (.int .i64 j):=c1
    have hs:(w.setCell ⟨g,1,none⟩ (.int .i64 ((j:Int)+1))).cell? (p.add j)=some (.int .u32 (W.rep.getD j 0)):=by
      rw [World.cell?_setCell_other _ _ _ _ (by intro e;exact hpb (by have:=congrArg Addr.block e;rw [block_add] at this;exact this.symm))];exact hc
    have hs0:(w.setCell ⟨g,1,none⟩ (.int .i64 ((j:Int)+1))).cell? ⟨g,0,none⟩=some (.slice (some p) W.rep.length rc):=by
      rw [World.cell?_setCell_other _ _ _ _ (by simp)];exact c0
    clear hc hj H R hwf ev et em hg1 o
    generalize W.rep.getD j 0=y at *
    generalize W.rep.length=rl at *
    have hk:decide (rl≤j)=false:=by simp;omega
    have hk':j < rl:=by omega
    go_enter Tryz.func102,Tryz.ntmps102
    go_wp2_with fail
    go_ret
    exact ⟨rfl,rfl⟩
  · have ev:repV W=0:=by unfold repV;rw [em,if_neg k]
    have et:repT W=W.tk:=by unfold repT;rw [em,if_neg k]
    rw [ev,et,set_same H 1 _ rfl]
    obtain ⟨j,hj⟩:∃ j:Nat,W.tk=j:=⟨W.tk.toNat,by omega⟩
    rw [hj] at c1 k
    clear hj H R ev et em o
    generalize W.rep.length=rl at *
    have hk:decide (rl≤j)=true:=by simp;omega
    have hk':rl≤j:=by omega
    go_enter Tryz.func102,Tryz.ntmps102
    go_wp2_with fail
    go_ret
    exact ⟨rfl,rfl⟩
theorem rowH {w:World} {g:Nat} {l:List Int} (h:HasB w g 5 (l.map (Value.int .u8))) (hb:Bytes l) (hm:l.length≤maxLen):RowAt w (some ⟨g,0,none⟩) l.length l:=by
  refine ⟨Nat.le_refl _,hm,hb,fun _=>⟨_,rfl,h.lt,fun i hi=>?_⟩⟩
  have e:(⟨g,0,none⟩:Addr).add i=⟨g,i,none⟩:=by
    unfold Addr.add
    by_cases h0:i=0
    · subst h0;rfl
    · rw [if_neg h0];simp
  rw [e,h.cell i,List.getElem?_map,List.getD_eq_getElem?_getD,List.getElem?_eq_getElem hi];rfl
theorem sumV_no {c:Cp} {B:List Int} {T:List Bool} (h:ownsB c.b c.s (c.reg 0) (c.reg 1)=false):sumV c B T=4294967295:=by unfold sumV;rw [h];rfl
theorem sumV_no2 {c:Cp} {B:List Int} {T:List Bool} (h:wholeB T (c.reg 0) (c.reg 1)=false):sumV c B T=4294967295:=by unfold sumV;rw [h,Bool.and_false];rfl
theorem sumV_yes {c:Cp} {B:List Int} {T:List Bool} (h:ownsB c.b c.s (c.reg 0) (c.reg 1)=true) (h2:wholeB T (c.reg 0) (c.reg 1)=true):sumV c B T=fnvL 2166136261 ((B.drop (c.reg 0).toNat).take (c.reg 1).toNat):=by unfold sumV;rw [h,h2];rfl
set_option maxHeartbeats 2000000 in
theorem sum_code (c:Cp) (o:c.Ok) (w:World) (p g h:Nat) (B:List Int) (T:List Bool) (m:MemAt w p g h B T) :
    Calls Tryz.prog 103 #[c.val,.pointer (some ⟨p,0,none⟩)] w fun e w'=>e=.returned (.int .u32 (sumV c B T))∧Below w.heap.size w w':=by
  have u0:=o.reg 0 (by omega) (by omega)
  have u1:=o.reg 1 (by omega) (by omega)
  have OW:=Lib.hid (owns_code c (c.reg 0) (c.reg 1) o u0 u1)
  have M0:=Lib.hid (fun w' (b:Below w.heap.size w w')=>m.below b)
  have NO:=Lib.hid (fun (h:ownsB c.b c.s (c.reg 0) (c.reg 1)=false)=>sumV_no (c:=c) (B:=B) (T:=T) h)
  have NO2:=Lib.hid (fun (h:wholeB T (c.reg 0) (c.reg 1)=false)=>sumV_no2 (c:=c) (B:=B) (T:=T) h)
  have YES:=Lib.hid (fun (h:ownsB c.b c.s (c.reg 0) (c.reg 1)=true) (h2:wholeB T (c.reg 0) (c.reg 1)=true)=>sumV_yes (c:=c) (B:=B) (T:=T) h h2)
  have RI:=Lib.hid (fun w' (m':MemAt w' p g h B T) (hw:wholeB T (c.reg 0) (c.reg 1)=true)=>read_i m' (c.reg 0) (c.reg 1) hw)
  have RN:=Lib.hid (fun w' (m':MemAt w' p g h B T) (hw:wholeB T (c.reg 0) (c.reg 1)=false)=>read_no m' (c.reg 0) (c.reg 1) (by have:=u0;unfold U32 at this;omega) hw)
  have HB8:=Lib.hid (show Bytes ((B.drop (c.reg 0).toNat).take (c.reg 1).toNat) from fun x hx=>m.byte x (List.mem_of_mem_drop (List.mem_of_mem_take hx)))
  have LL:=Lib.hid (fun (hw:wholeB T (c.reg 0) (c.reg 1)=true)=>(show ((B.drop (c.reg 0).toNat).take (c.reg 1).toNat).length=(c.reg 1).toNat from by
    obtain ⟨h0,h1,h2⟩:=whole_lies hw
    have:=m.len
    rw [List.length_take,List.length_drop]
    omega))
  clear m
  obtain ⟨r0,r1,r2,r3,r4,r5,r6,r7,hr⟩:=o.eight
  obtain ⟨pc,r,b,s⟩:=c
  simp only at hr
  subst hr
  clear o
  simp only [show (⟨pc,[r0,r1,r2,r3,r4,r5,r6,r7],b,s⟩:Cp).reg 0=r0 from rfl,show (⟨pc,[r0,r1,r2,r3,r4,r5,r6,r7],b,s⟩:Cp).reg 1=r1 from rfl] at *
  generalize sumV ⟨pc,[r0,r1,r2,r3,r4,r5,r6,r7],b,s⟩ B T=sv at *
  generalize hob:ownsB b s r0 r1=ob at *
  generalize hwb:wholeB T r0 r1=wb at *
  generalize (B.drop r0.toNat).take r1.toNat=X at *
  have hj:r1.toNat≤4294967295:=by unfold U32 at u1;omega
  generalize r1.toNat=j at *
  clear hob hwb
  have OW2:Hid (∀ w',Calls Tryz.prog 121 #[.agg #[.int .u32 pc,.int .u32 r0,.int .u32 r1,.int .u32 r2,.int .u32 r3,.int .u32 r4,.int .u32 r5,.int .u32 r6,.int .u32 r7,.int .u32 b,.int .u32 s],.int .u32 r0,.int .u32 r1] w' fun e w''=>e=.returned (.bool ob)∧Below w'.heap.size w' w''):=OW
  clear OW
  unfold U32 at u0 u1
  obtain ⟨a0,a1⟩:=u0
  obtain ⟨n0,n1⟩:=u1
  show Calls Tryz.prog 103 #[.agg #[.int .u32 pc,.int .u32 r0,.int .u32 r1,.int .u32 r2,.int .u32 r3,.int .u32 r4,.int .u32 r5,.int .u32 r6,.int .u32 r7,.int .u32 b,.int .u32 s],.pointer (some ⟨p,0,none⟩)] w fun e w'=>e=.returned (.int .u32 sv)∧Below w.heap.size w w'
  have hz0:IntKind.i64.wrap r0=r0:=by unfold IntKind.wrap;simp [IntKind.signed,IntKind.bits];omega
  have hz1:IntKind.i64.wrap r1=r1:=by unfold IntKind.wrap;simp [IntKind.signed,IntKind.bits];omega
  go_enter Tryz.func103,Tryz.ntmps103
  go_wp2_with fail
  go_quiet (fail)
  go_wp2_with fail
  refine (OW2.out _).mono ?_;rintro e w1 ⟨rfl,hb1⟩
  have B1:=Lib.hid (bel_then (below_drewN (bel_al (Below.refl w.heap.size w) _) _) hb1)
  clear hb1
  cases ob
  · have e:=NO.out rfl
    subst e
    go_wp2_with fail
    go_ret
    exact ⟨rfl,B1.out⟩
  · have M1:=M0.out _ B1.out
    cases wb
    · have e:=NO2.out rfl
      subst e
      have R:=Lib.hid (RN.out w1 M1 rfl)
      clear RN RI M1 YES NO NO2 M0
      go_wp2_with fail
      refine (R.out).mono ?_;rintro e w2 ⟨rfl,rfl⟩
      go_wp2_with fail
      go_ret
      exact ⟨rfl,B1.out⟩
    · have e:=YES.out rfl rfl
      subst e
      have R:=Lib.hid (RI.out w1 M1 rfl)
      clear RN RI M1 YES NO NO2 M0
      go_wp2_with fail
      refine (R.out).mono ?_;rintro e w2 ⟨rfl,hh,hb2⟩
      have B2:=Lib.hid (bel_then B1.out hb2)
      have hlen:X.length=j:=by
        have:=LL.out
        simp only [true_implies] at this
        exact this
      subst hlen
      have SM:=Lib.hid (sum_any (some ⟨w1.heap.size,0,none⟩) X.length X w2 (rowH hh HB8.out (by unfold maxLen;omega)))
      clear hh hb2 R LL
      go_wp2_with fail
      refine (SM.out).mono ?_;rintro e w3 ⟨rfl,rfl⟩
      go_wp2_with fail
      go_ret
      exact ⟨rfl,B2.out⟩
theorem ev_cells {w:World} {b:Addr} {cap:Nat} {L:List Ev} (R:EvRow w (some b) cap L):∀ j u,(L.flatMap evC)[j]?=some u→w.cell? (b.add j)=some u:=by
  intro j u hj
  have hlt:=(List.getElem?_eq_some_iff.1 hj).1
  rw [flatV_len] at hlt
  obtain ⟨p,hp,_,hc⟩:=R.2.2.2 (by intro e;rw [e] at hlt;simp at hlt)
  obtain rfl:b=p:=by simpa using hp
  have h2:j=j / 2 * 2+j % 2:=by omega
  have hm:j % 2 < 2:=Nat.mod_lt _ (by decide)
  have hi:j / 2 < L.length:=by omega
  rw [h2,flatV_get L _ hi _ hm] at hj
  have hc:=hc (j / 2) hi
  generalize L.getD (j / 2) (0,0)=y at *
  have e:b.add j=(b.add (j / 2 * 2)).add (j % 2):=by rw [add_add,← h2]
  rw [e]
  generalize b.add (j / 2 * 2)=q at *
  generalize j % 2=m at *
  match m,hm,hj with
  | 0,_,hj=>simp [evC] at hj;subst hj;rw [show q.add 0=q by simp [Addr.add]];exact hc.c0
  | 1,_,hj=>simp [evC] at hj;subst hj;rw [show q.add 1=⟨q.block,q.off+1,none⟩ by unfold Addr.add;simp];exact hc.c1
theorem app_ev_full {w:World} {o:Oper} {a:Act} {K:Act→World→Prop} {Q:Exit→Act→World→Prop} (s x:Operand)
    (ho:o.op=.call { callee:=.builtin .append,args:=#[s,x],argTypes:=#[78,78] })
    (A:Option Addr) (cap n:Nat) (L:List Ev) (hl:L.length=n) (hs:a.eval s=.slice A n n) (R:EvRow w A cap L)
    (g c:Nat) (y:Ev) (hx:a.eval x=.slice (some ⟨g,0,none⟩) 1 c) (hT:EvAt w ⟨g,0,none⟩ y) (hy:evWf y) (hlen:n≤100000)
    (h:∀ g cap w',w.heap.size≤g→EvRow w' (some ⟨g,0,none⟩) cap (L ++ [y])→Below w.heap.size w w'→K (a.put o.dst (.slice (some ⟨g,0,none⟩) (n+1) cap)) w'):o.wp Tryz.prog a w K Q:=by
  obtain ⟨u0,hu0,hz0,hz1,hz2⟩:=info_parts ev_info
  have hlo:(L.flatMap evC).length=n * 2:=by rw [flatV_len,hl]
  have hW:∀ z∈L ++ [y],evWf z:=fun z hz=>by
    rcases List.mem_append.1 hz with k | k
    · exact R.2.2.1 z k
    · simp at k;subst k;exact hy
  have fin:∀ v' w',w'.ownsRow w.heap.size 119 2 v' (n+1) (L.flatMap evC ++ evC y)→w.grownBy w' none→K (a.put o.dst v') w':=by
    intro v' w' hown hg
    obtain ⟨g',cap',rfl,hb,_⟩:=hown.form (by omega)
    have hown':w'.ownsRow w.heap.size 119 2 (.slice (some ⟨g',0,none⟩) (n+1) cap') (n+1) ((L ++ [y]).flatMap evC):=by rw [flatV_app,flatV_one];exact hown
    obtain ⟨A',c',e,_,hrow⟩:=ev_of_own hown' hW
    injection e with e1 e2 e3
    subst e1 e3
    exact h g' _ w' hb hrow ((Below.refl _ _).grown hg (Nat.le_refl _) (fun k hk=>by cases hk))
  cases A with
  | some b=>
    obtain ⟨v',w',hrun,r1,r2⟩:=run_append_arg_grows (P:=Tryz.prog) w 78 o.type 119 u0 _ 2 16 Tryz.underlying78 hu0 hz0 hz1 hz2 rfl (by decide) b n n _ hlo (ev_cells R) ⟨g,0,none⟩ 1 c (evC y) rfl
      (cells2V hT rfl) (by omega) (by unfold maxLen;omega) (by omega)
    unfold Oper.wp
    simp [execOp,ho,resolve,invoke,builtin,hs,hx,hrun,Result.andThen]
    exact fin v' w' r1 r2
  | none=>
    have hn:n=0:=by
      rcases Nat.eq_zero_or_pos n with h0 | h0
      · exact h0
      · obtain ⟨p,hp,_⟩:=R.2.2.2 (by intro e;rw [e] at hl;simp at hl;omega)
        cases hp
    subst hn
    have hL:L=[]:=List.eq_nil_of_length_eq_zero hl
    obtain ⟨v',w',hrun,r1,r2,_⟩:=run_append_own (P:=Tryz.prog) w w.heap.size 78 o.type 119 u0 _ 2 16 Tryz.underlying78 hu0 hz0 hz1 hz2 rfl (by decide) (.slice none 0 0) 0 [] (World.ownsRow_nil w _ _ _) ⟨g,0,none⟩ 1 c (evC y) rfl
      (cells2V hT rfl) (evC_one y) (by unfold maxLen;omega) (by omega) (Nat.le_refl _)
    unfold Oper.wp
    simp [execOp,ho,resolve,invoke,builtin,hs,hx,hrun,Result.andThen]
    exact fin v' w' (by rw [hL];exact r1) r2
set_option maxRecDepth 10000 in
set_option maxHeartbeats 4000000 in
theorem with_code (A:Option Addr) (cap n:Nat) (L:List Ev) (hl:L.length=n) (hn:n≤100000) (xa xb:Int) (hx:evWf (xa,xb)) (w:World) (R:EvRow w A cap L) :
    Calls Tryz.prog 104 #[.slice A n cap,.agg #[.int .i64 xa,.int .u32 xb]] w fun e w'=>∃ g cap',e=.returned (.slice (some ⟨g,0,none⟩) (n+1) cap')∧EvRow w' (some ⟨g,0,none⟩) cap' (L ++ [(xa,xb)])∧Below w.heap.size w w'∧w.heap.size≤g:=by
  have HL:=Lib.hid hl
  have HX:=Lib.hid hx
  have hcap:n≤cap:=by rw [← hl];exact R.1
  have hbase:A=none∨∃ p,A=some p:=by cases A;exact .inl rfl;exact .inr ⟨_,rfl⟩
  obtain ⟨W,hW,H,B1⟩:∃ W,w.alloc (.cells #[.int .i64 xa,.int .u32 xb] 119)=W∧HasB W w.heap.size 119 [.int .i64 xa,.int .u32 xb]∧Below w.heap.size w W:=
    ⟨_,rfl,HasB.new w 119 [.int .i64 xa,.int .u32 xb],bel_al (Below.refl _ _) _⟩
  have hsz:W.heap.size=w.heap.size+1:=by rw [← hW];exact Array.size_push _
  have R1:=Lib.hid (fun w' (b:Below W.heap.size W w')=>(R.below B1).below b)
  have c0:=H.cell 0
  have c1:=H.cell 1
  simp at c0 c1
  have BelW:=Lib.hid (fun w' (b:Below W.heap.size W w')=>bel_then B1 b)
  have B0:=Lib.hid (Below.refl W.heap.size W)
  have KS:=Lib.hid (fun (w':World) (b:Below W.heap.size W w')=>(show (w'.cell? ⟨w.heap.size,0,none⟩=some (.int .i64 xa)∧w'.cell? ⟨w.heap.size,1,none⟩=some (.int .u32 xb))∧Below W.heap.size W w' from ⟨⟨(b.cell (p:=⟨w.heap.size,0,none⟩) (by show w.heap.size < _;omega)).trans c0,(b.cell (p:=⟨w.heap.size,1,none⟩) (by show w.heap.size < _;omega)).trans c1⟩,b⟩))
  have NEW:=Lib.hid (show EvAt (W.alloc (.cells #[.int .i64 xa,.int .u32 xb] 119)).drew ⟨w.heap.size+1,0,none⟩ (xa,xb) from by rw [← hsz];have h:=evAt_new W (xa,xb) 119;exact ⟨h.c0,h.c1⟩)
  clear H B1 R hl hx c0 c1
  go_enter Tryz.func104,Tryz.ntmps104
  go_wp2_with fail
  refine wp_region_noPanic ?_
  refine wp_region_held_drew (S:=(fun w'=>(w'.cell? ⟨w.heap.size,0,none⟩=some (.int .i64 xa)∧w'.cell? ⟨w.heap.size,1,none⟩=some (.int .u32 xb))∧Below W.heap.size W w')) (by kernel_rfl) ?_ (fun hHeld=>?_)
  · (try dsimp only)
    first | exact KS.out _ B0.out | exact KS.out _ (below_drewV B0.out)
  refine wT 0 ?_
  refine wT 1 ?_
  refine wT 2 ?_
  refine wT 3 ?_
  refine wT 4 ?_
  refine wT 5 ?_
  refine wT 6 ?_
  refine wpAnyH_ready (rs:=[7]) (by kernel_rfl) (by simp) ?_
  refine rC (fun K hK=>?_) ?_
  · go_simp
    refine hK.out _ _ ?_ (fun hHeld=>?_)
    · (try dsimp only)
      exact KS.out _ (hHeld.2.alloc hHeld.2.size _)
    clear hK K
    (try simp only [Act.put,lsA,lsZ,lsS])
    refine wpAnyH_ready (rs:=[8]) (by kernel_rfl) (by simp) ?_
    refine rC (fun K hK=>?_) ?_
    · rw [if_pos (by rfl)]
      refine app_ev_full (.tmp 10) (.tmp 12) rfl A cap n L HL.out rfl (R1.out _ hHeld.2) _ 1 (xa,xb) rfl NEW.out HX.out hn ?_
      intro g7 c7 w7 GE7 ROW7 BW7
      have BN:=Lib.hid (bel_then hHeld.2 BW7)
      have ROW:=Lib.hid ROW7
      have GE:=Lib.hid (show w.heap.size≤g7 from by have:=hHeld.2.size;omega)
      clear GE7 ROW7 BW7
      refine hK.out _ _ ?_ (fun hHeld=>?_)
      · (try dsimp only)
        exact KS.out _ BN.out
      clear hK K
      (try simp only [Act.put,lsA,lsZ,lsS])
      refine wT 9 ?_
      refine wpAnyH_done (by kernel_rfl) ?_ _
      refine NoPanic.normal ?_
      go_wp2_with fail
      go_ret
      exact ⟨_,_,rfl,ROW.out,BelW.out _ BN.out,GE.out⟩
    exact AllReadyH.nil
  exact AllReadyH.nil
end Go.Proofs.YteefmjhemhlapaaGreat.Mm
