/- Merged by wip/tools/regroup: RuleSeconds, RuleRef. -/
import Derived.Test.YteefmjhemhlapaaGreatVRuA
import Derived.Test.YteefmjhemhlapaaGreatVScB
import Derived.Test.YteefmjhemhlapaaGreatVScanRef
namespace Go.Proofs.YteefmjhemhlapaaGreat.Mm
open Go.ChangeShapes Go.WideShapes Go.ChangeAt Go.RowKit
set_option linter.unusedVariables false
set_option maxRecDepth 10000
theorem seconds_scan (A:Option Addr) (cap n:Nat) (code:List Int) (hn:code.length=n) (hE:scanE code≠0) (w:World) (r:RowAt w A cap code) :
    Calls Tryz.prog 105 #[.slice A n cap] w fun e w'=>e=.returned (.tuple #[.map none,.int .i64 (scanE code)])∧Below w.heap.size w w':=by
  have C1:=Lib.hid (Starts_any A cap n code hn w r)
  unfold StartsP at C1
  have hq:(scanE code != 0)=true:=by rw [bne_iff_ne];exact hE
  clear r hn hE
  generalize scanE code=q at *
  go_enter Tryz.func105,Tryz.ntmps105
  go_wp2_with fail
  refine C1.out.mono ?_;rintro e w2 ⟨A2,c2,rfl,i2,hb2⟩
  have B2:=Lib.hid hb2;clear i2 hb2
  go_wp2
  go_ret2
  exact ⟨rfl,B2.out⟩
def PrR (w:World) (p q:Addr) (v u:InsV) (w':World):Prop:=InsAt w' p v∧InsAt w' q u∧Below w.heap.size w w'
def PrS (w:World) (p q:Addr) (v u:InsV) (w':World):Prop:=
  (w'.cell? p=some (.int .i64 v.op)∧w'.cell? ⟨p.block,p.off+1,none⟩=some (.int .i64 v.a)∧w'.cell? ⟨p.block,p.off+2,none⟩=some (.int .i64 v.b)∧w'.cell? ⟨p.block,p.off+3,none⟩=some (.int .u32 v.imm) ∧
    w'.cell? q=some (.int .i64 u.op)∧w'.cell? ⟨q.block,q.off+1,none⟩=some (.int .i64 u.a)∧w'.cell? ⟨q.block,q.off+2,none⟩=some (.int .i64 u.b)∧w'.cell? ⟨q.block,q.off+3,none⟩=some (.int .u32 u.imm))∧PrR w p q v u w'
theorem PrR.s {w:World} {p q:Addr} {v u:InsV} {w':World} (k:PrR w p q v u w'):PrS w p q v u w':=
  ⟨⟨k.1.c0,k.1.c1,k.1.c2,k.1.c3,k.2.1.c0,k.2.1.c1,k.2.1.c2,k.2.1.c3⟩,k⟩
theorem PrR.below {w:World} {p q:Addr} {v u:InsV} {a w':World} (cv:p.block < w.heap.size∧q.block < w.heap.size) (k:PrR w p q v u a) (hb:Below a.heap.size a w'):PrR w p q v u w':=
  ⟨k.1.below (Nat.lt_of_lt_of_le cv.1 k.2.2.size) hb,k.2.1.below (Nat.lt_of_lt_of_le cv.2 k.2.2.size) hb,bel_then k.2.2 hb⟩
theorem pr_keep {w:World} {p q:Addr} {v u:InsV} {a w':World} {X:Prop} (cv:p.block < w.heap.size∧q.block < w.heap.size) (k:X∧PrR w p q v u a) (hb:Below a.heap.size a w'):PrS w p q v u w':=(k.2.below cv hb).s
def SecP (w:World) (L:List (Nat×InsV)) (e:Ending) (w':World):Prop:=
  ((ruleB L=true∧∃ g,e=.returned (.tuple #[.map (some g),.int .i64 0])∧w.heap.size≤g∧SetAt w' g (secP L))∨(ruleB L=false∧e=.returned (.tuple #[.map none,.int .i64 5])))∧Below w.heap.size w w'
set_option maxHeartbeats 4000000 in
theorem seconds_main (A:Option Addr) (cap n:Nat) (code:List Int) (hn:code.length=n) (hE:scanE code=0) (w:World) (r:RowAt w A cap code) :
    Calls Tryz.prog 105 #[.slice A n cap] w (SecP w (scanL code)):=by
  have C1:=Lib.hid (Starts_any A cap n code hn w r)
  have C2:=Lib.hid (fun w' (k:Below w.heap.size w w')=>Listing_any A cap n code hn w' (r.below k))
  unfold StartsP at C1
  unfold ListP at C2
  rw [hE] at C1 C2
  have hz:=scanL_len r.2.2.1
  have HR:=Lib.hid (scan_rise r.2.2.1 hE)
  have HO:=Lib.hid (fun k hk=>scan_oks r.2.2.1 hE (k:=k) hk)
  have HP:=Lib.hid (fun k hk=>scan_place r.2.2.1 hE (k:=k) hk)
  have H0:=Lib.hid (fun hk=>place_0 r.2.2.1 hE hk)
  have HS:=Lib.hid (secI_0 (scanL code))
  have PL:=Lib.hid (posI_len (scanL code))
  have IL:=Lib.hid (insI_len (scanL code))
  have hcl:n≤maxLen:=by have:=r.1;have:=r.2.1;omega
  unfold maxLen at hcl
  rw [hn] at HP
  clear r hn hE
  generalize scanL code=L at *
  have HZ:Hid (L.length=L.length):=Lib.hid rfl
  generalize hz':L.length=z at C1 C2 PL IL hz
  clear HZ
  have HZ:=Lib.hid hz'
  clear hz'
  go_enter Tryz.func105,Tryz.ntmps105
  go_wp2_with fail
  refine C1.out.mono ?_;rintro e w2 ⟨A2,c2,rfl,i2,hb2⟩
  have I2:=Lib.hid i2
  have B2:=Lib.hid hb2;clear i2 hb2
  go_wp2_with fail
  refine (C2.out w2 B2.out).mono ?_;rintro e w3 ⟨A3,c3,rfl,i3,hb3⟩
  have I3:=Lib.hid i3
  have J2:=Lib.hid (I2.out.below hb3)
  have B3:=Lib.hid (bel_then B2.out hb3);clear i3 hb3 I2 C1 C2
  have M0:=Lib.hid (SetAt.made w3)
  have BM:=Lib.hid (bel_al (Below.refl w3.heap.size w3) (.map #[] 0))
  have mk:=run_makeMap (P:=Tryz.prog) 171 w3
  generalize w3.alloc (.map #[] 0)=WM at mk M0 BM
  generalize hg:w3.heap.size=g at mk M0
  have HG:=Lib.hid hg
  clear hg
  go_wp2
  clear mk
  go_loopw [29] (fun i wr=>∃ (k:Nat) (S:List Nat),i=.int .i64 k∧k≤z∧Hid (SecI L k S)∧Hid (SetAt wr g S)∧Hid (Below w3.heap.size w3 wr)) (fun i _=>z - (intOf i).toNat)
  case atStart=>exact ⟨0,[],rfl,Nat.zero_le _,HS,M0,BM⟩
  case round=>
    obtain ⟨k,S,rfl,hk,HI,HM,HB⟩:=hrel
    by_cases hlt:k < z
    · have hkL:k < L.length:=by rw [HZ.out];exact hlt
      obtain ⟨x,rfl,hxb,hc⟩:=(J2.out.below HB.out).2.2 (by intro e;have:=PL.out;rw [e] at this;simp at this;omega)
      obtain ⟨y,rfl,hyb,hd⟩:=(I3.out.below HB.out).2.2.2 (by intro e;have:=IL.out;rw [e] at this;simp at this;omega)
      have e1:=hc k (by rw [PL.out];exact hlt)
      rw [pos_at hkL] at e1
      have PX:=Lib.hid (hd k (by rw [IL.out];exact hlt))
      rw [ins_at hkL] at PX
      have hpl:=HP.out k hkL
      have HOK:=Lib.hid (HO.out k hkL)
      have HNO:=Lib.hid (fun ha hp=>rule_no (L:=L) hkL ha hp)
      have HAL:=Lib.hid (fun ha=>secI_alone HI.out hkL ha)
      have HPR:=Lib.hid (fun hp hq=>secI_pair HR.out HI.out hkL hp hq)
      have HAC:=Lib.hid (alone_any (L.getD k dfl).2)
      by_cases hp0:(L.getD k dfl).1 % 32=0
      · have HN2:=Lib.hid (fun ha=>HNO.out ha (.inl hp0))
        clear HPR hc hd HNO
        generalize (L.getD k dfl).1=P at *
        generalize (L.getD k dfl).2=u at *
        have t1:((P:Int)).tmod 32=0:=by rw [Int.tmod_eq_emod_of_nonneg (by omega)];omega
        have t2:((P:Int)) % 32=0:=by omega
        clear hp0
        unfold InsV.agg at HAC
        obtain ⟨p0,p1,p2,p3⟩:=PX.out
        cases ha:aloneB u
        · rw [ha] at HAC
          have HN3:=Lib.hid (HN2.out ha)
          clear HAL ha HN2
          go_wp2_with fail
          go_quiet (fail)
          go_wp2_with fail
          refine (HAC.out _).mono ?_;rintro e w4 ⟨rfl,hb4⟩
          have B4:=Lib.hid (bel_then B3.out (bel_then HB.out (bel_then (below_drewN (Below.refl _ wr) _) hb4)))
          clear hb4
          go_wp2
          go_ret2
          exact ⟨.inr ⟨HN3.out,rfl⟩,B4.out⟩
        · rw [ha] at HAC
          have HA2:=Lib.hid (HAL.out ha)
          clear HN2 ha HAL
          go_wp2_with fail
          go_quiet (fail)
          go_wp2_with fail
          refine (HAC.out _).mono ?_;rintro e w4 ⟨rfl,hb4⟩
          have HM4:=Lib.hid (HM.out.below (bel_then (below_drewN (Below.refl _ wr) _) hb4))
          have B4:=Lib.hid (bel_then HB.out (bel_then (below_drewN (Below.refl _ wr) _) hb4))
          clear hb4
          go_wp2
          go_roundw
          case rel=>exact ⟨k+1,S,by go_num,by omega,HA2,HM4,B4⟩
          case measure=>simp [intOf];omega
      · obtain ⟨m,hm⟩:∃ m,k=m+1:=by
          rcases Nat.eq_zero_or_pos k with h | h
          · subst h;rw [H0.out (by rw [HZ.out];omega)] at hp0;exact absurd rfl hp0
          · exact ⟨k - 1,by omega⟩
        have hmL:m < L.length:=by omega
        have PY:=Lib.hid (hd m (by rw [insI_len];exact hmL))
        rw [ins_at hmL] at PY
        have HOY:=Lib.hid (HO.out m hmL)
        rw [show k - 1=m by omega] at HPR HNO
        have HP2:=Lib.hid (HPR.out hp0)
        have HN2:=Lib.hid (fun ha hq=>HNO.out ha (.inr hq))
        clear hc hd hmL HPR HNO
        generalize (L.getD k dfl).1=P at *
        generalize (L.getD k dfl).2=u at *
        generalize (L.getD m dfl).2=v at *
        have HSE:=Lib.hid (Second_any v u HOY.out HOK.out)
        unfold InsV.agg at HAC HSE
        obtain ⟨p0,p1,p2,p3⟩:=PX.out
        obtain ⟨q0,q1,q2,q3⟩:=PY.out
        have t3:decide (0 < ((P:Int)).tmod 32)=true:=by rw [Int.tmod_eq_emod_of_nonneg (by omega)];exact decide_eq_true (by omega)
        have t4:decide (0 < ((P:Int)) % 32)=true:=decide_eq_true (by omega)
        have t6:m < z:=by omega
        have t5:IntKind.i64.wrap ((k:Int) - 1)=(m:Int):=by
          rw [show (k:Int) - 1=(m:Int) by omega];exact IntWalk.i64_in _ (by omega)
        have K:=Lib.hid (show PrR wr (y.add (m * 4)) (y.add (k * 4)) v u wr from ⟨PY.out,PX.out,Below.refl _ _⟩)
        have CK:=Lib.hid (show (y.add (m * 4)).block < wr.heap.size∧(y.add (k * 4)).block < wr.heap.size from ⟨by rw [block_add];exact hyb,by rw [block_add];exact hyb⟩)
        clear p0 p1 p2 p3 q0 q1 q2 q3 PX PY
        clear hm
        cases hq:pairB v u
        · rw [hq] at HSE
          have HN3:=Lib.hid (fun ha=>HN2.out ha hq)
          clear HP2 HN2
          go_wp2_with fail
          go_region_held3 (fun w'=>(w'.cell? (y.add (m * 4))=some (.int .i64 v.op)∧w'.cell? ⟨(y.add (m * 4)).block,(y.add (m * 4)).off+1,none⟩=some (.int .i64 v.a)∧w'.cell? ⟨(y.add (m * 4)).block,(y.add (m * 4)).off+2,none⟩=some (.int .i64 v.b)∧w'.cell? ⟨(y.add (m * 4)).block,(y.add (m * 4)).off+3,none⟩=some (.int .u32 v.imm)∧w'.cell? (y.add (k * 4))=some (.int .i64 u.op)∧w'.cell? ⟨(y.add (k * 4)).block,(y.add (k * 4)).off+1,none⟩=some (.int .i64 u.a)∧w'.cell? ⟨(y.add (k * 4)).block,(y.add (k * 4)).off+2,none⟩=some (.int .i64 u.b)∧w'.cell? ⟨(y.add (k * 4)).block,(y.add (k * 4)).off+3,none⟩=some (.int .u32 u.imm))∧PrR wr (y.add (m * 4)) (y.add (k * 4)) v u w')
            (first | exact PrR.s K.out | exact PrR.s (PrR.below CK.out K.out (below_drew1 (Below.refl _ _))) | exact pr_keep CK.out ‹_∧PrR _ _ _ _ _ _› hb)
            (first | (go_at_call 122;(with_reducible refine (HSE.out _).mono ?_);rintro e w' ⟨rfl,hb⟩))
          rename_i hh
          obtain ⟨_,K2⟩:=hh
          have B4:=Lib.hid (bel_then HB.out K2.2.2)
          have HM4:=Lib.hid (HM.out.below K2.2.2)
          obtain ⟨p0,p1,p2,p3⟩:=K2.2.1
          clear K K2
          cases ha:aloneB u
          · rw [ha] at HAC
            have HN4:=Lib.hid (HN3.out ha)
            clear HAL ha HN3
            go_wp2_with fail
            refine (HAC.out _).mono ?_;rintro e w5 ⟨rfl,hb5⟩
            have B5:=Lib.hid (bel_then B3.out (bel_then B4.out hb5))
            clear hb5
            go_wp2
            go_ret2
            exact ⟨.inr ⟨HN4.out,rfl⟩,B5.out⟩
          · rw [ha] at HAC
            have HA2:=Lib.hid (HAL.out ha)
            clear HAL ha HN3
            go_wp2_with fail
            refine (HAC.out _).mono ?_;rintro e w5 ⟨rfl,hb5⟩
            have HM5:=Lib.hid (HM4.out.below hb5)
            have B5:=Lib.hid (bel_then B4.out hb5)
            clear hb5
            go_wp2
            go_roundw
            case rel=>exact ⟨k+1,S,by go_num,by omega,HA2,HM5,B5⟩
            case measure=>simp [intOf];omega
        · rw [hq] at HSE
          go_wp2_with fail
          go_region_held3 (fun w'=>(w'.cell? (y.add (m * 4))=some (.int .i64 v.op)∧w'.cell? ⟨(y.add (m * 4)).block,(y.add (m * 4)).off+1,none⟩=some (.int .i64 v.a)∧w'.cell? ⟨(y.add (m * 4)).block,(y.add (m * 4)).off+2,none⟩=some (.int .i64 v.b)∧w'.cell? ⟨(y.add (m * 4)).block,(y.add (m * 4)).off+3,none⟩=some (.int .u32 v.imm)∧w'.cell? (y.add (k * 4))=some (.int .i64 u.op)∧w'.cell? ⟨(y.add (k * 4)).block,(y.add (k * 4)).off+1,none⟩=some (.int .i64 u.a)∧w'.cell? ⟨(y.add (k * 4)).block,(y.add (k * 4)).off+2,none⟩=some (.int .i64 u.b)∧w'.cell? ⟨(y.add (k * 4)).block,(y.add (k * 4)).off+3,none⟩=some (.int .u32 u.imm))∧PrR wr (y.add (m * 4)) (y.add (k * 4)) v u w')
            (first | exact PrR.s K.out | exact PrR.s (PrR.below CK.out K.out (below_drew1 (Below.refl _ _))) | exact pr_keep CK.out ‹_∧PrR _ _ _ _ _ _› hb)
            (first | (go_at_call 122;(with_reducible refine (HSE.out _).mono ?_);rintro e w' ⟨rfl,hb⟩))
          rename_i hh
          obtain ⟨_,K2⟩:=hh
          clear K HAL HN2 HAC
          obtain ⟨HSI,HNM⟩:=HP2.out hq
          obtain ⟨w5,ru,hm5,hg5⟩:=(HM.out.below K2.2.2).put Tryz.underlying171 Tryz.underlying3 P HNM
          have B5:=Lib.hid ((bel_then HB.out K2.2.2).grown hg5 (bel_then HB.out K2.2.2).size (fun q hq=>by injection hq with hq;have:=HG.out;omega))
          have HM5:=Lib.hid hm5
          have HS5:=Lib.hid HSI
          clear hm5 hg5 HSI HNM K2 HP2
          go_wp2
          go_roundw
          case rel=>exact ⟨k+1,S ++ [P],by go_num,by omega,HS5,HM5,B5⟩
          case measure=>simp [intOf];omega
    · obtain rfl:k=z:=by omega
      obtain ⟨hr,hs⟩:=secI_end (by rw [HZ.out];exact HI.out)
      subst hs
      have HM2:=HM
      have BF:=Lib.hid (bel_then B3.out HB.out)
      have hgz:w.heap.size≤g:=by have:=HG.out;have:=B3.out.size;omega
      clear HM HI
      go_wp2
      go_ret2
      exact ⟨.inl ⟨hr,g,rfl,hgz,HM2.out⟩,BF.out⟩
theorem Seconds_yes (A:Option Addr) (cap n:Nat) (code:List Int) (hn:code.length=n) (hE:ruleE code=0) (w:World) (r:RowAt w A cap code) :
    Calls Tryz.prog 105 #[.slice A n cap] w fun e w'=>∃ g,e=.returned (.tuple #[.map (some g),.int .i64 0])∧w.heap.size≤g∧SetAt w' g (secL code)∧Below w.heap.size w w':=by
  rcases rule_cases code with ⟨h,h1,h2⟩ | ⟨h,h1,h2,h3⟩ | ⟨h,h1,h2,h3⟩
  · rw [hE] at h1;exact absurd h1.symm h
  · rw [hE] at h2;cases h2
  · refine (seconds_main A cap n code hn h w r).mono ?_
    rintro e w' ⟨⟨_,g,rfl,hg,hs⟩ | ⟨hr,_⟩,hb⟩
    · exact ⟨g,rfl,hg,by rw [h3];exact hs,hb⟩
    · rw [h1] at hr;cases hr
theorem Seconds_no (A:Option Addr) (cap n:Nat) (code:List Int) (hn:code.length=n) (hE:ruleE code≠0) (w:World) (r:RowAt w A cap code) :
    Calls Tryz.prog 105 #[.slice A n cap] w fun e w'=>e=.returned (.tuple #[.map none,.int .i64 (ruleE code)])∧Below w.heap.size w w':=by
  rcases rule_cases code with ⟨h,h1,h2⟩ | ⟨h,h1,h2,h3⟩ | ⟨h,h1,h2,h3⟩
  · rw [h1];exact seconds_scan A cap n code hn h w r
  · rw [h2]
    refine (seconds_main A cap n code hn h w r).mono ?_
    rintro e w' ⟨⟨hr,_⟩ | ⟨_,he⟩,hb⟩
    · rw [h1] at hr;cases hr
    · exact ⟨he,hb⟩
  · exact absurd h2 hE
end Go.Proofs.YteefmjhemhlapaaGreat.Mm
namespace Go.Proofs.YteefmjhemhlapaaGreat.Mm
open Go.ChangeShapes Go.WideShapes Go.ChangeAt Go.RowKit
set_option linter.unusedVariables false
set_option maxRecDepth 10000
def blB (n:Nat) (S:List Nat):List Value:=(List.range n).map fun i=>.bool (decide (i∈S))
theorem bl_get (n:Nat) (S:List Nat) (i:Nat) (h:i < n):(blB n S)[i]?=some (.bool (decide (i∈S))):=by simp [blB,h]
theorem bl_0 (n:Nat):blB n []=List.replicate n (.bool false):=by
  apply List.ext_getElem
  · simp [blB]
  · intro i h1 h2;simp [blB]
theorem bl_set (n:Nat) (S:List Nat) (q:Nat) (h:q < n):(blB n S).set q (.bool true)=blB n (S ++ [q]):=by
  apply List.ext_getElem
  · simp [blB]
  · intro i h1 h2
    simp only [blB,List.getElem_set,List.getElem_map,List.getElem_range,List.mem_append,List.mem_singleton]
    by_cases e:q=i
    · subst e;simp
    · have:¬ i=q:=fun h=>e h.symm
      simp [e,this]
theorem bool_info:(Tryz.prog.info? 4).map (fun i=>(i.zero,i.size,i.bytes))=some (some (.bool false),1,1):=by kernel_rfl
theorem make_bl (w:World) (n:Nat) (h:n≤100000) :
    (Instr.makeSlice 105 (.int .i64 n) (.int .i64 n)).run Tryz.prog w=.ok (.slice (some ⟨w.heap.size,0,none⟩) n n) (w.alloc (.cells (blB n []).toArray 4)):=by
  obtain ⟨i,hi,hz,hs,hb⟩:=info_parts bool_info
  have:=run_makeSlice (P:=Tryz.prog) w 105 4 i (.bool false) Tryz.underlying105 hi hz .i64 .i64 n n (by omega) (by omega) (by rw [hs];omega) (by rw [hb];omega) (by omega)
  rw [hs,made_rep _ _ rfl] at this
  rw [bl_0]
  simpa using this
def PqR (w:World) (t:Addr) (P:Nat) (p q:Addr) (v u:InsV) (w':World):Prop:=w'.cell? t=some (.int .i64 (P:Int))∧InsAt w' p v∧InsAt w' q u∧Below w.heap.size w w'
def PqS (w:World) (t:Addr) (P:Nat) (p q:Addr) (v u:InsV) (w':World):Prop:=
  (w'.cell? t=some (.int .i64 (P:Int))∧w'.cell? p=some (.int .i64 v.op)∧w'.cell? ⟨p.block,p.off+1,none⟩=some (.int .i64 v.a)∧w'.cell? ⟨p.block,p.off+2,none⟩=some (.int .i64 v.b)∧w'.cell? ⟨p.block,p.off+3,none⟩=some (.int .u32 v.imm) ∧
    w'.cell? q=some (.int .i64 u.op)∧w'.cell? ⟨q.block,q.off+1,none⟩=some (.int .i64 u.a)∧w'.cell? ⟨q.block,q.off+2,none⟩=some (.int .i64 u.b)∧w'.cell? ⟨q.block,q.off+3,none⟩=some (.int .u32 u.imm))∧PqR w t P p q v u w'
theorem PqR.s {w:World} {t:Addr} {P:Nat} {p q:Addr} {v u:InsV} {w':World} (k:PqR w t P p q v u w'):PqS w t P p q v u w':=
  ⟨⟨k.1,k.2.1.c0,k.2.1.c1,k.2.1.c2,k.2.1.c3,k.2.2.1.c0,k.2.2.1.c1,k.2.2.1.c2,k.2.2.1.c3⟩,k⟩
theorem PqR.below {w:World} {t:Addr} {P:Nat} {p q:Addr} {v u:InsV} {a w':World} (cv:t.block < w.heap.size∧p.block < w.heap.size∧q.block < w.heap.size) (k:PqR w t P p q v u a) (hb:Below a.heap.size a w'):PqR w t P p q v u w':=
  ⟨by rw [hb.cell (Nat.lt_of_lt_of_le cv.1 k.2.2.2.size)];exact k.1,k.2.1.below (Nat.lt_of_lt_of_le cv.2.1 k.2.2.2.size) hb,k.2.2.1.below (Nat.lt_of_lt_of_le cv.2.2 k.2.2.2.size) hb,bel_then k.2.2.2 hb⟩
theorem pq_keep {w:World} {t:Addr} {P:Nat} {p q:Addr} {v u:InsV} {a w':World} {X:Prop} (cv:t.block < w.heap.size∧p.block < w.heap.size∧q.block < w.heap.size) (k:X∧PqR w t P p q v u a) (hb:Below a.heap.size a w'):PqS w t P p q v u w':=(k.2.below cv hb).s
theorem stand_ways (u:InsV) :
    (gateB u=true∧(u.op == 22)=true∧decide (4 < u.imm)=true) ∨
    (aloneB u=true∧(u.op == 22)=true∧decide (4 < u.imm)=false∧(u.op != 15)=true∧(u.op != 16)=true∧(u.op != 21)=true) ∨
    (aloneB u=true∧(u.op == 22)=false∧(u.op != 15)=true∧(u.op != 16)=true∧(u.op != 21)=true) ∨
    (aloneB u=false∧(u.op == 22)=false∧(u.op != 15)=false) ∨
    (aloneB u=false∧(u.op == 22)=false∧(u.op != 15)=true∧(u.op != 16)=false) ∨
    (aloneB u=false∧(u.op == 22)=false∧(u.op != 15)=true∧(u.op != 16)=true∧(u.op != 21)=false):=by
  unfold aloneB useB gateB
  by_cases h1:u.op=15
  · simp [h1]
  · by_cases h2:u.op=16
    · simp [h2]
    · by_cases h3:u.op=21
      · simp [h3]
      · by_cases h4:u.op=22
        · by_cases h5:4 < u.imm
          · simp [h4,h5]
          · simp [h4,h5]
        · simp [h1,h2,h3,h4]
theorem rseconds_scan (A:Option Addr) (cap n:Nat) (code:List Int) (hn:code.length=n) (hE:scanE code≠0) (w:World) (r:RowAt w A cap code) :
    Calls Tryz.prog 71 #[.slice A n cap] w fun e w'=>e=.returned (.tuple #[.slice none 0 0,.int .i64 (scanE code)])∧Below w.heap.size w w':=by
  have C1:=Lib.hid (rscan_any A cap n code hn w r)
  unfold ReadP at C1
  have hq:(scanE code != 0)=true:=by rw [bne_iff_ne];exact hE
  clear r hn hE
  generalize scanE code=q at *
  go_enter Tryz.func71,Tryz.ntmps71
  go_wp2_with fail
  refine C1.out.mono ?_;rintro e w2 ⟨A2,c2,A3,c3,rfl,i2,i3,hb2⟩
  have B2:=Lib.hid hb2;clear i2 i3 hb2
  go_wp2
  go_ret2
  exact ⟨rfl,B2.out⟩
def RSecP (w:World) (n:Nat) (L:List (Nat×InsV)) (e:Ending) (w':World):Prop:=
  ((ruleB L=true∧∃ g,e=.returned (.tuple #[.slice (some ⟨g,0,none⟩) n n,.int .i64 0])∧w.heap.size≤g∧HasB w' g 4 (blB n (secP L)))∨(ruleB L=false∧e=.returned (.tuple #[.slice none 0 0,.int .i64 5])))∧Below w.heap.size w w'
set_option maxHeartbeats 8000000 in
theorem rseconds_main (A:Option Addr) (cap n:Nat) (code:List Int) (hn:code.length=n) (hE:scanE code=0) (w:World) (r:RowAt w A cap code) :
    Calls Tryz.prog 71 #[.slice A n cap] w (RSecP w n (scanL code)):=by
  have C1:=Lib.hid (rscan_any A cap n code hn w r)
  unfold ReadP at C1
  rw [hE] at C1
  have hz:=scanL_len r.2.2.1
  have HR:=Lib.hid (scan_rise r.2.2.1 hE)
  have HP:=Lib.hid (fun k hk=>scan_place r.2.2.1 hE (k:=k) hk)
  have H0:=Lib.hid (fun hk=>place_0 r.2.2.1 hE hk)
  have HS:=Lib.hid (secI_0 (scanL code))
  have PL:=Lib.hid (posI_len (scanL code))
  have IL:=Lib.hid (insI_len (scanL code))
  have hcl:n≤4096:=by
    rcases scan_cases code with ⟨_,e,_⟩ | ⟨_,_,e,_⟩ | ⟨s,_⟩
    · rw [e] at hE;cases hE
    · rw [e] at hE;cases hE
    · have:=(sizeB_iff _).1 s;omega
  rw [hn] at HP
  clear r hn hE
  generalize scanL code=L at *
  have HZ:Hid (L.length=L.length):=Lib.hid rfl
  generalize hz':L.length=z at C1 PL IL hz
  clear HZ
  have HZ:=Lib.hid hz'
  clear hz'
  go_enter Tryz.func71,Tryz.ntmps71
  go_wp2_with fail
  refine C1.out.mono ?_;rintro e w3 ⟨A2,c2,A3,c3,rfl,i2,i3,hb3⟩
  have I3:=Lib.hid i3
  have J2:=Lib.hid i2
  have B3:=Lib.hid hb3;clear i3 hb3 i2 C1
  have M0:=Lib.hid (HasB.new w3 4 (blB n []))
  have BM:=Lib.hid (bel_al (Below.refl w3.heap.size w3) (.cells (blB n []).toArray 4))
  have mk:=make_bl w3 n (by omega)
  generalize w3.alloc (.cells (blB n []).toArray 4)=WM at mk M0 BM
  generalize hg:w3.heap.size=g at mk M0
  have HG:=Lib.hid hg
  clear hg
  go_wp2
  clear mk
  go_loopw [8] (fun i wr=>∃ (k:Nat) (S:List Nat),i=.int .i64 k∧k≤z∧Hid (SecI L k S)∧Hid (HasB wr g 4 (blB n S))∧Hid (Below w3.heap.size w3 wr)) (fun i _=>z - (intOf i).toNat)
  case atStart=>exact ⟨0,[],rfl,Nat.zero_le _,HS,M0,BM⟩
  case round=>
    obtain ⟨k,S,rfl,hk,HI,HM,HB⟩:=hrel
    by_cases hlt:k < z
    · have hkL:k < L.length:=by rw [HZ.out];exact hlt
      obtain ⟨x,rfl,hxb,hc⟩:=(J2.out.below HB.out).2.2 (by intro e;have:=PL.out;rw [e] at this;simp at this;omega)
      obtain ⟨y,rfl,hyb,hd⟩:=(I3.out.below HB.out).2.2.2 (by intro e;have:=IL.out;rw [e] at this;simp at this;omega)
      have e1:=hc k (by rw [PL.out];exact hlt)
      rw [pos_at hkL] at e1
      have PX:=Lib.hid (hd k (by rw [IL.out];exact hlt))
      rw [ins_at hkL] at PX
      have hpl:=HP.out k hkL
      have HNO:=Lib.hid (fun ha hp=>rule_no (L:=L) hkL ha hp)
      have HGA:=Lib.hid (fun ha=>rule_gate (L:=L) hkL ha)
      have HAL:=Lib.hid (fun ha=>secI_alone HI.out hkL ha)
      have HPR:=Lib.hid (fun hp hq=>secI_pair HR.out HI.out hkL hp hq)
      have HW:=stand_ways (L.getD k dfl).2
      obtain ⟨p0,p1,p2,p3⟩:=PX.out
      by_cases hp0:(L.getD k dfl).1 % 32=0
      · have HN2:=Lib.hid (fun ha=>HNO.out ha (.inl hp0))
        clear HPR hc hd HNO
        generalize (L.getD k dfl).1=P at *
        generalize (L.getD k dfl).2=u at *
        have t1:((P:Int)).tmod 32=0:=by rw [Int.tmod_eq_emod_of_nonneg (by omega)];omega
        have t2:((P:Int)) % 32=0:=by omega
        clear hp0
        rcases HW with ⟨ha,h1,h2⟩ | ⟨ha,h1,h2,h3,h4,h5⟩ | ⟨ha,h1,h2,h3,h4⟩ | ⟨ha,h1,h2⟩ | ⟨ha,h1,h2,h3⟩ | ⟨ha,h1,h2,h3,h4⟩
        · have HN3:=Lib.hid (HGA.out ha)
          have BF:=Lib.hid (bel_then B3.out HB.out)
          clear HGA ha HAL HN2
          go_wp2
          go_ret2
          exact ⟨.inr ⟨HN3.out,rfl⟩,BF.out⟩
        · have HA2:=Lib.hid (HAL.out ha)
          clear HGA ha HAL HN2
          go_wp2
          go_roundw
          case rel=>exact ⟨k+1,S,by go_num,by omega,HA2,HM,HB⟩
          case measure=>simp [intOf];omega
        · have HA2:=Lib.hid (HAL.out ha)
          clear HGA ha HAL HN2
          go_wp2
          go_roundw
          case rel=>exact ⟨k+1,S,by go_num,by omega,HA2,HM,HB⟩
          case measure=>simp [intOf];omega
        all_goals
          have HN3:=Lib.hid (HN2.out ha)
          have BF:=Lib.hid (bel_then B3.out HB.out)
          clear HGA ha HAL HN2
          go_wp2_with fail
          go_quiet (fail)
          go_wp2
          go_ret2
          exact ⟨.inr ⟨HN3.out,rfl⟩,below_drewN BF.out _⟩
      · obtain ⟨m,hm⟩:∃ m,k=m+1:=by
          rcases Nat.eq_zero_or_pos k with h | h
          · subst h;rw [H0.out (by rw [HZ.out];omega)] at hp0;exact absurd rfl hp0
          · exact ⟨k - 1,by omega⟩
        have hmL:m < L.length:=by omega
        have PY:=Lib.hid (hd m (by rw [insI_len];exact hmL))
        rw [ins_at hmL] at PY
        rw [show k - 1=m by omega] at HPR HNO
        have HP2:=Lib.hid (HPR.out hp0)
        have HN2:=Lib.hid (fun ha hq=>HNO.out ha (.inr hq))
        clear hc hd hmL HPR HNO
        generalize (L.getD k dfl).1=P at *
        generalize (L.getD k dfl).2=u at *
        generalize (L.getD m dfl).2=v at *
        have HSE:=Lib.hid (rPair_any v u)
        unfold InsV.agg at HSE
        have t3:(((P:Int)).tmod 32 == 0)=false:=by rw [Int.tmod_eq_emod_of_nonneg (by omega),beq_eq_false_iff_ne];omega
        have t4:(((P:Int)) % 32 == 0)=false:=by rw [beq_eq_false_iff_ne];omega
        have t6:m < z:=by omega
        have t5:IntKind.i64.wrap ((k:Int) - 1)=(m:Int):=by
          rw [show (k:Int) - 1=(m:Int) by omega];exact IntWalk.i64_in _ (by omega)
        have K:=Lib.hid (show PqR wr (x.add k) P (y.add (m * 4)) (y.add (k * 4)) v u wr from ⟨e1,PY.out,PX.out,Below.refl _ _⟩)
        have CK:=Lib.hid (show (x.add k).block < wr.heap.size∧(y.add (m * 4)).block < wr.heap.size∧(y.add (k * 4)).block < wr.heap.size from ⟨by rw [block_add];exact hxb,by rw [block_add];exact hyb,by rw [block_add];exact hyb⟩)
        clear hm e1 PX PY
        rcases HW with ⟨ha,h1,h2⟩ | ⟨ha,h1,h2,h3,h4,h5⟩ | ⟨ha,h1,h2,h3,h4⟩ | ⟨ha,h1,h2⟩ | ⟨ha,h1,h2,h3⟩ | ⟨ha,h1,h2,h3,h4⟩
        · have HN3:=Lib.hid (HGA.out ha)
          have BF:=Lib.hid (bel_then B3.out HB.out)
          clear HGA ha HAL HN2 HP2
          go_wp2
          go_ret2
          exact ⟨.inr ⟨HN3.out,rfl⟩,BF.out⟩
        · have HA2:=Lib.hid (HAL.out ha)
          clear HGA ha HAL HN2 HP2
          go_wp2
          go_roundw
          case rel=>exact ⟨k+1,S,by go_num,by omega,HA2,HM,HB⟩
          case measure=>simp [intOf];omega
        · have HA2:=Lib.hid (HAL.out ha)
          clear HGA ha HAL HN2 HP2
          go_wp2
          go_roundw
          case rel=>exact ⟨k+1,S,by go_num,by omega,HA2,HM,HB⟩
          case measure=>simp [intOf];omega
        all_goals
          clear HGA HAL
          cases hq:pairB v u
          · rw [hq] at HSE
            have HN3:=Lib.hid (HN2.out ha hq)
            clear HP2 HN2 ha
            go_wp2_with fail
            clear p0 p1 p2 p3
            go_region_held3 (fun w'=>(w'.cell? (x.add k)=some (.int .i64 (P:Int))∧w'.cell? (y.add (m * 4))=some (.int .i64 v.op)∧w'.cell? ⟨(y.add (m * 4)).block,(y.add (m * 4)).off+1,none⟩=some (.int .i64 v.a)∧w'.cell? ⟨(y.add (m * 4)).block,(y.add (m * 4)).off+2,none⟩=some (.int .i64 v.b)∧w'.cell? ⟨(y.add (m * 4)).block,(y.add (m * 4)).off+3,none⟩=some (.int .u32 v.imm)∧w'.cell? (y.add (k * 4))=some (.int .i64 u.op)∧w'.cell? ⟨(y.add (k * 4)).block,(y.add (k * 4)).off+1,none⟩=some (.int .i64 u.a)∧w'.cell? ⟨(y.add (k * 4)).block,(y.add (k * 4)).off+2,none⟩=some (.int .i64 u.b)∧w'.cell? ⟨(y.add (k * 4)).block,(y.add (k * 4)).off+3,none⟩=some (.int .u32 u.imm))∧PqR wr (x.add k) P (y.add (m * 4)) (y.add (k * 4)) v u w')
              (first | exact PqR.s K.out | exact PqR.s (PqR.below CK.out K.out (below_drew1 (Below.refl _ _))) | exact pq_keep CK.out ‹_∧PqR _ _ _ _ _ _ _ _› hb)
              (first | (go_at_call 80;(with_reducible refine (HSE.out _).mono ?_);rintro e w' ⟨rfl,hb⟩))
            rename_i hh
            obtain ⟨_,K2⟩:=hh
            have BF:=Lib.hid (bel_then B3.out (bel_then HB.out K2.2.2.2))
            clear K2 K
            go_wp2
            go_ret2
            exact ⟨.inr ⟨HN3.out,rfl⟩,BF.out⟩
          · rw [hq] at HSE
            have HP3:=Lib.hid (HP2.out hq)
            clear HP2 HN2 ha
            go_wp2_with fail
            clear p0 p1 p2 p3
            go_region_held3 (fun w'=>(w'.cell? (x.add k)=some (.int .i64 (P:Int))∧w'.cell? (y.add (m * 4))=some (.int .i64 v.op)∧w'.cell? ⟨(y.add (m * 4)).block,(y.add (m * 4)).off+1,none⟩=some (.int .i64 v.a)∧w'.cell? ⟨(y.add (m * 4)).block,(y.add (m * 4)).off+2,none⟩=some (.int .i64 v.b)∧w'.cell? ⟨(y.add (m * 4)).block,(y.add (m * 4)).off+3,none⟩=some (.int .u32 v.imm)∧w'.cell? (y.add (k * 4))=some (.int .i64 u.op)∧w'.cell? ⟨(y.add (k * 4)).block,(y.add (k * 4)).off+1,none⟩=some (.int .i64 u.a)∧w'.cell? ⟨(y.add (k * 4)).block,(y.add (k * 4)).off+2,none⟩=some (.int .i64 u.b)∧w'.cell? ⟨(y.add (k * 4)).block,(y.add (k * 4)).off+3,none⟩=some (.int .u32 u.imm))∧PqR wr (x.add k) P (y.add (m * 4)) (y.add (k * 4)) v u w')
              (first | exact PqR.s K.out | exact PqR.s (PqR.below CK.out K.out (below_drew1 (Below.refl _ _))) | exact pq_keep CK.out ‹_∧PqR _ _ _ _ _ _ _ _› hb)
              (first | (go_at_call 80;(with_reducible refine (HSE.out _).mono ?_);rintro e w' ⟨rfl,hb⟩))
            rename_i hh
            obtain ⟨_,K2⟩:=hh
            have hcx:=K2.1
            have HM4:=HM.out.below K2.2.2.2
            have hc:w'.cell? ⟨g,P,none⟩=some (.bool (decide (P∈S))):=by rw [HM4.cell,bl_get _ _ _ hpl]
            have hf:=HM4.frozen P
            have HM5:=has_set HM4 P (.bool true)
            rw [bl_set _ _ _ hpl] at HM5
            have HM6:=Lib.hid HM5
            have B4:=bel_then HB.out K2.2.2.2
            have B5:=Lib.hid (B4.setCell (p:=⟨g,P,none⟩) (by have:=HG.out;show w3.heap.size≤g;omega) (.bool true))
            have HS5:=Lib.hid HP3.out.1
            generalize decide (P∈S)=bb at hc
            clear HM5 HM4 K2 K B4 HP3
            go_wp2
            go_roundw
            case rel=>exact ⟨k+1,S ++ [P],by go_num,by omega,HS5,HM6,B5⟩
            case measure=>simp [intOf];omega
    · obtain rfl:k=z:=by omega
      obtain ⟨hr,hs⟩:=secI_end (by rw [HZ.out];exact HI.out)
      subst hs
      have HM2:=HM
      have BF:=Lib.hid (bel_then B3.out HB.out)
      have hgz:w.heap.size≤g:=by have:=HG.out;have:=B3.out.size;omega
      clear HM HI
      go_wp2
      go_ret2
      exact ⟨.inl ⟨hr,g,rfl,hgz,HM2.out⟩,BF.out⟩
theorem rSeconds_yes (A:Option Addr) (cap n:Nat) (code:List Int) (hn:code.length=n) (hE:ruleE code=0) (w:World) (r:RowAt w A cap code) :
    Calls Tryz.prog 71 #[.slice A n cap] w fun e w'=>∃ g,e=.returned (.tuple #[.slice (some ⟨g,0,none⟩) n n,.int .i64 0])∧w.heap.size≤g∧HasB w' g 4 (blB n (secL code))∧Below w.heap.size w w':=by
  rcases rule_cases code with ⟨h,h1,h2⟩ | ⟨h,h1,h2,h3⟩ | ⟨h,h1,h2,h3⟩
  · rw [hE] at h1;exact absurd h1.symm h
  · rw [hE] at h2;cases h2
  · refine (rseconds_main A cap n code hn h w r).mono ?_
    rintro e w' ⟨⟨_,g,rfl,hg,hs⟩ | ⟨hr,_⟩,hb⟩
    · exact ⟨g,rfl,hg,by rw [h3];exact hs,hb⟩
    · rw [h1] at hr;cases hr
theorem rSeconds_no (A:Option Addr) (cap n:Nat) (code:List Int) (hn:code.length=n) (hE:ruleE code≠0) (w:World) (r:RowAt w A cap code) :
    Calls Tryz.prog 71 #[.slice A n cap] w fun e w'=>e=.returned (.tuple #[.slice none 0 0,.int .i64 (ruleE code)])∧Below w.heap.size w w':=by
  rcases rule_cases code with ⟨h,h1,h2⟩ | ⟨h,h1,h2,h3⟩ | ⟨h,h1,h2,h3⟩
  · rw [h1];exact rseconds_scan A cap n code hn h w r
  · rw [h2]
    refine (rseconds_main A cap n code hn h w r).mono ?_
    rintro e w' ⟨⟨hr,_⟩ | ⟨_,he⟩,hb⟩
    · rw [h1] at hr;cases hr
    · exact ⟨he,hb⟩
  · exact absurd h2 hE
end Go.Proofs.YteefmjhemhlapaaGreat.Mm
