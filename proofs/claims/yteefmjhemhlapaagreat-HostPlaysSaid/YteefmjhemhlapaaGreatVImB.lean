/- Merged by wip/tools/regroup: ImgRead3, ImgRead4, ImgRead5. -/
import Derived.Test.YteefmjhemhlapaaGreatVImA
namespace Go.Proofs.YteefmjhemhlapaaGreat.Mm
open Go.ChangeShapes Go.WideShapes Go.ChangeAt Go.RowKit
set_option linter.unusedVariables false
set_option maxRecDepth 10000
theorem read_3 (A:Option Addr) (cap:Nat) (l:List Int) (n K:Nat) (hn:l.length=n) (hK:n=K+4) (h8:8≤K) (hl:n≤100000) (w:World) (r:RowAt w A cap l)
    (hh:l.take 4=headL) (hs:l.drop K≠sumL (l.take K)) :
    Calls Tryz.prog 40 #[.slice A n cap] w fun e w'=>e=.returned (.tuple #[.agg #[.slice none 0 0,.slice none 0 0],.int .i64 3])∧Below w.heap.size w w':=by
  obtain ⟨A1,c1,s1,r1⟩:=cut_to r n hn 4 4 rfl (by omega)
  obtain ⟨A2,c2,s2,r2⟩:=cut_from r n hn K 4 ((n:Int) - 4) (by omega) (by omega)
  obtain ⟨A3,c3,s3,r3⟩:=cut_to r n hn K ((n:Int) - 4) (by omega) (by omega)
  have hb1:=bel_al (Below.refl w.heap.size w) (.cells #[.slice none 0 0,.slice none 0 0] 57)
  have cv1:=conv_row (r1 _ (r.below hb1)) 4 (by rw [List.length_take];omega)
  have q1:decide ((n:Int) < 12)=false:=decide_eq_false (by omega)
  have q2:=head_beq (l.take 4) (take_byte r.2.2.1 4)
  have hlen:(n:Int)≤100000:=by omega
  have hlen0:12≤(n:Int):=by omega
  have R:=Lib.hid r
  have R1:=Lib.hid r1
  have R2:=Lib.hid r2
  have R3:=Lib.hid r3
  have HH:=Lib.hid hh
  have HK:=Lib.hid hK
  have HN:=Lib.hid hn
  have HB1:=Lib.hid hb1
  have HL3:=Lib.hid (show (l.take K).length=K by rw [List.length_take];omega)
  have HL2:=Lib.hid (show (l.drop K).length=4 by rw [List.length_drop];omega)
  have hsz:=str_beq (l.drop K) (sumL (l.take K)) (drop_byte r.2.2.1 K) (sumL_byte _)
  have HSZ:=Lib.hid hsz
  have NB:=Lib.hid (HasB.new w 57 [.slice none 0 0,.slice none 0 0])
  rw [decide_eq_true hh] at q2
  clear hb1 r r1 r2 r3 hn hK hh hsz
  go_enter Tryz.func40,Tryz.ntmps40
  go_wp2_with fail
  obtain ⟨W,hW⟩:∃ W,w.alloc (.cells #[.slice none 0 0,.slice none 0 0] 57)=W:=⟨_,rfl⟩
  have NB:Hid (HasB W w.heap.size 57 [.slice none 0 0,.slice none 0 0]):=Lib.hid (by rw [← hW];exact NB.out)
  rw [hW] at HB1 cv1 ⊢
  have RW:=Lib.hid (R.out.below HB1.out)
  have CV2:Hid (∀ w':World,Below W.heap.size W w'→(convert 39 9 (.slice A2 4 c2)).run Tryz.prog w'=.ok (.string (strOfNums (l.drop K))) w'):=Lib.hid (fun w' b=>conv_row (R2.out _ (RW.out.below b)) 4 HL2.out)
  have CS:Hid (∀ w':World,Below W.heap.size W w'→Calls Tryz.prog 46 #[.slice A3 K c3] w' (SumP w' (sumL (l.take K)))):=Lib.hid (fun w' b=>sum_bytes _ _ _ K HL3.out _ (R3.out _ (RW.out.below b)))
  clear cv1 q1 q2 hW
  go_cut [30] (fun s30 wx=>s30=.bool (!decide (l.drop K=sumL (l.take K)))∧Below W.heap.size W wx)
  case first=>
    refine wp_region_noPanic ?_
    refine wp_region_held_drew (S:=(fun w'=>((convert 39 9 (.slice A2 4 c2)).run Tryz.prog w'=.ok (.string (strOfNums (l.drop K))) w')∧RS W w')) (by kernel_rfl) ?_ (fun hHeld=>?_)
    · (try dsimp only)
      exact RS.s CV2.out (Below.refl _ _).drew
    refine wT 0 ?_
    refine wT 1 ?_
    refine wT 2 ?_
    refine wT 3 ?_
    refine wT 4 ?_
    refine wT 5 ?_
    refine wT 6 ?_
    refine wpAnyH_ready (rs:=[7]) (by kernel_rfl) (by simp) ?_
    refine rC (fun K hK=>?_) ?_
    · go_simp
      have hq:Below W.heap.size W _:=hHeld.2
      (with_reducible refine (CS.out _ hq).mono ?_);clear hq;rintro e w' ⟨g4,c4,rfl,r4,hb4⟩;have cv4:=conv_row r4 4 rfl
      go_wp2_with fail
      refine hK.out _ _ ?_ (fun hHeld=>?_)
      · (try dsimp only)
        exact RS.s CV2.out (bel_then (Below.refl _ _).drew hb4)
      clear hK K
      (try simp only [Act.put,lsA,lsZ,lsS])
      refine wpAnyH_ready (rs:=[8]) (by kernel_rfl) (by simp) ?_
      refine rC (fun K hK=>?_) ?_
      · go_simp
        refine hK.out _ _ ?_ (fun hHeld=>?_)
        · (try dsimp only)
          exact RS.s CV2.out (bel_then (Below.refl _ _).drew hb4)
        clear hK K
        (try simp only [Act.put,lsA,lsZ,lsS])
        refine wT 9 ?_
        refine wpAnyH_done (by kernel_rfl) ?_ _
        refine NoPanic.normal ?_
        have HB4:=Lib.hid hb4
        clear hb4 cv4 r4
        go_wp2_with fail
        go_meet
        exact ⟨by rw [HSZ.out],bel_then (Below.refl _ _).drew HB4.out⟩
      exact AllReadyH.nil
    exact AllReadyH.nil
  case rest=>
    obtain ⟨rfl,hbx⟩:=hcut
    have NX:=NB.out.below hbx
    have RX:=Lib.hid (RW.out.below hbx)
    have k0:=NX.cell 0
    have k1:=NX.cell 1
    have f0:=NX.frozen 0
    have f1:=NX.frozen 1
    simp only [List.getElem?_cons_succ,List.getElem?_cons_zero] at k0 k1
    have HBX:=Lib.hid (HB1.out.trans (hbx.mono HB1.out.size))
    clear hbx
    rw [decide_eq_false hs]
    go_wp2_with fail
    refine bodyPost_ret (v:=.tuple #[.agg #[.slice none 0 0,.slice none 0 0],.int .i64 3]) (by simp [results,Tryz.results40,go_sem,k0,k1]) rfl ⟨rfl,?_⟩
    exact (HBX.out.setCell (Nat.le_refl _) _).setCell (Nat.le_refl _) _
theorem read_4a (A:Option Addr) (cap:Nat) (l:List Int) (n K:Nat) (hn:l.length=n) (hK:n=K+4) (h8:8≤K) (hl:n≤100000) (w:World) (r:RowAt w A cap l)
    (hh:l.take 4=headL) (hs:l.drop K=sumL (l.take K)) (hq:rightB (lenAt l 4) (lenAt l 6)=false) :
    Calls Tryz.prog 40 #[.slice A n cap] w fun e w'=>e=.returned (.tuple #[.agg #[.slice none 0 0,.slice none 0 0],.int .i64 4])∧Below w.heap.size w w':=by
  have HS:=Lib.hid hs;clear hs
  have HQ:=Lib.hid hq;clear hq
  obtain ⟨A1,c1,s1,r1⟩:=cut_to r n hn 4 4 rfl (by omega)
  obtain ⟨A2,c2,s2,r2⟩:=cut_from r n hn K 4 ((n:Int) - 4) (by omega) (by omega)
  obtain ⟨A3,c3,s3,r3⟩:=cut_to r n hn K ((n:Int) - 4) (by omega) (by omega)
  have hb1:=bel_al (Below.refl w.heap.size w) (.cells #[.slice none 0 0,.slice none 0 0] 57)
  have cv1:=conv_row (r1 _ (r.below hb1)) 4 (by rw [List.length_take];omega)
  have q1:decide ((n:Int) < 12)=false:=decide_eq_false (by omega)
  have q2:=head_beq (l.take 4) (take_byte r.2.2.1 4)
  have hlen:(n:Int)≤100000:=by omega
  have hlen0:12≤(n:Int):=by omega
  have R:=Lib.hid r
  have R1:=Lib.hid r1
  have R2:=Lib.hid r2
  have R3:=Lib.hid r3
  have HH:=Lib.hid hh
  have HK:=Lib.hid hK
  have HN:=Lib.hid hn
  have HB1:=Lib.hid hb1
  have HL3:=Lib.hid (show (l.take K).length=K by rw [List.length_take];omega)
  have HL2:=Lib.hid (show (l.drop K).length=4 by rw [List.length_drop];omega)
  have hsz:=str_beq (l.drop K) (sumL (l.take K)) (drop_byte r.2.2.1 K) (sumL_byte _)
  have HSZ:=Lib.hid hsz
  have NB:=Lib.hid (HasB.new w 57 [.slice none 0 0,.slice none 0 0])
  rw [decide_eq_true hh] at q2
  clear hb1 r r1 r2 r3 hn hK hh hsz
  go_enter Tryz.func40,Tryz.ntmps40
  go_wp2_with fail
  obtain ⟨W,hW⟩:∃ W,w.alloc (.cells #[.slice none 0 0,.slice none 0 0] 57)=W:=⟨_,rfl⟩
  have NB:Hid (HasB W w.heap.size 57 [.slice none 0 0,.slice none 0 0]):=Lib.hid (by rw [← hW];exact NB.out)
  rw [hW] at HB1 cv1 ⊢
  have RW:=Lib.hid (R.out.below HB1.out)
  have CV2:Hid (∀ w':World,Below W.heap.size W w'→(convert 39 9 (.slice A2 4 c2)).run Tryz.prog w'=.ok (.string (strOfNums (l.drop K))) w'):=Lib.hid (fun w' b=>conv_row (R2.out _ (RW.out.below b)) 4 HL2.out)
  have CS:Hid (∀ w':World,Below W.heap.size W w'→Calls Tryz.prog 46 #[.slice A3 K c3] w' (SumP w' (sumL (l.take K)))):=Lib.hid (fun w' b=>sum_bytes _ _ _ K HL3.out _ (R3.out _ (RW.out.below b)))
  clear cv1 q1 q2 hW
  go_cut [30] (fun s30 wx=>s30=.bool (!decide (l.drop K=sumL (l.take K)))∧Below W.heap.size W wx)
  case first=>
    refine wp_region_noPanic ?_
    refine wp_region_held_drew (S:=(fun w'=>((convert 39 9 (.slice A2 4 c2)).run Tryz.prog w'=.ok (.string (strOfNums (l.drop K))) w')∧RS W w')) (by kernel_rfl) ?_ (fun hHeld=>?_)
    · (try dsimp only)
      exact RS.s CV2.out (Below.refl _ _).drew
    refine wT 0 ?_
    refine wT 1 ?_
    refine wT 2 ?_
    refine wT 3 ?_
    refine wT 4 ?_
    refine wT 5 ?_
    refine wT 6 ?_
    refine wpAnyH_ready (rs:=[7]) (by kernel_rfl) (by simp) ?_
    refine rC (fun K hK=>?_) ?_
    · go_simp
      have hq:Below W.heap.size W _:=hHeld.2
      (with_reducible refine (CS.out _ hq).mono ?_);clear hq;rintro e w' ⟨g4,c4,rfl,r4,hb4⟩;have cv4:=conv_row r4 4 rfl
      go_wp2_with fail
      refine hK.out _ _ ?_ (fun hHeld=>?_)
      · (try dsimp only)
        exact RS.s CV2.out (bel_then (Below.refl _ _).drew hb4)
      clear hK K
      (try simp only [Act.put,lsA,lsZ,lsS])
      refine wpAnyH_ready (rs:=[8]) (by kernel_rfl) (by simp) ?_
      refine rC (fun K hK=>?_) ?_
      · go_simp
        refine hK.out _ _ ?_ (fun hHeld=>?_)
        · (try dsimp only)
          exact RS.s CV2.out (bel_then (Below.refl _ _).drew hb4)
        clear hK K
        (try simp only [Act.put,lsA,lsZ,lsS])
        refine wT 9 ?_
        refine wpAnyH_done (by kernel_rfl) ?_ _
        refine NoPanic.normal ?_
        have HB4:=Lib.hid hb4
        clear hb4 cv4 r4
        go_wp2_with fail
        go_meet
        exact ⟨by rw [HSZ.out],bel_then (Below.refl _ _).drew HB4.out⟩
      exact AllReadyH.nil
    exact AllReadyH.nil
  case rest=>
    obtain ⟨rfl,hbx⟩:=hcut
    have NX:=NB.out.below hbx
    have RX:=Lib.hid (RW.out.below hbx)
    have k0:=NX.cell 0
    have k1:=NX.cell 1
    have f0:=NX.frozen 0
    have f1:=NX.frozen 1
    simp only [List.getElem?_cons_succ,List.getElem?_cons_zero] at k0 k1
    have HBX:=Lib.hid (HB1.out.trans (hbx.mono HB1.out.size))
    clear hbx
    rw [decide_eq_true HS.out]
    clear k0 k1 f0 f1
    have hbd4:=lenAt_bd R.out.2.2.1 4
    have hbd6:=lenAt_bd R.out.2.2.1 6
    go_wp2_with fail
    refine (lengthAt_any A cap l n 4 4 rfl HN.out (by omega) hl _ RX.out).mono ?_;rintro e w6 ⟨rfl,hb6⟩
    have RX6:=Lib.hid (RX.out.below hb6)
    go_wp2_with fail
    refine (lengthAt_any A cap l n 6 6 rfl HN.out (by omega) hl _ RX6.out).mono ?_;rintro e w7 ⟨rfl,hb7⟩
    have RX7:=Lib.hid (RX6.out.below hb7)
    have hb67:=bel_then hb6 hb7
    have N7:=Lib.hid (NX.below hb67)
    have HBX:=Lib.hid (HBX.out.trans (hb67.mono HBX.out.size))
    clear hb6 hb7 hb67 NX
    obtain ⟨c,hc⟩:∃ c:Nat,lenAt l 4=c:=⟨(lenAt l 4).toNat,by omega⟩
    obtain ⟨d,hd⟩:∃ d:Nat,lenAt l 6=d:=⟨(lenAt l 6).toNat,by omega⟩
    rw [hc] at hbd4 HQ ⊢
    rw [hd] at hbd6 HQ ⊢
    have HC:=Lib.hid hc
    have HD:=Lib.hid hd
    clear hc hd
    obtain ⟨_,hc1⟩:=hbd4
    obtain ⟨_,hd1⟩:=hbd6
    have k0:=N7.out.cell 0
    have k1:=N7.out.cell 1
    have f0:=N7.out.frozen 0
    have f1:=N7.out.frozen 1
    simp only [List.getElem?_cons_succ,List.getElem?_cons_zero] at k0 k1
    have e1:((8:Int)+(c:Int)+(d:Int))=((8+c+d:Nat):Int):=by omega
    have MB:=Lib.hid (mayBeI_any (c:Int) (d:Int))
    rw [HQ.out] at MB
    have HL:=Lib.hid hl
    have w1:IntKind.i64.wrap ((8:Int)+(c:Int))=8+(c:Int):=IntWalk.i64_in _ (by omega)
    have w2:IntKind.i64.wrap ((8:Int)+(c:Int)+(d:Int))=8+(c:Int)+(d:Int):=IntWalk.i64_in _ (by omega)
    clear hl hlen hlen0 hc1 hd1 e1
    go_wp2_with fail
    refine (MB.out _).mono ?_;rintro e w' ⟨rfl,rfl⟩
    go_wp2_with fail
    refine bodyPost_ret (v:=.tuple #[.agg #[.slice none 0 0,.slice none 0 0],.int .i64 4]) (by simp [results,Tryz.results40,go_sem,k0,k1]) rfl ⟨rfl,?_⟩
    exact (HBX.out.setCell (Nat.le_refl _) _).setCell (Nat.le_refl _) _
theorem read_4b (A:Option Addr) (cap:Nat) (l:List Int) (n K:Nat) (hn:l.length=n) (hK:n=K+4) (h8:8≤K) (hl:n≤100000) (w:World) (r:RowAt w A cap l)
    (hh:l.take 4=headL) (hs:l.drop K=sumL (l.take K)) (hq:rightB (lenAt l 4) (lenAt l 6)=true) (hz:8+lenAt l 4+lenAt l 6≠(n:Int) - 4) :
    Calls Tryz.prog 40 #[.slice A n cap] w fun e w'=>e=.returned (.tuple #[.agg #[.slice none 0 0,.slice none 0 0],.int .i64 4])∧Below w.heap.size w w':=by
  have HS:=Lib.hid hs;clear hs
  have HQ:=Lib.hid hq;clear hq
  have HZ:=Lib.hid hz;clear hz
  obtain ⟨A1,c1,s1,r1⟩:=cut_to r n hn 4 4 rfl (by omega)
  obtain ⟨A2,c2,s2,r2⟩:=cut_from r n hn K 4 ((n:Int) - 4) (by omega) (by omega)
  obtain ⟨A3,c3,s3,r3⟩:=cut_to r n hn K ((n:Int) - 4) (by omega) (by omega)
  have hb1:=bel_al (Below.refl w.heap.size w) (.cells #[.slice none 0 0,.slice none 0 0] 57)
  have cv1:=conv_row (r1 _ (r.below hb1)) 4 (by rw [List.length_take];omega)
  have q1:decide ((n:Int) < 12)=false:=decide_eq_false (by omega)
  have q2:=head_beq (l.take 4) (take_byte r.2.2.1 4)
  have hlen:(n:Int)≤100000:=by omega
  have hlen0:12≤(n:Int):=by omega
  have R:=Lib.hid r
  have R1:=Lib.hid r1
  have R2:=Lib.hid r2
  have R3:=Lib.hid r3
  have HH:=Lib.hid hh
  have HK:=Lib.hid hK
  have HN:=Lib.hid hn
  have HB1:=Lib.hid hb1
  have HL3:=Lib.hid (show (l.take K).length=K by rw [List.length_take];omega)
  have HL2:=Lib.hid (show (l.drop K).length=4 by rw [List.length_drop];omega)
  have hsz:=str_beq (l.drop K) (sumL (l.take K)) (drop_byte r.2.2.1 K) (sumL_byte _)
  have HSZ:=Lib.hid hsz
  have NB:=Lib.hid (HasB.new w 57 [.slice none 0 0,.slice none 0 0])
  rw [decide_eq_true hh] at q2
  clear hb1 r r1 r2 r3 hn hK hh hsz
  go_enter Tryz.func40,Tryz.ntmps40
  go_wp2_with fail
  obtain ⟨W,hW⟩:∃ W,w.alloc (.cells #[.slice none 0 0,.slice none 0 0] 57)=W:=⟨_,rfl⟩
  have NB:Hid (HasB W w.heap.size 57 [.slice none 0 0,.slice none 0 0]):=Lib.hid (by rw [← hW];exact NB.out)
  rw [hW] at HB1 cv1 ⊢
  have RW:=Lib.hid (R.out.below HB1.out)
  have CV2:Hid (∀ w':World,Below W.heap.size W w'→(convert 39 9 (.slice A2 4 c2)).run Tryz.prog w'=.ok (.string (strOfNums (l.drop K))) w'):=Lib.hid (fun w' b=>conv_row (R2.out _ (RW.out.below b)) 4 HL2.out)
  have CS:Hid (∀ w':World,Below W.heap.size W w'→Calls Tryz.prog 46 #[.slice A3 K c3] w' (SumP w' (sumL (l.take K)))):=Lib.hid (fun w' b=>sum_bytes _ _ _ K HL3.out _ (R3.out _ (RW.out.below b)))
  clear cv1 q1 q2 hW
  go_cut [30] (fun s30 wx=>s30=.bool (!decide (l.drop K=sumL (l.take K)))∧Below W.heap.size W wx)
  case first=>
    refine wp_region_noPanic ?_
    refine wp_region_held_drew (S:=(fun w'=>((convert 39 9 (.slice A2 4 c2)).run Tryz.prog w'=.ok (.string (strOfNums (l.drop K))) w')∧RS W w')) (by kernel_rfl) ?_ (fun hHeld=>?_)
    · (try dsimp only)
      exact RS.s CV2.out (Below.refl _ _).drew
    refine wT 0 ?_
    refine wT 1 ?_
    refine wT 2 ?_
    refine wT 3 ?_
    refine wT 4 ?_
    refine wT 5 ?_
    refine wT 6 ?_
    refine wpAnyH_ready (rs:=[7]) (by kernel_rfl) (by simp) ?_
    refine rC (fun K hK=>?_) ?_
    · go_simp
      have hq:Below W.heap.size W _:=hHeld.2
      (with_reducible refine (CS.out _ hq).mono ?_);clear hq;rintro e w' ⟨g4,c4,rfl,r4,hb4⟩;have cv4:=conv_row r4 4 rfl
      go_wp2_with fail
      refine hK.out _ _ ?_ (fun hHeld=>?_)
      · (try dsimp only)
        exact RS.s CV2.out (bel_then (Below.refl _ _).drew hb4)
      clear hK K
      (try simp only [Act.put,lsA,lsZ,lsS])
      refine wpAnyH_ready (rs:=[8]) (by kernel_rfl) (by simp) ?_
      refine rC (fun K hK=>?_) ?_
      · go_simp
        refine hK.out _ _ ?_ (fun hHeld=>?_)
        · (try dsimp only)
          exact RS.s CV2.out (bel_then (Below.refl _ _).drew hb4)
        clear hK K
        (try simp only [Act.put,lsA,lsZ,lsS])
        refine wT 9 ?_
        refine wpAnyH_done (by kernel_rfl) ?_ _
        refine NoPanic.normal ?_
        have HB4:=Lib.hid hb4
        clear hb4 cv4 r4
        go_wp2_with fail
        go_meet
        exact ⟨by rw [HSZ.out],bel_then (Below.refl _ _).drew HB4.out⟩
      exact AllReadyH.nil
    exact AllReadyH.nil
  case rest=>
    obtain ⟨rfl,hbx⟩:=hcut
    have NX:=NB.out.below hbx
    have RX:=Lib.hid (RW.out.below hbx)
    have k0:=NX.cell 0
    have k1:=NX.cell 1
    have f0:=NX.frozen 0
    have f1:=NX.frozen 1
    simp only [List.getElem?_cons_succ,List.getElem?_cons_zero] at k0 k1
    have HBX:=Lib.hid (HB1.out.trans (hbx.mono HB1.out.size))
    clear hbx
    rw [decide_eq_true HS.out]
    clear k0 k1 f0 f1
    have hbd4:=lenAt_bd R.out.2.2.1 4
    have hbd6:=lenAt_bd R.out.2.2.1 6
    go_wp2_with fail
    refine (lengthAt_any A cap l n 4 4 rfl HN.out (by omega) hl _ RX.out).mono ?_;rintro e w6 ⟨rfl,hb6⟩
    have RX6:=Lib.hid (RX.out.below hb6)
    go_wp2_with fail
    refine (lengthAt_any A cap l n 6 6 rfl HN.out (by omega) hl _ RX6.out).mono ?_;rintro e w7 ⟨rfl,hb7⟩
    have RX7:=Lib.hid (RX6.out.below hb7)
    have hb67:=bel_then hb6 hb7
    have N7:=Lib.hid (NX.below hb67)
    have HBX:=Lib.hid (HBX.out.trans (hb67.mono HBX.out.size))
    clear hb6 hb7 hb67 NX
    obtain ⟨c,hc⟩:∃ c:Nat,lenAt l 4=c:=⟨(lenAt l 4).toNat,by omega⟩
    obtain ⟨d,hd⟩:∃ d:Nat,lenAt l 6=d:=⟨(lenAt l 6).toNat,by omega⟩
    rw [hc] at hbd4 HQ HZ ⊢
    rw [hd] at hbd6 HQ HZ ⊢
    have HC:=Lib.hid hc
    have HD:=Lib.hid hd
    clear hc hd
    obtain ⟨_,hc1⟩:=hbd4
    obtain ⟨_,hd1⟩:=hbd6
    have k0:=N7.out.cell 0
    have k1:=N7.out.cell 1
    have f0:=N7.out.frozen 0
    have f1:=N7.out.frozen 1
    simp only [List.getElem?_cons_succ,List.getElem?_cons_zero] at k0 k1
    have e1:((8:Int)+(c:Int)+(d:Int))=((8+c+d:Nat):Int):=by omega
    have MB:=Lib.hid (mayBeI_any (c:Int) (d:Int))
    rw [HQ.out] at MB
    have HL:=Lib.hid hl
    have w1:IntKind.i64.wrap ((8:Int)+(c:Int))=8+(c:Int):=IntWalk.i64_in _ (by omega)
    have w2:IntKind.i64.wrap ((8:Int)+(c:Int)+(d:Int))=8+(c:Int)+(d:Int):=IntWalk.i64_in _ (by omega)
    clear hl hlen hlen0 hc1 hd1 e1
    go_wp2_with fail
    refine (MB.out _).mono ?_;rintro e w' ⟨rfl,rfl⟩
    have z1:((8:Int)+(c:Int)+(d:Int) == (n:Int) - 4)=false:=beq_eq_false_iff_ne.2 HZ.out
    go_wp2_with fail
    refine bodyPost_ret (v:=.tuple #[.agg #[.slice none 0 0,.slice none 0 0],.int .i64 4]) (by simp [results,Tryz.results40,go_sem,k0,k1]) rfl ⟨rfl,?_⟩
    exact (HBX.out.setCell (Nat.le_refl _) _).setCell (Nat.le_refl _) _
end Go.Proofs.YteefmjhemhlapaaGreat.Mm
namespace Go.Proofs.YteefmjhemhlapaaGreat.Mm
open Go.ChangeShapes Go.WideShapes Go.ChangeAt Go.RowKit
set_option linter.unusedVariables false
set_option maxRecDepth 10000
theorem read_0 (A:Option Addr) (cap:Nat) (l:List Int) (n K:Nat) (hn:l.length=n) (hK:n=K+4) (h8:8≤K) (hl:n≤100000) (w:World) (r:RowAt w A cap l)
    (hh:l.take 4=headL) (hs:l.drop K=sumL (l.take K)) (hq:rightB (lenAt l 4) (lenAt l 6)=true) (hz:8+lenAt l 4+lenAt l 6=(n:Int) - 4) :
    Calls Tryz.prog 40 #[.slice A n cap] w (ReadY w l):=by
  have HS:=Lib.hid hs;clear hs
  have HQ:=Lib.hid hq;clear hq
  have HZ:=Lib.hid hz;clear hz
  obtain ⟨A1,c1,s1,r1⟩:=cut_to r n hn 4 4 rfl (by omega)
  obtain ⟨A2,c2,s2,r2⟩:=cut_from r n hn K 4 ((n:Int) - 4) (by omega) (by omega)
  obtain ⟨A3,c3,s3,r3⟩:=cut_to r n hn K ((n:Int) - 4) (by omega) (by omega)
  have hb1:=bel_al (Below.refl w.heap.size w) (.cells #[.slice none 0 0,.slice none 0 0] 57)
  have cv1:=conv_row (r1 _ (r.below hb1)) 4 (by rw [List.length_take];omega)
  have q1:decide ((n:Int) < 12)=false:=decide_eq_false (by omega)
  have q2:=head_beq (l.take 4) (take_byte r.2.2.1 4)
  have hlen:(n:Int)≤100000:=by omega
  have hlen0:12≤(n:Int):=by omega
  have R:=Lib.hid r
  have R1:=Lib.hid r1
  have R2:=Lib.hid r2
  have R3:=Lib.hid r3
  have HH:=Lib.hid hh
  have HK:=Lib.hid hK
  have HN:=Lib.hid hn
  have HB1:=Lib.hid hb1
  have HL3:=Lib.hid (show (l.take K).length=K by rw [List.length_take];omega)
  have HL2:=Lib.hid (show (l.drop K).length=4 by rw [List.length_drop];omega)
  have hsz:=str_beq (l.drop K) (sumL (l.take K)) (drop_byte r.2.2.1 K) (sumL_byte _)
  have HSZ:=Lib.hid hsz
  have NB:=Lib.hid (HasB.new w 57 [.slice none 0 0,.slice none 0 0])
  rw [decide_eq_true hh] at q2
  clear hb1 r r1 r2 r3 hn hK hh hsz
  go_enter Tryz.func40,Tryz.ntmps40
  go_wp2_with fail
  obtain ⟨W,hW⟩:∃ W,w.alloc (.cells #[.slice none 0 0,.slice none 0 0] 57)=W:=⟨_,rfl⟩
  have NB:Hid (HasB W w.heap.size 57 [.slice none 0 0,.slice none 0 0]):=Lib.hid (by rw [← hW];exact NB.out)
  rw [hW] at HB1 cv1 ⊢
  have RW:=Lib.hid (R.out.below HB1.out)
  have CV2:Hid (∀ w':World,Below W.heap.size W w'→(convert 39 9 (.slice A2 4 c2)).run Tryz.prog w'=.ok (.string (strOfNums (l.drop K))) w'):=Lib.hid (fun w' b=>conv_row (R2.out _ (RW.out.below b)) 4 HL2.out)
  have CS:Hid (∀ w':World,Below W.heap.size W w'→Calls Tryz.prog 46 #[.slice A3 K c3] w' (SumP w' (sumL (l.take K)))):=Lib.hid (fun w' b=>sum_bytes _ _ _ K HL3.out _ (R3.out _ (RW.out.below b)))
  clear cv1 q1 q2 hW
  go_cut [30] (fun s30 wx=>s30=.bool (!decide (l.drop K=sumL (l.take K)))∧Below W.heap.size W wx)
  case first=>
    refine wp_region_noPanic ?_
    refine wp_region_held_drew (S:=(fun w'=>((convert 39 9 (.slice A2 4 c2)).run Tryz.prog w'=.ok (.string (strOfNums (l.drop K))) w')∧RS W w')) (by kernel_rfl) ?_ (fun hHeld=>?_)
    · (try dsimp only)
      exact RS.s CV2.out (Below.refl _ _).drew
    refine wT 0 ?_
    refine wT 1 ?_
    refine wT 2 ?_
    refine wT 3 ?_
    refine wT 4 ?_
    refine wT 5 ?_
    refine wT 6 ?_
    refine wpAnyH_ready (rs:=[7]) (by kernel_rfl) (by simp) ?_
    refine rC (fun K hK=>?_) ?_
    · go_simp
      have hq:Below W.heap.size W _:=hHeld.2
      (with_reducible refine (CS.out _ hq).mono ?_);clear hq;rintro e w' ⟨g4,c4,rfl,r4,hb4⟩;have cv4:=conv_row r4 4 rfl
      go_wp2_with fail
      refine hK.out _ _ ?_ (fun hHeld=>?_)
      · (try dsimp only)
        exact RS.s CV2.out (bel_then (Below.refl _ _).drew hb4)
      clear hK K
      (try simp only [Act.put,lsA,lsZ,lsS])
      refine wpAnyH_ready (rs:=[8]) (by kernel_rfl) (by simp) ?_
      refine rC (fun K hK=>?_) ?_
      · go_simp
        refine hK.out _ _ ?_ (fun hHeld=>?_)
        · (try dsimp only)
          exact RS.s CV2.out (bel_then (Below.refl _ _).drew hb4)
        clear hK K
        (try simp only [Act.put,lsA,lsZ,lsS])
        refine wT 9 ?_
        refine wpAnyH_done (by kernel_rfl) ?_ _
        refine NoPanic.normal ?_
        have HB4:=Lib.hid hb4
        clear hb4 cv4 r4
        go_wp2_with fail
        go_meet
        exact ⟨by rw [HSZ.out],bel_then (Below.refl _ _).drew HB4.out⟩
      exact AllReadyH.nil
    exact AllReadyH.nil
  case rest=>
    obtain ⟨rfl,hbx⟩:=hcut
    have NX:=NB.out.below hbx
    have RX:=Lib.hid (RW.out.below hbx)
    have k0:=NX.cell 0
    have k1:=NX.cell 1
    have f0:=NX.frozen 0
    have f1:=NX.frozen 1
    simp only [List.getElem?_cons_succ,List.getElem?_cons_zero] at k0 k1
    have HBX:=Lib.hid (HB1.out.trans (hbx.mono HB1.out.size))
    clear hbx
    rw [decide_eq_true HS.out]
    clear k0 k1 f0 f1
    have hbd4:=lenAt_bd R.out.2.2.1 4
    have hbd6:=lenAt_bd R.out.2.2.1 6
    go_wp2_with fail
    refine (lengthAt_any A cap l n 4 4 rfl HN.out (by omega) hl _ RX.out).mono ?_;rintro e w6 ⟨rfl,hb6⟩
    have RX6:=Lib.hid (RX.out.below hb6)
    go_wp2_with fail
    refine (lengthAt_any A cap l n 6 6 rfl HN.out (by omega) hl _ RX6.out).mono ?_;rintro e w7 ⟨rfl,hb7⟩
    have RX7:=Lib.hid (RX6.out.below hb7)
    have hb67:=bel_then hb6 hb7
    have N7:=Lib.hid (NX.below hb67)
    have HBX:=Lib.hid (HBX.out.trans (hb67.mono HBX.out.size))
    clear hb6 hb7 hb67 NX
    obtain ⟨c,hc⟩:∃ c:Nat,lenAt l 4=c:=⟨(lenAt l 4).toNat,by omega⟩
    obtain ⟨d,hd⟩:∃ d:Nat,lenAt l 6=d:=⟨(lenAt l 6).toNat,by omega⟩
    rw [hc] at hbd4 HQ HZ ⊢
    rw [hd] at hbd6 HQ HZ ⊢
    have HC:=Lib.hid hc
    have HD:=Lib.hid hd
    clear hc hd
    obtain ⟨_,hc1⟩:=hbd4
    obtain ⟨_,hd1⟩:=hbd6
    have k0:=N7.out.cell 0
    have k1:=N7.out.cell 1
    have f0:=N7.out.frozen 0
    have f1:=N7.out.frozen 1
    simp only [List.getElem?_cons_succ,List.getElem?_cons_zero] at k0 k1
    have e1:((8:Int)+(c:Int)+(d:Int))=((8+c+d:Nat):Int):=by omega
    have MB:=Lib.hid (mayBeI_any (c:Int) (d:Int))
    rw [HQ.out] at MB
    have HL:=Lib.hid hl
    have w1:IntKind.i64.wrap ((8:Int)+(c:Int))=8+(c:Int):=IntWalk.i64_in _ (by omega)
    have w2:IntKind.i64.wrap ((8:Int)+(c:Int)+(d:Int))=8+(c:Int)+(d:Int):=IntWalk.i64_in _ (by omega)
    clear hl hlen hlen0 hc1 hd1 e1
    go_wp2_with fail
    refine (MB.out _).mono ?_;rintro e w' ⟨rfl,rfl⟩
    have z1:((8:Int)+(c:Int)+(d:Int) == (n:Int) - 4)=true:=beq_iff_eq.2 HZ.out
    have RW:=Lib.hid R.out
    have hz:=HZ.out
    obtain ⟨A5,ca5,s5,r5⟩:=cut_mid RX7.out n HN.out 8 c 8 (8+(c:Int)) rfl (by omega) (by omega)
    obtain ⟨A6,ca6,s6,r6⟩:=cut_mid RX7.out n HN.out (8+c) d (8+(c:Int)) ((n:Int) - 4) (by omega) (by omega) (by omega)
    have l5:((l.drop 8).take c).length=c:=by rw [List.length_take,List.length_drop,HN.out];omega
    have l6:((l.drop (8+c)).take d).length=d:=by rw [List.length_take,List.length_drop,HN.out];omega
    have J5:Hid (∀ (w':World) (g:Nat),HasB w' g 39 [.slice A5 c ca5]→QS w w'→Calls Tryz.prog 44 #[.slice (some ⟨g,0,none⟩) 1 1] w' (JoinN w' c ((l.drop 8).take c))):=
      Lib.hid (fun w' g h q=>joined_one A5 ca5 _ c l5 g w' h (r5 _ (R.out.below q.1)) (by have:=HL.out;omega))
    have J6:Hid (∀ (w':World) (g:Nat),HasB w' g 39 [.slice A6 d ca6]→QS w w'→Calls Tryz.prog 44 #[.slice (some ⟨g,0,none⟩) 1 1] w' (JoinN w' d ((l.drop (8+c)).take d))):=
      Lib.hid (fun w' g h q=>joined_one A6 ca6 _ d l6 g w' h (r6 _ (R.out.below q.1)) (by have:=HL.out;omega))
    have q0:QS w w7:=⟨HBX.out,N7.out.lt⟩
    have Q0:=Lib.hid q0
    have hN7:=N7.out
    clear hz r5 r6 l5 l6 k0 k1 f0 f1 q0 RX RX6 NB RW CV2 CS s1 s2 s3 MB
    go_wp2_with fail
    go_region_held3 (fun w'=>QS w w')
      (first | exact Q0.out.dr | exact QS.call ‹QS _ _› hb | exact QS.al ‹QS _ _› _ | exact QS.st ‹QS _ _› _ _ _ _)
      (first
        | (go_at_call 44;(with_reducible refine Calls.mono (J5.out _ _ ?_ ‹QS _ _›) ?_);(next=>((repeat' first | (with_reducible assumption) | ((with_reducible refine HasB.newAtI _ _ _ _ ?_);(simp;done)) | (with_reducible refine HasB.al ?_ _) | (with_reducible refine HasB.dr ?_) | (with_reducible refine HasB.below ?_ (by with_reducible assumption)));done));rintro e w' ⟨B5,cb5,rfl,own5,hb⟩;replace own5:=own5.mono (Nat.succ_le_of_lt (‹QS w _›).2);have nb:HasB w' w.heap.size 57 [.slice none 0 0,.slice none 0 0]:=(by (repeat' first | (with_reducible assumption) | ((with_reducible refine HasB.newAtI _ _ _ _ ?_);(simp;done)) | (with_reducible refine HasB.al ?_ _) | (with_reducible refine HasB.dr ?_) | (with_reducible refine HasB.below ?_ (by with_reducible assumption))));have k0:=nb.cell 0;have k1:=nb.cell 1;have f0:=nb.frozen 0;have f1:=nb.frozen 1;simp only [List.getElem?_cons_succ,List.getElem?_cons_zero] at k0 k1)
        | (go_at_call 44;(with_reducible refine Calls.mono (J6.out _ _ ?_ ‹QS _ _›) ?_);(next=>((repeat' first | (with_reducible assumption) | ((with_reducible refine HasB.newAtI _ _ _ _ ?_);(simp;done)) | (with_reducible refine HasB.al ?_ _) | (with_reducible refine HasB.dr ?_) | (with_reducible refine HasB.below ?_ (by with_reducible assumption)));done));rintro e w' ⟨B6,cb6,rfl,own6,hb⟩;replace own6:=own6.mono (Nat.succ_le_of_lt (‹QS w _›).2);have nb:HasB w' w.heap.size 57 [.slice none 0 0,.slice none 0 0]:=(by (repeat' first | (with_reducible assumption) | ((with_reducible refine HasB.newAtI _ _ _ _ ?_);(simp;done)) | (with_reducible refine HasB.al ?_ _) | (with_reducible refine HasB.dr ?_) | (with_reducible refine HasB.below ?_ (by with_reducible assumption))));have k0:=nb.cell 0;have k1:=nb.cell 1;have f0:=nb.frozen 0;have f1:=nb.frozen 1;simp only [List.getElem?_cons_succ,List.getElem?_cons_zero] at k0 k1))
    all_goals
      go_wp2_with fail
      refine bodyPost_ret (v:=.tuple #[.agg #[.slice B5 c cb5,.slice B6 d cb6],.int .i64 0]) (by simp [results,Tryz.results40,go_sem,k0,k1]) rfl ?_
      exact readY_end HN.out HC.out HD.out HZ.out (by (repeat' first | (with_reducible assumption) | (with_reducible refine Own.al ?_ _) | (with_reducible refine Own.dr ?_) | (with_reducible refine Own.below ?_ (by with_reducible assumption)))) (by (repeat' first | (with_reducible assumption) | (with_reducible refine Own.al ?_ _) | (with_reducible refine Own.dr ?_) | (with_reducible refine Own.below ?_ (by with_reducible assumption)))) _ _ ‹QS _ _›
end Go.Proofs.YteefmjhemhlapaaGreat.Mm
namespace Go.Proofs.YteefmjhemhlapaaGreat.Mm
open Go.ChangeShapes Go.WideShapes Go.ChangeAt Go.RowKit
set_option linter.unusedVariables false
set_option maxRecDepth 10000
def ReadN (w:World) (k:Int) (e:Ending) (w':World):Prop:=e=.returned (.tuple #[.agg #[.slice none 0 0,.slice none 0 0],.int .i64 k])∧Below w.heap.size w w'
theorem read_2a (A:Option Addr) (cap:Nat) (l:List Int) (n:Nat) (hl:n < 12) (w:World) :
    Calls Tryz.prog 40 #[.slice A n cap] w (ReadN w 2):=by
  have NB:=HasB.new w 57 [.slice none 0 0,.slice none 0 0]
  have HB:=Lib.hid (bel_al (Below.refl w.heap.size w) (.cells #[.slice none 0 0,.slice none 0 0] 57))
  have k0:=NB.cell 0
  have k1:=NB.cell 1
  have f0:=NB.frozen 0
  have f1:=NB.frozen 1
  simp only [List.getElem?_cons_succ,List.getElem?_cons_zero] at k0 k1
  clear NB
  have q1:decide ((n:Int) < 12)=true:=decide_eq_true (by omega)
  go_enter Tryz.func40,Tryz.ntmps40
  go_wp2_with fail
  refine bodyPost_ret (v:=.tuple #[.agg #[.slice none 0 0,.slice none 0 0],.int .i64 2]) (by simp [results,Tryz.results40,go_sem,k0,k1]) rfl ⟨rfl,?_⟩
  first | exact HB.out | exact (HB.out.setCell (Nat.le_refl _) _).setCell (Nat.le_refl _) _
theorem read_2b (A:Option Addr) (cap:Nat) (l:List Int) (n:Nat) (hn:l.length=n) (h12:12≤n) (hl:n≤100000) (w:World) (r:RowAt w A cap l) (hh:l.take 4≠headL) :
    Calls Tryz.prog 40 #[.slice A n cap] w (ReadN w 2):=by
  obtain ⟨A1,c1,s1,r1⟩:=cut_to r n hn 4 4 rfl (by omega)
  have hb1:=bel_al (Below.refl w.heap.size w) (.cells #[.slice none 0 0,.slice none 0 0] 57)
  have cv1:=conv_row (r1 _ (r.below hb1)) 4 (by rw [List.length_take];omega)
  have q1:decide ((n:Int) < 12)=false:=decide_eq_false (by omega)
  have q2:=head_beq (l.take 4) (take_byte r.2.2.1 4)
  rw [decide_eq_false hh] at q2
  have NB:=HasB.new w 57 [.slice none 0 0,.slice none 0 0]
  have HB:=Lib.hid hb1
  have k0:=NB.cell 0
  have k1:=NB.cell 1
  have f0:=NB.frozen 0
  have f1:=NB.frozen 1
  simp only [List.getElem?_cons_succ,List.getElem?_cons_zero] at k0 k1
  clear NB hb1 r r1 hh hn h12 hl
  go_enter Tryz.func40,Tryz.ntmps40
  go_wp2_with fail
  refine bodyPost_ret (v:=.tuple #[.agg #[.slice none 0 0,.slice none 0 0],.int .i64 2]) (by simp [results,Tryz.results40,go_sem,k0,k1]) rfl ⟨rfl,?_⟩
  first | exact HB.out | exact (HB.out.setCell (Nat.le_refl _) _).setCell (Nat.le_refl _) _
theorem Read_no (A:Option Addr) (cap:Nat) (l:List Int) (n:Nat) (hn:l.length=n) (hl:n≤100000) (w:World) (r:RowAt w A cap l) (h:errL l≠0) :
    Calls Tryz.prog 40 #[.slice A n cap] w (ReadN w (errL l)):=by
  rcases err_cases l with ⟨h1,e⟩ | ⟨h1,h2,e⟩ | ⟨h1,h2,h3,e⟩ | ⟨h1,h2,h3,h4,e⟩ | ⟨h1,h2,h3,h4,h5,e⟩ | ⟨_,_,_,_,_,e⟩
  · rw [e];exact read_2a A cap l n (by omega) w
  · rw [e];exact read_2b A cap l n hn (by omega) hl w r h2
  · rw [e];exact read_3 A cap l n (l.length - 4) hn (by omega) (by omega) hl w r h2 h3
  · rw [e];exact read_4a A cap l n (l.length - 4) hn (by omega) (by omega) hl w r h2 h3 h4
  · rw [e];exact read_4b A cap l n (l.length - 4) hn (by omega) (by omega) hl w r h2 h3 h4 (by omega)
  · exact absurd e h
theorem Read_yes (A:Option Addr) (cap:Nat) (l:List Int) (n:Nat) (hn:l.length=n) (hl:n≤100000) (w:World) (r:RowAt w A cap l) (h:errL l=0) :
    Calls Tryz.prog 40 #[.slice A n cap] w (ReadY w l):=by
  rcases err_cases l with ⟨h1,e⟩ | ⟨h1,h2,e⟩ | ⟨h1,h2,h3,e⟩ | ⟨h1,h2,h3,h4,e⟩ | ⟨h1,h2,h3,h4,h5,e⟩ | ⟨h1,h2,h3,h4,h5,e⟩
  · rw [h] at e;cases e
  · rw [h] at e;cases e
  · rw [h] at e;cases e
  · rw [h] at e;cases e
  · rw [h] at e;cases e
  · exact read_0 A cap l n (l.length - 4) hn (by omega) (by omega) hl w r h2 h3 h4 (by omega)
end Go.Proofs.YteefmjhemhlapaaGreat.Mm
