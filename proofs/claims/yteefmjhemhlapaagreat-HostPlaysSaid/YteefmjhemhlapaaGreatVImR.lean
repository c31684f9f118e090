/- Merged by wip/tools/regroup: ImgRef, ImgRef2. -/
import Derived.Test.YteefmjhemhlapaaGreatVImC
namespace Go.Proofs.YteefmjhemhlapaaGreat.Mm
open Go.ChangeShapes Go.WideShapes Go.ChangeAt Go.RowKit
set_option linter.unusedVariables false
set_option maxRecDepth 10000
theorem rRight_any (n m:Int) (w:World):Calls Tryz.prog 56 #[.int .i64 n,.int .i64 m] w fun e w'=>e=.returned (.bool (rightB n m))∧w=w':=by
  have R:=Lib.hid (rightB_iff n m)
  by_cases h1:32≤n
  · by_cases h2:n≤4096
    · have e:n.tmod 32=n % 32:=by rw [Int.tmod_eq_emod_of_nonneg (by omega)]
      by_cases h3:n % 32=0
      · have h3':n.tmod 32=0:=by omega
        by_cases h4:m≤4096
        · have hv:rightB n m=true:=R.out.2 ⟨h1,h2,h3,h4⟩
          go_enter Tryz.func56,Tryz.ntmps56
          go_wp2
          go_ret
          first | exact ⟨ret_bool hv.symm,rfl⟩ | exact ⟨rfl,rfl⟩
        · have hv:rightB n m=false:=by rw [← Bool.not_eq_true,R.out];omega
          go_enter Tryz.func56,Tryz.ntmps56
          go_wp2
          go_ret
          first | exact ⟨ret_bool hv.symm,rfl⟩ | exact ⟨rfl,rfl⟩
      · have h3':(n.tmod 32 == 0)=false:=by rw [e];simp;exact h3
        have h3'':(n % 32 == 0)=false:=by simp;exact h3
        have hv:rightB n m=false:=by rw [← Bool.not_eq_true,R.out];omega
        go_enter Tryz.func56,Tryz.ntmps56
        go_wp2
        go_ret
        first | exact ⟨ret_bool hv.symm,rfl⟩ | exact ⟨rfl,rfl⟩
    · have hv:rightB n m=false:=by rw [← Bool.not_eq_true,R.out];omega
      go_enter Tryz.func56,Tryz.ntmps56
      go_wp2
      go_ret
      first | exact ⟨ret_bool hv.symm,rfl⟩ | exact ⟨rfl,rfl⟩
  · have hv:rightB n m=false:=by rw [← Bool.not_eq_true,R.out];omega
    go_enter Tryz.func56,Tryz.ntmps56
    go_wp2
    go_ret
    first | exact ⟨ret_bool hv.symm,rfl⟩ | exact ⟨rfl,rfl⟩
theorem own_eight (w:World) (x y u v:Int):(w.alloc (.cells #[.int .u8 86,.int .u8 51,.int .u8 50,.int .u8 49,.int .u8 x,.int .u8 y,.int .u8 u,.int .u8 v] 5)).ownsRow w.heap.size 5 1 (.slice (some ⟨w.heap.size,0,none⟩) 8 8) 8 ([86,51,50,49,x,y,u,v].map (Value.int .u8)):=
  World.ownsRow_lit (size:=1) (base:=w.heap.size) (e:=5) w #[.int .u8 86,.int .u8 51,.int .u8 50,.int .u8 49,.int .u8 x,.int .u8 y,.int .u8 u,.int .u8 v] 8 (by simp) (by unfold maxLen;omega) rfl
theorem rbody (C D:List Int):([86,51,50,49,(C.length:Int) % 256,(C.length:Int) / 256,(D.length:Int) % 256,(D.length:Int) / 256] ++ C) ++ D=bodyL C D:=by simp [bodyL,headL,lenL]
theorem rLay_any (A B:Option Addr) (ca cb:Nat) (C D:List Int) (c d:Nat) (hc:C.length=c) (hd:D.length=d) (h1:c≤9000) (h2:d≤9000) (w:World) (rA:RowAt w A ca C) (rB:RowAt w B cb D) :
    Calls Tryz.prog 22 #[.slice A c ca,.slice B d cb] w fun e w'=>e=.returned (.string (strOfNums (layL C D)))∧Below w.heap.size w w':=by
  have RA:=Lib.hid rA
  have RB:=Lib.hid rB
  have hb8:Bytes [86,51,50,49,(c:Int) % 256,(c:Int) / 256,(d:Int) % 256,(d:Int) / 256]:=by intro z hz;simp at hz;omega
  have HB8:=Lib.hid hb8
  have OW:=Lib.hid (own_eight w ((c:Int) % 256) ((c:Int) / 256) ((d:Int) % 256) ((d:Int) / 256))
  have HBD:=Lib.hid (rbody C D)
  rw [hc,hd] at HBD
  have hbb:Bytes (bodyL C D):=bodyL_byte rA.2.2.1 rB.2.2.1 (by omega) (by omega)
  have hbl:(bodyL C D).length=8+c+d:=by rw [bodyL_len,hc,hd]
  have fb:=fnvL_bd 2166136261 (bodyL C D) (by decide) (by decide)
  have FO:=Lib.hid (rfour_any (fnvL 2166136261 (bodyL C D)) fb.1 fb.2)
  have e1:(c:Int) / 256 % 256=(c:Int) / 256:=by omega
  have e2:(d:Int) / 256 % 256=(d:Int) / 256:=by omega
  have t1:(c:Int).tmod 256=(c:Int) % 256:=by rw [Int.tmod_eq_emod_of_nonneg (by omega)]
  have t2:(d:Int).tmod 256=(d:Int) % 256:=by rw [Int.tmod_eq_emod_of_nonneg (by omega)]
  have HC:=Lib.hid hc
  have HD:=Lib.hid hd
  have H1:=Lib.hid h1
  have H2:=Lib.hid h2
  have HBB:=Lib.hid hbb
  have HBL:=Lib.hid hbl
  have hc0:(c:Int)≤9000:=by omega
  have hd0:(d:Int)≤9000:=by omega
  clear rA rB hb8 hbb hbl fb hc hd h1 h2
  go_enter Tryz.func22,Tryz.ntmps22
  go_wp2_with (first
    | (at_builtin
       refine append_row rfl (.tmp 23) (.tmp 24) rfl w.heap.size (.slice (some ⟨w.heap.size,0,none⟩) 8 8) 8 [86,51,50,49,(c:Int) % 256,(c:Int) / 256,(d:Int) % 256,(d:Int) / 256] rfl OW.out HB8.out A c ca C rfl HC.out.symm ca (RA.out.below (bel_al (Below.refl _ _) _)) (8+c) rfl (by have:=H1.out;omega) (by simp) ?_
       intro A2 c2 w2 own2 row2 bel2
       have HB2:=Lib.hid ((bel_al (Below.refl w.heap.size w) (.cells #[.int .u8 86,.int .u8 51,.int .u8 50,.int .u8 49,.int .u8 ((c:Int) % 256),.int .u8 ((c:Int) / 256),.int .u8 ((d:Int) % 256),.int .u8 ((d:Int) / 256)] 5)).trans bel2)
       have OWN2:=Lib.hid own2
       have ROW2:=Lib.hid row2
       clear own2 row2 bel2)
    | (at_builtin
       refine append_row rfl (.tmp 26) (.tmp 27) rfl w.heap.size (.slice A2 (8+c) c2) (8+c) ([86,51,50,49,(c:Int) % 256,(c:Int) / 256,(d:Int) % 256,(d:Int) / 256] ++ C) rfl OWN2.out ROW2.out.2.2.1 B d cb D rfl HD.out.symm cb (RB.out.below HB2.out) (8+c+d) rfl (by have:=H1.out;have:=H2.out;omega) HB2.out.size ?_
       intro A3 c3 w3 own3 row3 bel3
       have HB3:=Lib.hid (HB2.out.trans bel3)
       have ROW3:=Lib.hid row3
       clear own3 row3 bel3))
  rw [HBD.out] at ROW3
  have MO:Hid (∀ w':World,RS w3 w'→Calls Tryz.prog 48 #[.int .u32 2166136261,.slice A3 (8+c+d) c3] w' fun e w''=>e=.returned (.int .u32 (fnvL 2166136261 (bodyL C D)))∧w'=w''):=Lib.hid (fun w' b=>by
    have:=rmore_any 2166136261 (by decide) (by decide) A3 c3 (bodyL C D) w' (ROW3.out.below b)
    rw [HBL.out] at this
    exact this)
  have CV:Hid (∀ w':World,Below w3.heap.size w3 w'→(convert 39 9 (.slice A3 (8+c+d) c3)).run Tryz.prog w'=.ok (.string (strOfNums (bodyL C D))) w'):=Lib.hid (fun w' b=>conv_row (ROW3.out.below b) _ HBL.out)
  have SZ:¬ 9223372036854775807 < (strOfNums (bodyL C D)).size+(strOfNums (sumL (bodyL C D))).size:=by rw [strOfNums_size,strOfNums_size,HBL.out,sumL_len];have:=H1.out;have:=H2.out;omega
  have SA:=Lib.hid (str_app (bodyL C D) (sumL (bodyL C D)))
  clear e1 e2 t1 t2
  rw [show b4 (fnvL 2166136261 (bodyL C D))=sumL (bodyL C D) from rfl] at FO
  go_region_held3 (fun w'=>((convert 39 9 (.slice A3 (8+c+d) c3)).run Tryz.prog w'=.ok (.string (strOfNums (bodyL C D))) w')∧RS w3 w')
    (first | exact RS.s CV.out (Below.refl _ _).drew | exact RS.s CV.out (bel_then (Below.refl _ _).drew hb4))
    (first
      | (go_at_call 48;(with_reducible refine (MO.out _ (by first | exact (Below.refl _ _).drew | exact (‹_∧RS _ _›).2)).mono ?_);rintro e w' ⟨rfl,rfl⟩)
      | (go_at_call 47;(with_reducible refine (FO.out _).mono ?_);rintro e w' ⟨rfl,hb4⟩))
  have HBF:=Lib.hid (bel_then (HB3.out.drew) hb4)
  clear hb4
  go_wp2_with fail
  go_ret
  exact ⟨by rw [SA.out];rfl,HBF.out⟩
end Go.Proofs.YteefmjhemhlapaaGreat.Mm
namespace Go.Proofs.YteefmjhemhlapaaGreat.Mm
open Go.ChangeShapes Go.WideShapes Go.ChangeAt Go.RowKit
set_option linter.unusedVariables false
set_option maxRecDepth 10000
theorem rread_3 (A:Option Addr) (cap:Nat) (l:List Int) (n K:Nat) (hn:l.length=n) (hK:n=K+4) (h8:8≤K) (hl:n≤100000) (w:World) (r:RowAt w A cap l)
    (hh:l.take 4=headL) (hs:l.drop K≠sumL (l.take K)) :
    Calls Tryz.prog 27 #[.slice A n cap] w fun e w'=>e=.returned (.tuple #[.slice none 0 0,.slice none 0 0,.int .i64 3])∧Below w.heap.size w w':=by
  obtain ⟨A1,c1,s1,r1⟩:=cut_to r n hn 4 4 rfl (by omega)
  obtain ⟨A2,c2,s2,r2⟩:=cut_from r n hn K 4 ((n:Int) - 4) (by omega) (by omega)
  obtain ⟨A3,c3,s3,r3⟩:=cut_to r n hn K ((n:Int) - 4) (by omega) (by omega)
  have cv1:=conv_row (r1 _ r) 4 (by rw [List.length_take];omega)
  have q1:decide ((n:Int) < 12)=false:=decide_eq_false (by omega)
  have q2:=head_beq (l.take 4) (take_byte r.2.2.1 4)
  rw [decide_eq_true hh] at q2
  have hlen:(n:Int)≤100000:=by omega
  have hlen0:12≤(n:Int):=by omega
  have fb:=fnvL_bd 2166136261 (l.take K) (by decide) (by decide)
  have FO:=Lib.hid (rfour_any (fnvL 2166136261 (l.take K)) fb.1 fb.2)
  rw [show b4 (fnvL 2166136261 (l.take K))=sumL (l.take K) from rfl] at FO
  have hsz:=str_beq (l.drop K) (sumL (l.take K)) (drop_byte r.2.2.1 K) (sumL_byte _)
  have HSZ:=Lib.hid hsz
  have l3:(l.take K).length=K:=by rw [List.length_take];omega
  have l2:(l.drop K).length=4:=by rw [List.length_drop];omega
  have CV2:Hid (∀ w':World,Below w.heap.size w w'→(convert 39 9 (.slice A2 4 c2)).run Tryz.prog w'=.ok (.string (strOfNums (l.drop K))) w'):=Lib.hid (fun w' b=>conv_row (r2 _ (r.below b)) 4 l2)
  have MO:Hid (∀ w':World,RS w w'→Calls Tryz.prog 48 #[.int .u32 2166136261,.slice A3 K c3] w' fun e w''=>e=.returned (.int .u32 (fnvL 2166136261 (l.take K)))∧w'=w''):=Lib.hid (fun w' b=>by
    have:=rmore_any 2166136261 (by decide) (by decide) A3 c3 (l.take K) w' (r3 _ (r.below b))
    rw [l3] at this
    exact this)
  have R:=Lib.hid r
  have HK:=Lib.hid hK
  have HN:=Lib.hid hn
  have HL:=Lib.hid hl
  have H8:=Lib.hid h8
  clear r r1 r2 r3 hn hK hh hsz l2 l3 fb hl h8
  go_enter Tryz.func27,Tryz.ntmps27
  go_wp2_with fail
  clear cv1 q1 q2
  go_cut [29] (fun s29 wx=>s29=.bool (!decide (l.drop K=sumL (l.take K)))∧Below w.heap.size w wx)
  case first=>
    go_region_held3 (fun w'=>((convert 39 9 (.slice A2 4 c2)).run Tryz.prog w'=.ok (.string (strOfNums (l.drop K))) w')∧RS w w')
      (first | exact RS.s CV2.out (Below.refl _ _).drew | exact RS.s CV2.out (bel_then (Below.refl _ _).drew hb4))
      (first
        | (go_at_call 48;(with_reducible refine (MO.out _ (by first | exact (Below.refl _ _).drew | exact (‹_∧RS _ _›).2)).mono ?_);rintro e w' ⟨rfl,rfl⟩)
        | (go_at_call 47;(with_reducible refine (FO.out _).mono ?_);rintro e w' ⟨rfl,hb4⟩))
    have HB4:=Lib.hid hb4
    clear hb4
    go_wp2_with fail
    go_meet
    exact ⟨by rw [HSZ.out],bel_then (Below.refl _ _).drew HB4.out⟩
  case rest=>
    obtain ⟨rfl,hbx⟩:=hcut
    have HBX:=Lib.hid hbx
    have RX:=Lib.hid (R.out.below hbx)
    clear hbx
    rw [decide_eq_false hs]
    go_wp2_with fail
    go_ret3
    exact ⟨rfl,HBX.out⟩
theorem rread_4a (A:Option Addr) (cap:Nat) (l:List Int) (n K:Nat) (hn:l.length=n) (hK:n=K+4) (h8:8≤K) (hl:n≤100000) (w:World) (r:RowAt w A cap l)
    (hh:l.take 4=headL) (hs:l.drop K=sumL (l.take K)) (hq:rightB (lenAt l 4) (lenAt l 6)=false) :
    Calls Tryz.prog 27 #[.slice A n cap] w fun e w'=>e=.returned (.tuple #[.slice none 0 0,.slice none 0 0,.int .i64 4])∧Below w.heap.size w w':=by
  have HS:=Lib.hid hs;clear hs
  have HQ:=Lib.hid hq;clear hq
  obtain ⟨A1,c1,s1,r1⟩:=cut_to r n hn 4 4 rfl (by omega)
  obtain ⟨A2,c2,s2,r2⟩:=cut_from r n hn K 4 ((n:Int) - 4) (by omega) (by omega)
  obtain ⟨A3,c3,s3,r3⟩:=cut_to r n hn K ((n:Int) - 4) (by omega) (by omega)
  have cv1:=conv_row (r1 _ r) 4 (by rw [List.length_take];omega)
  have q1:decide ((n:Int) < 12)=false:=decide_eq_false (by omega)
  have q2:=head_beq (l.take 4) (take_byte r.2.2.1 4)
  rw [decide_eq_true hh] at q2
  have hlen:(n:Int)≤100000:=by omega
  have hlen0:12≤(n:Int):=by omega
  have fb:=fnvL_bd 2166136261 (l.take K) (by decide) (by decide)
  have FO:=Lib.hid (rfour_any (fnvL 2166136261 (l.take K)) fb.1 fb.2)
  rw [show b4 (fnvL 2166136261 (l.take K))=sumL (l.take K) from rfl] at FO
  have hsz:=str_beq (l.drop K) (sumL (l.take K)) (drop_byte r.2.2.1 K) (sumL_byte _)
  have HSZ:=Lib.hid hsz
  have l3:(l.take K).length=K:=by rw [List.length_take];omega
  have l2:(l.drop K).length=4:=by rw [List.length_drop];omega
  have CV2:Hid (∀ w':World,Below w.heap.size w w'→(convert 39 9 (.slice A2 4 c2)).run Tryz.prog w'=.ok (.string (strOfNums (l.drop K))) w'):=Lib.hid (fun w' b=>conv_row (r2 _ (r.below b)) 4 l2)
  have MO:Hid (∀ w':World,RS w w'→Calls Tryz.prog 48 #[.int .u32 2166136261,.slice A3 K c3] w' fun e w''=>e=.returned (.int .u32 (fnvL 2166136261 (l.take K)))∧w'=w''):=Lib.hid (fun w' b=>by
    have:=rmore_any 2166136261 (by decide) (by decide) A3 c3 (l.take K) w' (r3 _ (r.below b))
    rw [l3] at this
    exact this)
  have R:=Lib.hid r
  have HK:=Lib.hid hK
  have HN:=Lib.hid hn
  have HL:=Lib.hid hl
  have H8:=Lib.hid h8
  clear r r1 r2 r3 hn hK hh hsz l2 l3 fb hl h8
  go_enter Tryz.func27,Tryz.ntmps27
  go_wp2_with fail
  clear cv1 q1 q2
  go_cut [29] (fun s29 wx=>s29=.bool (!decide (l.drop K=sumL (l.take K)))∧Below w.heap.size w wx)
  case first=>
    go_region_held3 (fun w'=>((convert 39 9 (.slice A2 4 c2)).run Tryz.prog w'=.ok (.string (strOfNums (l.drop K))) w')∧RS w w')
      (first | exact RS.s CV2.out (Below.refl _ _).drew | exact RS.s CV2.out (bel_then (Below.refl _ _).drew hb4))
      (first
        | (go_at_call 48;(with_reducible refine (MO.out _ (by first | exact (Below.refl _ _).drew | exact (‹_∧RS _ _›).2)).mono ?_);rintro e w' ⟨rfl,rfl⟩)
        | (go_at_call 47;(with_reducible refine (FO.out _).mono ?_);rintro e w' ⟨rfl,hb4⟩))
    have HB4:=Lib.hid hb4
    clear hb4
    go_wp2_with fail
    go_meet
    exact ⟨by rw [HSZ.out],bel_then (Below.refl _ _).drew HB4.out⟩
  case rest=>
    obtain ⟨rfl,hbx⟩:=hcut
    have HBX:=Lib.hid hbx
    have RX:=Lib.hid (R.out.below hbx)
    clear hbx
    rw [decide_eq_true HS.out]
    obtain ⟨x,hx,_,hcl⟩:=RX.out.2.2.2 (by intro e;have h1:=HN.out;have h2:=HK.out;have h3:=H8.out;rw [e] at h1;simp at h1;omega)
    obtain rfl:=hx
    have h1:=HN.out
    have h2:=HK.out
    have h3:=H8.out
    have y4:=hcl 4 (by omega)
    have y5:=hcl 5 (by omega)
    have y6:=hcl 6 (by omega)
    have y7:=hcl 7 (by omega)
    rw [add_s] at y4 y5 y6 y7
    simp only [Nat.reduceAdd] at y4 y5 y6 y7
    have b4:=row_byte RX.out.2.2.1 4
    have b5:=row_byte RX.out.2.2.1 5
    have b6:=row_byte RX.out.2.2.1 6
    have b7:=row_byte RX.out.2.2.1 7
    have V4:Hid (lenAt l 4=l.getD 4 0+256 * l.getD 5 0):=Lib.hid rfl
    have V6:Hid (lenAt l 6=l.getD 6 0+256 * l.getD 7 0):=Lib.hid rfl
    generalize l.getD 4 0=x4 at *
    generalize l.getD 5 0=x5 at *
    generalize l.getD 6 0=x6 at *
    generalize l.getD 7 0=x7 at *
    obtain ⟨m4,n4⟩:=b4
    obtain ⟨m5,n5⟩:=b5
    obtain ⟨m6,n6⟩:=b6
    obtain ⟨m7,n7⟩:=b7
    have i4:IntKind.i64.wrap x4=x4:=IntWalk.i64_in _ (by omega)
    have i5:IntKind.i64.wrap x5=x5:=IntWalk.i64_in _ (by omega)
    have i6:IntKind.i64.wrap x6=x6:=IntWalk.i64_in _ (by omega)
    have i7:IntKind.i64.wrap x7=x7:=IntWalk.i64_in _ (by omega)
    have j5:IntKind.i64.wrap (256 * x5)=256 * x5:=IntWalk.i64_in _ (by omega)
    have j7:IntKind.i64.wrap (256 * x7)=256 * x7:=IntWalk.i64_in _ (by omega)
    have p4:IntKind.i64.wrap (x4+256 * x5)=x4+256 * x5:=IntWalk.i64_in _ (by omega)
    have p6:IntKind.i64.wrap (x6+256 * x7)=x6+256 * x7:=IntWalk.i64_in _ (by omega)
    obtain ⟨c,hc⟩:∃ c:Nat,x4+256 * x5=c:=⟨(x4+256 * x5).toNat,by omega⟩
    obtain ⟨d,hd⟩:∃ d:Nat,x6+256 * x7=d:=⟨(x6+256 * x7).toNat,by omega⟩
    have hc1:(c:Int)≤65535:=by omega
    have hd1:(d:Int)≤65535:=by omega
    have hlx:(7:Int) < (n:Int):=by omega
    have HLX:=Lib.hid (show 12≤n by omega)
    have RG:=Lib.hid (rRight_any (c:Int) (d:Int))
    have HC:Hid (lenAt l 4=(c:Int)):=Lib.hid (by rw [V4.out,hc])
    have HD:Hid (lenAt l 6=(d:Int)):=Lib.hid (by rw [V6.out,hd])
    clear hcl hlen hlen0 h1 h2 h3 s1 s2 s3
    go_wp2_with fail
    go_quiet (fail)
    go_wp2_with fail
    go_quiet (fail)
    clear y4 y5 y6 y7 i4 i5 i6 i7 j5 j7 p4 p6 m4 n4 m5 n5 m6 n6 m7 n7 hc hd hlx V4 V6
    rw [HC.out,HD.out] at HQ
    rw [HQ.out] at RG
    have e1:IntKind.i64.wrap ((8:Int)+(c:Int))=8+(c:Int):=IntWalk.i64_in _ (by omega)
    have e2:IntKind.i64.wrap ((8:Int)+(c:Int)+(d:Int))=8+(c:Int)+(d:Int):=IntWalk.i64_in _ (by omega)
    go_wp2_with fail
    refine (RG.out _).mono ?_;rintro e w' ⟨rfl,rfl⟩
    go_wp2_with fail
    go_ret3
    exact ⟨rfl,below_drewN HBX.out _⟩
theorem rread_4b (A:Option Addr) (cap:Nat) (l:List Int) (n K:Nat) (hn:l.length=n) (hK:n=K+4) (h8:8≤K) (hl:n≤100000) (w:World) (r:RowAt w A cap l)
    (hh:l.take 4=headL) (hs:l.drop K=sumL (l.take K)) (hq:rightB (lenAt l 4) (lenAt l 6)=true) (hz:8+lenAt l 4+lenAt l 6≠(n:Int) - 4) :
    Calls Tryz.prog 27 #[.slice A n cap] w fun e w'=>e=.returned (.tuple #[.slice none 0 0,.slice none 0 0,.int .i64 4])∧Below w.heap.size w w':=by
  have HS:=Lib.hid hs;clear hs
  have HQ:=Lib.hid hq;clear hq
  have HZ:=Lib.hid hz;clear hz
  obtain ⟨A1,c1,s1,r1⟩:=cut_to r n hn 4 4 rfl (by omega)
  obtain ⟨A2,c2,s2,r2⟩:=cut_from r n hn K 4 ((n:Int) - 4) (by omega) (by omega)
  obtain ⟨A3,c3,s3,r3⟩:=cut_to r n hn K ((n:Int) - 4) (by omega) (by omega)
  have cv1:=conv_row (r1 _ r) 4 (by rw [List.length_take];omega)
  have q1:decide ((n:Int) < 12)=false:=decide_eq_false (by omega)
  have q2:=head_beq (l.take 4) (take_byte r.2.2.1 4)
  rw [decide_eq_true hh] at q2
  have hlen:(n:Int)≤100000:=by omega
  have hlen0:12≤(n:Int):=by omega
  have fb:=fnvL_bd 2166136261 (l.take K) (by decide) (by decide)
  have FO:=Lib.hid (rfour_any (fnvL 2166136261 (l.take K)) fb.1 fb.2)
  rw [show b4 (fnvL 2166136261 (l.take K))=sumL (l.take K) from rfl] at FO
  have hsz:=str_beq (l.drop K) (sumL (l.take K)) (drop_byte r.2.2.1 K) (sumL_byte _)
  have HSZ:=Lib.hid hsz
  have l3:(l.take K).length=K:=by rw [List.length_take];omega
  have l2:(l.drop K).length=4:=by rw [List.length_drop];omega
  have CV2:Hid (∀ w':World,Below w.heap.size w w'→(convert 39 9 (.slice A2 4 c2)).run Tryz.prog w'=.ok (.string (strOfNums (l.drop K))) w'):=Lib.hid (fun w' b=>conv_row (r2 _ (r.below b)) 4 l2)
  have MO:Hid (∀ w':World,RS w w'→Calls Tryz.prog 48 #[.int .u32 2166136261,.slice A3 K c3] w' fun e w''=>e=.returned (.int .u32 (fnvL 2166136261 (l.take K)))∧w'=w''):=Lib.hid (fun w' b=>by
    have:=rmore_any 2166136261 (by decide) (by decide) A3 c3 (l.take K) w' (r3 _ (r.below b))
    rw [l3] at this
    exact this)
  have R:=Lib.hid r
  have HK:=Lib.hid hK
  have HN:=Lib.hid hn
  have HL:=Lib.hid hl
  have H8:=Lib.hid h8
  clear r r1 r2 r3 hn hK hh hsz l2 l3 fb hl h8
  go_enter Tryz.func27,Tryz.ntmps27
  go_wp2_with fail
  clear cv1 q1 q2
  go_cut [29] (fun s29 wx=>s29=.bool (!decide (l.drop K=sumL (l.take K)))∧Below w.heap.size w wx)
  case first=>
    go_region_held3 (fun w'=>((convert 39 9 (.slice A2 4 c2)).run Tryz.prog w'=.ok (.string (strOfNums (l.drop K))) w')∧RS w w')
      (first | exact RS.s CV2.out (Below.refl _ _).drew | exact RS.s CV2.out (bel_then (Below.refl _ _).drew hb4))
      (first
        | (go_at_call 48;(with_reducible refine (MO.out _ (by first | exact (Below.refl _ _).drew | exact (‹_∧RS _ _›).2)).mono ?_);rintro e w' ⟨rfl,rfl⟩)
        | (go_at_call 47;(with_reducible refine (FO.out _).mono ?_);rintro e w' ⟨rfl,hb4⟩))
    have HB4:=Lib.hid hb4
    clear hb4
    go_wp2_with fail
    go_meet
    exact ⟨by rw [HSZ.out],bel_then (Below.refl _ _).drew HB4.out⟩
  case rest=>
    obtain ⟨rfl,hbx⟩:=hcut
    have HBX:=Lib.hid hbx
    have RX:=Lib.hid (R.out.below hbx)
    clear hbx
    rw [decide_eq_true HS.out]
    obtain ⟨x,hx,_,hcl⟩:=RX.out.2.2.2 (by intro e;have h1:=HN.out;have h2:=HK.out;have h3:=H8.out;rw [e] at h1;simp at h1;omega)
    obtain rfl:=hx
    have h1:=HN.out
    have h2:=HK.out
    have h3:=H8.out
    have y4:=hcl 4 (by omega)
    have y5:=hcl 5 (by omega)
    have y6:=hcl 6 (by omega)
    have y7:=hcl 7 (by omega)
    rw [add_s] at y4 y5 y6 y7
    simp only [Nat.reduceAdd] at y4 y5 y6 y7
    have b4:=row_byte RX.out.2.2.1 4
    have b5:=row_byte RX.out.2.2.1 5
    have b6:=row_byte RX.out.2.2.1 6
    have b7:=row_byte RX.out.2.2.1 7
    have V4:Hid (lenAt l 4=l.getD 4 0+256 * l.getD 5 0):=Lib.hid rfl
    have V6:Hid (lenAt l 6=l.getD 6 0+256 * l.getD 7 0):=Lib.hid rfl
    generalize l.getD 4 0=x4 at *
    generalize l.getD 5 0=x5 at *
    generalize l.getD 6 0=x6 at *
    generalize l.getD 7 0=x7 at *
    obtain ⟨m4,n4⟩:=b4
    obtain ⟨m5,n5⟩:=b5
    obtain ⟨m6,n6⟩:=b6
    obtain ⟨m7,n7⟩:=b7
    have i4:IntKind.i64.wrap x4=x4:=IntWalk.i64_in _ (by omega)
    have i5:IntKind.i64.wrap x5=x5:=IntWalk.i64_in _ (by omega)
    have i6:IntKind.i64.wrap x6=x6:=IntWalk.i64_in _ (by omega)
    have i7:IntKind.i64.wrap x7=x7:=IntWalk.i64_in _ (by omega)
    have j5:IntKind.i64.wrap (256 * x5)=256 * x5:=IntWalk.i64_in _ (by omega)
    have j7:IntKind.i64.wrap (256 * x7)=256 * x7:=IntWalk.i64_in _ (by omega)
    have p4:IntKind.i64.wrap (x4+256 * x5)=x4+256 * x5:=IntWalk.i64_in _ (by omega)
    have p6:IntKind.i64.wrap (x6+256 * x7)=x6+256 * x7:=IntWalk.i64_in _ (by omega)
    obtain ⟨c,hc⟩:∃ c:Nat,x4+256 * x5=c:=⟨(x4+256 * x5).toNat,by omega⟩
    obtain ⟨d,hd⟩:∃ d:Nat,x6+256 * x7=d:=⟨(x6+256 * x7).toNat,by omega⟩
    have hc1:(c:Int)≤65535:=by omega
    have hd1:(d:Int)≤65535:=by omega
    have hlx:(7:Int) < (n:Int):=by omega
    have HLX:=Lib.hid (show 12≤n by omega)
    have RG:=Lib.hid (rRight_any (c:Int) (d:Int))
    have HC:Hid (lenAt l 4=(c:Int)):=Lib.hid (by rw [V4.out,hc])
    have HD:Hid (lenAt l 6=(d:Int)):=Lib.hid (by rw [V6.out,hd])
    clear hcl hlen hlen0 h1 h2 h3 s1 s2 s3
    go_wp2_with fail
    go_quiet (fail)
    go_wp2_with fail
    go_quiet (fail)
    clear y4 y5 y6 y7 i4 i5 i6 i7 j5 j7 p4 p6 m4 n4 m5 n5 m6 n6 m7 n7 hc hd hlx V4 V6
    rw [HC.out,HD.out] at HQ
    rw [HQ.out] at RG
    have e1:IntKind.i64.wrap ((8:Int)+(c:Int))=8+(c:Int):=IntWalk.i64_in _ (by omega)
    have e2:IntKind.i64.wrap ((8:Int)+(c:Int)+(d:Int))=8+(c:Int)+(d:Int):=IntWalk.i64_in _ (by omega)
    go_wp2_with fail
    refine (RG.out _).mono ?_;rintro e w' ⟨rfl,rfl⟩
    rw [HC.out,HD.out] at HZ
    have z1:((8:Int)+(c:Int)+(d:Int) == (n:Int) - 4)=false:=beq_eq_false_iff_ne.2 HZ.out
    go_wp2_with fail
    go_ret3
    exact ⟨rfl,below_drewN HBX.out _⟩
def RReadY (w:World) (l:List Int) (e:Ending) (w':World):Prop:=
  ∃ A5 c5 A6 c6,e=.returned (.tuple #[.slice A5 (codeI l).length c5,.slice A6 (dataL l).length c6,.int .i64 0])∧RowAt w' A5 c5 (codeI l)∧RowAt w' A6 c6 (dataL l)∧Below w.heap.size w w'
theorem rread_0 (A:Option Addr) (cap:Nat) (l:List Int) (n K:Nat) (hn:l.length=n) (hK:n=K+4) (h8:8≤K) (hl:n≤100000) (w:World) (r:RowAt w A cap l)
    (hh:l.take 4=headL) (hs:l.drop K=sumL (l.take K)) (hq:rightB (lenAt l 4) (lenAt l 6)=true) (hz:8+lenAt l 4+lenAt l 6=(n:Int) - 4) :
    Calls Tryz.prog 27 #[.slice A n cap] w (RReadY w l):=by
  have HS:=Lib.hid hs;clear hs
  have HQ:=Lib.hid hq;clear hq
  have HZ:=Lib.hid hz;clear hz
  obtain ⟨A1,c1,s1,r1⟩:=cut_to r n hn 4 4 rfl (by omega)
  obtain ⟨A2,c2,s2,r2⟩:=cut_from r n hn K 4 ((n:Int) - 4) (by omega) (by omega)
  obtain ⟨A3,c3,s3,r3⟩:=cut_to r n hn K ((n:Int) - 4) (by omega) (by omega)
  have cv1:=conv_row (r1 _ r) 4 (by rw [List.length_take];omega)
  have q1:decide ((n:Int) < 12)=false:=decide_eq_false (by omega)
  have q2:=head_beq (l.take 4) (take_byte r.2.2.1 4)
  rw [decide_eq_true hh] at q2
  have hlen:(n:Int)≤100000:=by omega
  have hlen0:12≤(n:Int):=by omega
  have fb:=fnvL_bd 2166136261 (l.take K) (by decide) (by decide)
  have FO:=Lib.hid (rfour_any (fnvL 2166136261 (l.take K)) fb.1 fb.2)
  rw [show b4 (fnvL 2166136261 (l.take K))=sumL (l.take K) from rfl] at FO
  have hsz:=str_beq (l.drop K) (sumL (l.take K)) (drop_byte r.2.2.1 K) (sumL_byte _)
  have HSZ:=Lib.hid hsz
  have l3:(l.take K).length=K:=by rw [List.length_take];omega
  have l2:(l.drop K).length=4:=by rw [List.length_drop];omega
  have CV2:Hid (∀ w':World,Below w.heap.size w w'→(convert 39 9 (.slice A2 4 c2)).run Tryz.prog w'=.ok (.string (strOfNums (l.drop K))) w'):=Lib.hid (fun w' b=>conv_row (r2 _ (r.below b)) 4 l2)
  have MO:Hid (∀ w':World,RS w w'→Calls Tryz.prog 48 #[.int .u32 2166136261,.slice A3 K c3] w' fun e w''=>e=.returned (.int .u32 (fnvL 2166136261 (l.take K)))∧w'=w''):=Lib.hid (fun w' b=>by
    have:=rmore_any 2166136261 (by decide) (by decide) A3 c3 (l.take K) w' (r3 _ (r.below b))
    rw [l3] at this
    exact this)
  have R:=Lib.hid r
  have HK:=Lib.hid hK
  have HN:=Lib.hid hn
  have HL:=Lib.hid hl
  have H8:=Lib.hid h8
  clear r r1 r2 r3 hn hK hh hsz l2 l3 fb hl h8
  go_enter Tryz.func27,Tryz.ntmps27
  go_wp2_with fail
  clear cv1 q1 q2
  go_cut [29] (fun s29 wx=>s29=.bool (!decide (l.drop K=sumL (l.take K)))∧Below w.heap.size w wx)
  case first=>
    go_region_held3 (fun w'=>((convert 39 9 (.slice A2 4 c2)).run Tryz.prog w'=.ok (.string (strOfNums (l.drop K))) w')∧RS w w')
      (first | exact RS.s CV2.out (Below.refl _ _).drew | exact RS.s CV2.out (bel_then (Below.refl _ _).drew hb4))
      (first
        | (go_at_call 48;(with_reducible refine (MO.out _ (by first | exact (Below.refl _ _).drew | exact (‹_∧RS _ _›).2)).mono ?_);rintro e w' ⟨rfl,rfl⟩)
        | (go_at_call 47;(with_reducible refine (FO.out _).mono ?_);rintro e w' ⟨rfl,hb4⟩))
    have HB4:=Lib.hid hb4
    clear hb4
    go_wp2_with fail
    go_meet
    exact ⟨by rw [HSZ.out],bel_then (Below.refl _ _).drew HB4.out⟩
  case rest=>
    obtain ⟨rfl,hbx⟩:=hcut
    have HBX:=Lib.hid hbx
    have RX:=Lib.hid (R.out.below hbx)
    clear hbx
    rw [decide_eq_true HS.out]
    obtain ⟨x,hx,_,hcl⟩:=RX.out.2.2.2 (by intro e;have h1:=HN.out;have h2:=HK.out;have h3:=H8.out;rw [e] at h1;simp at h1;omega)
    obtain rfl:=hx
    have h1:=HN.out
    have h2:=HK.out
    have h3:=H8.out
    have y4:=hcl 4 (by omega)
    have y5:=hcl 5 (by omega)
    have y6:=hcl 6 (by omega)
    have y7:=hcl 7 (by omega)
    rw [add_s] at y4 y5 y6 y7
    simp only [Nat.reduceAdd] at y4 y5 y6 y7
    have b4:=row_byte RX.out.2.2.1 4
    have b5:=row_byte RX.out.2.2.1 5
    have b6:=row_byte RX.out.2.2.1 6
    have b7:=row_byte RX.out.2.2.1 7
    have V4:Hid (lenAt l 4=l.getD 4 0+256 * l.getD 5 0):=Lib.hid rfl
    have V6:Hid (lenAt l 6=l.getD 6 0+256 * l.getD 7 0):=Lib.hid rfl
    generalize l.getD 4 0=x4 at *
    generalize l.getD 5 0=x5 at *
    generalize l.getD 6 0=x6 at *
    generalize l.getD 7 0=x7 at *
    obtain ⟨m4,n4⟩:=b4
    obtain ⟨m5,n5⟩:=b5
    obtain ⟨m6,n6⟩:=b6
    obtain ⟨m7,n7⟩:=b7
    have i4:IntKind.i64.wrap x4=x4:=IntWalk.i64_in _ (by omega)
    have i5:IntKind.i64.wrap x5=x5:=IntWalk.i64_in _ (by omega)
    have i6:IntKind.i64.wrap x6=x6:=IntWalk.i64_in _ (by omega)
    have i7:IntKind.i64.wrap x7=x7:=IntWalk.i64_in _ (by omega)
    have j5:IntKind.i64.wrap (256 * x5)=256 * x5:=IntWalk.i64_in _ (by omega)
    have j7:IntKind.i64.wrap (256 * x7)=256 * x7:=IntWalk.i64_in _ (by omega)
    have p4:IntKind.i64.wrap (x4+256 * x5)=x4+256 * x5:=IntWalk.i64_in _ (by omega)
    have p6:IntKind.i64.wrap (x6+256 * x7)=x6+256 * x7:=IntWalk.i64_in _ (by omega)
    obtain ⟨c,hc⟩:∃ c:Nat,x4+256 * x5=c:=⟨(x4+256 * x5).toNat,by omega⟩
    obtain ⟨d,hd⟩:∃ d:Nat,x6+256 * x7=d:=⟨(x6+256 * x7).toNat,by omega⟩
    have hc1:(c:Int)≤65535:=by omega
    have hd1:(d:Int)≤65535:=by omega
    have hlx:(7:Int) < (n:Int):=by omega
    have HLX:=Lib.hid (show 12≤n by omega)
    have RG:=Lib.hid (rRight_any (c:Int) (d:Int))
    have HC:Hid (lenAt l 4=(c:Int)):=Lib.hid (by rw [V4.out,hc])
    have HD:Hid (lenAt l 6=(d:Int)):=Lib.hid (by rw [V6.out,hd])
    clear hcl hlen hlen0 h1 h2 h3 s1 s2 s3
    go_wp2_with fail
    go_quiet (fail)
    go_wp2_with fail
    go_quiet (fail)
    clear y4 y5 y6 y7 i4 i5 i6 i7 j5 j7 p4 p6 m4 n4 m5 n5 m6 n6 m7 n7 hc hd hlx V4 V6
    rw [HC.out,HD.out] at HQ
    rw [HQ.out] at RG
    have e1:IntKind.i64.wrap ((8:Int)+(c:Int))=8+(c:Int):=IntWalk.i64_in _ (by omega)
    have e2:IntKind.i64.wrap ((8:Int)+(c:Int)+(d:Int))=8+(c:Int)+(d:Int):=IntWalk.i64_in _ (by omega)
    go_wp2_with fail
    refine (RG.out _).mono ?_;rintro e w' ⟨rfl,rfl⟩
    rw [HC.out,HD.out] at HZ
    have z1:((8:Int)+(c:Int)+(d:Int) == (n:Int) - 4)=true:=beq_iff_eq.2 HZ.out
    have hz:=HZ.out
    have hn:=HN.out
    obtain ⟨A5,ca5,s5,r5⟩:=cut_mid R.out n HN.out 8 c 8 (8+(c:Int)) rfl (by omega) (by omega)
    obtain ⟨A6,ca6,s6,r6⟩:=cut_mid R.out n HN.out (8+c) d (8+(c:Int)) ((n:Int) - 4) (by omega) (by omega) (by omega)
    have l5:codeI l=(l.drop 8).take c:=by unfold codeI;rw [HC.out];rfl
    have l6:dataL l=(l.drop (8+c)).take d:=by unfold dataL;rw [HC.out,HD.out];rfl
    have n5:(codeI l).length=c:=by rw [l5,List.length_take,List.length_drop,hn];omega
    have n6:(dataL l).length=d:=by rw [l6,List.length_take,List.length_drop,hn];omega
    rw [← l5] at r5
    rw [← l6] at r6
    have R5:=Lib.hid r5
    have R6:=Lib.hid r6
    have N5:=Lib.hid n5
    have N6:=Lib.hid n6
    clear hz hn r5 r6 l5 l6 n5 n6 hc1 hd1
    go_wp2_with fail
    go_quiet (fail)
    go_wp2_with fail
    go_ret3
    refine ⟨A5,ca5,A6,ca6,(by rw [N5.out,N6.out];rfl),R5.out _ (R.out.below ?_),R6.out _ (R.out.below ?_),?_⟩
    all_goals first | exact below_drewN (below_drewN HBX.out _) _ | exact below_drewN HBX.out _
def RReadN (w:World) (k:Int) (e:Ending) (w':World):Prop:=e=.returned (.tuple #[.slice none 0 0,.slice none 0 0,.int .i64 k])∧Below w.heap.size w w'
theorem rread_2a (A:Option Addr) (cap:Nat) (n:Nat) (hl:n < 12) (w:World):Calls Tryz.prog 27 #[.slice A n cap] w (RReadN w 2):=by
  have q1:decide ((n:Int) < 12)=true:=decide_eq_true (by omega)
  go_enter Tryz.func27,Tryz.ntmps27
  go_wp2_with fail
  go_ret3
  exact ⟨rfl,Below.refl _ _⟩
theorem rread_2b (A:Option Addr) (cap:Nat) (l:List Int) (n:Nat) (hn:l.length=n) (h12:12≤n) (hl:n≤100000) (w:World) (r:RowAt w A cap l) (hh:l.take 4≠headL) :
    Calls Tryz.prog 27 #[.slice A n cap] w (RReadN w 2):=by
  obtain ⟨A1,c1,s1,r1⟩:=cut_to r n hn 4 4 rfl (by omega)
  have cv1:=conv_row (r1 _ r) 4 (by rw [List.length_take];omega)
  have q1:decide ((n:Int) < 12)=false:=decide_eq_false (by omega)
  have q2:=head_beq (l.take 4) (take_byte r.2.2.1 4)
  rw [decide_eq_false hh] at q2
  clear r r1 hh hn h12 hl
  go_enter Tryz.func27,Tryz.ntmps27
  go_wp2_with fail
  go_ret3
  exact ⟨rfl,Below.refl _ _⟩
theorem rRead_no (A:Option Addr) (cap:Nat) (l:List Int) (n:Nat) (hn:l.length=n) (hl:n≤100000) (w:World) (r:RowAt w A cap l) (h:errL l≠0) :
    Calls Tryz.prog 27 #[.slice A n cap] w (RReadN w (errL l)):=by
  rcases err_cases l with ⟨h1,e⟩ | ⟨h1,h2,e⟩ | ⟨h1,h2,h3,e⟩ | ⟨h1,h2,h3,h4,e⟩ | ⟨h1,h2,h3,h4,h5,e⟩ | ⟨_,_,_,_,_,e⟩
  · rw [e];exact rread_2a A cap n (by omega) w
  · rw [e];exact rread_2b A cap l n hn (by omega) hl w r h2
  · rw [e];exact rread_3 A cap l n (l.length - 4) hn (by omega) (by omega) hl w r h2 h3
  · rw [e];exact rread_4a A cap l n (l.length - 4) hn (by omega) (by omega) hl w r h2 h3 h4
  · rw [e];exact rread_4b A cap l n (l.length - 4) hn (by omega) (by omega) hl w r h2 h3 h4 (by omega)
  · exact absurd e h
theorem rRead_yes (A:Option Addr) (cap:Nat) (l:List Int) (n:Nat) (hn:l.length=n) (hl:n≤100000) (w:World) (r:RowAt w A cap l) (h:errL l=0) :
    Calls Tryz.prog 27 #[.slice A n cap] w (RReadY w l):=by
  rcases err_cases l with ⟨h1,e⟩ | ⟨h1,h2,e⟩ | ⟨h1,h2,h3,e⟩ | ⟨h1,h2,h3,h4,e⟩ | ⟨h1,h2,h3,h4,h5,e⟩ | ⟨h1,h2,h3,h4,h5,e⟩
  · rw [h] at e;cases e
  · rw [h] at e;cases e
  · rw [h] at e;cases e
  · rw [h] at e;cases e
  · rw [h] at e;cases e
  · exact rread_0 A cap l n (l.length - 4) hn (by omega) (by omega) hl w r h2 h3 h4 (by omega)
end Go.Proofs.YteefmjhemhlapaaGreat.Mm
