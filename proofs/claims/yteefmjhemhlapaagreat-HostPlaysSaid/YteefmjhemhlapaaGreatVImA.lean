/- Merged by wip/tools/regroup: ImgMath, ImgJoin, ImgRead, ImgRead2. -/
import Derived.Test.YteefmjhemhlapaaGreatVBaM
import Derived.Lib.ConvBytes
import Derived.Deep.DeepCutAuto
namespace Go.Proofs.YteefmjhemhlapaaGreat.Mm
open Go.ChangeShapes Go.WideShapes Go.ChangeAt Go.RowKit
set_option linter.unusedVariables false
set_option maxRecDepth 10000
def headL:List Int:=[86,51,50,49]
def lenL (n:Nat):List Int:=[(n:Int) % 256,(n:Int) / 256]
def bodyL (C D:List Int):List Int:=headL ++ (lenL C.length ++ (lenL D.length ++ (C ++ D)))
def sumL (l:List Int):List Int:=b4 (fnvL 2166136261 l)
def layL (C D:List Int):List Int:=bodyL C D ++ sumL (bodyL C D)
def rightB (n m:Int):Bool:=decide (32≤n∧n≤4096∧n % 32=0∧m≤4096)
def lenAt (l:List Int) (k:Nat):Int:=l.getD k 0+256 * l.getD (k+1) 0
def errL (l:List Int):Int:=
  if l.length < 12∨l.take 4≠headL then 2
  else if l.drop (l.length - 4)≠sumL (l.take (l.length - 4)) then 3
  else if rightB (lenAt l 4) (lenAt l 6)=false∨8+lenAt l 4+lenAt l 6≠(l.length:Int) - 4 then 4
  else 0
def codeI (l:List Int):List Int:=(l.drop 8).take (lenAt l 4).toNat
def dataL (l:List Int):List Int:=(l.drop (8+(lenAt l 4).toNat)).take (lenAt l 6).toNat
theorem sumL_byte (l:List Int):Bytes (sumL l):=by
  have:=fnvL_bd 2166136261 l (by decide) (by decide)
  exact b4_byte _ this.1 this.2
theorem sumL_len (l:List Int):(sumL l).length=4:=rfl
theorem headL_byte:Bytes headL:=by intro x hx;simp [headL] at hx;omega
theorem lenL_byte (n:Nat) (h:n≤65535):Bytes (lenL n):=by intro x hx;simp [lenL] at hx;omega
theorem app_byte {a b:List Int} (ha:Bytes a) (hb:Bytes b):Bytes (a ++ b):=fun x hx=>(List.mem_append.1 hx).elim (ha x) (hb x)
theorem bodyL_byte {C D:List Int} (hC:Bytes C) (hD:Bytes D) (h1:C.length≤65535) (h2:D.length≤65535):Bytes (bodyL C D):=
  app_byte headL_byte (app_byte (lenL_byte _ h1) (app_byte (lenL_byte _ h2) (app_byte hC hD)))
theorem layL_byte {C D:List Int} (hC:Bytes C) (hD:Bytes D) (h1:C.length≤65535) (h2:D.length≤65535):Bytes (layL C D):=app_byte (bodyL_byte hC hD h1 h2) (sumL_byte _)
theorem bodyL_len (C D:List Int):(bodyL C D).length=8+C.length+D.length:=by simp [bodyL,headL,lenL];omega
theorem layL_len (C D:List Int):(layL C D).length=12+C.length+D.length:=by rw [layL,List.length_append,bodyL_len,sumL_len];omega
theorem lenAt_bd {l:List Int} (h:Bytes l) (k:Nat):0≤lenAt l k∧lenAt l k≤65535:=by
  have:=row_byte h k;have:=row_byte h (k+1);unfold lenAt;omega
theorem rightB_iff (n m:Int):rightB n m=true↔32≤n∧n≤4096∧n % 32=0∧m≤4096:=by unfold rightB;exact decide_eq_true_iff
theorem err_2 {l:List Int} (h:l.length < 12∨l.take 4≠headL):errL l=2:=by unfold errL;rw [if_pos h]
theorem err_cases (l:List Int):(l.length < 12∧errL l=2)∨(12≤l.length∧l.take 4≠headL∧errL l=2) ∨
    (12≤l.length∧l.take 4=headL∧l.drop (l.length - 4)≠sumL (l.take (l.length - 4))∧errL l=3) ∨
    (12≤l.length∧l.take 4=headL∧l.drop (l.length - 4)=sumL (l.take (l.length - 4))∧rightB (lenAt l 4) (lenAt l 6)=false∧errL l=4) ∨
    (12≤l.length∧l.take 4=headL∧l.drop (l.length - 4)=sumL (l.take (l.length - 4))∧rightB (lenAt l 4) (lenAt l 6)=true∧8+lenAt l 4+lenAt l 6≠(l.length:Int) - 4∧errL l=4) ∨
    (12≤l.length∧l.take 4=headL∧l.drop (l.length - 4)=sumL (l.take (l.length - 4))∧rightB (lenAt l 4) (lenAt l 6)=true∧8+lenAt l 4+lenAt l 6=(l.length:Int) - 4∧errL l=0):=by
  by_cases h1:l.length < 12
  · exact .inl ⟨h1,err_2 (.inl h1)⟩
  by_cases h2:l.take 4≠headL
  · exact .inr (.inl ⟨by omega,h2,err_2 (.inr h2)⟩)
  have h2':l.take 4=headL:=Decidable.not_not.1 h2
  have hn:¬ (l.length < 12∨l.take 4≠headL):=fun h=>h.elim h1 h2
  by_cases h3:l.drop (l.length - 4)≠sumL (l.take (l.length - 4))
  · exact .inr (.inr (.inl ⟨by omega,h2',h3,by unfold errL;rw [if_neg hn,if_pos h3]⟩))
  have h3':=Decidable.not_not.1 h3
  cases h4:rightB (lenAt l 4) (lenAt l 6)
  · exact .inr (.inr (.inr (.inl ⟨by omega,h2',h3',rfl,by unfold errL;rw [if_neg hn,if_neg h3,if_pos (.inl h4)]⟩)))
  by_cases h5:8+lenAt l 4+lenAt l 6=(l.length:Int) - 4
  · exact .inr (.inr (.inr (.inr (.inr ⟨by omega,h2',h3',rfl,h5,by unfold errL;rw [if_neg hn,if_neg h3,if_neg (by rw [h4];simp [h5])]⟩))))
  · exact .inr (.inr (.inr (.inr (.inl ⟨by omega,h2',h3',rfl,h5,by unfold errL;rw [if_neg hn,if_neg h3,if_pos (.inr h5)]⟩))))
theorem lay_take (C D:List Int):(layL C D).take ((layL C D).length - 4)=bodyL C D:=by
  rw [layL_len,layL,List.take_append_of_le_length (by rw [bodyL_len];omega),List.take_of_length_le (by rw [bodyL_len];omega)]
theorem lay_drop (C D:List Int):(layL C D).drop ((layL C D).length - 4)=sumL (bodyL C D):=by
  rw [layL_len,layL,List.drop_append_of_le_length (by rw [bodyL_len];omega),List.drop_of_length_le (by rw [bodyL_len];omega),List.nil_append]
theorem lay_head (C D:List Int):(layL C D).take 4=headL:=by simp [layL,bodyL,headL]
theorem lay_at4 (C D:List Int):lenAt (layL C D) 4=C.length:=by
  simp [layL,bodyL,headL,lenL,lenAt];omega
theorem lay_at6 (C D:List Int):lenAt (layL C D) 6=D.length:=by
  simp [layL,bodyL,headL,lenL,lenAt];omega
theorem lay_code (C D:List Int):codeI (layL C D)=C:=by
  unfold codeI
  rw [lay_at4,Int.toNat_natCast]
  simp [layL,bodyL,headL,lenL]
theorem lay_data (C D:List Int):dataL (layL C D)=D:=by
  unfold dataL
  rw [lay_at4,lay_at6,Int.toNat_natCast,Int.toNat_natCast]
  have e:layL C D=(headL ++ (lenL C.length ++ (lenL D.length ++ C))) ++ (D ++ sumL (bodyL C D)):=by simp [layL,bodyL]
  have hl:(headL ++ (lenL C.length ++ (lenL D.length ++ C))).length=8+C.length:=by simp [headL,lenL];omega
  rw [e,← hl,List.drop_left,List.take_left]
theorem lay_err (C D:List Int) (h:rightB C.length D.length=true):errL (layL C D)=0:=by
  unfold errL
  rw [lay_take,lay_drop,lay_head,lay_at4,lay_at6,layL_len]
  rw [if_neg (by simp;omega),if_neg (by simp),if_neg]
  rw [h]
  simp
  omega
structure Own (B:Nat) (w:World) (A:Option Addr) (cap:Nat) (L:List Int):Prop where
  own:w.ownsRow B 5 1 (.slice A L.length cap) L.length (L.map (Value.int .u8))
  byte:Bytes L
theorem Own.row {B:Nat} {w:World} {A:Option Addr} {cap:Nat} {L:List Int} (h:Own B w A cap L):RowAt w A cap L:=by
  obtain ⟨A',c',e,_,r⟩:=row_of_own h.own h.byte
  injection e with e1 _ e3
  subst e1 e3
  exact r
theorem Own.below {B:Nat} {w w':World} {A:Option Addr} {cap:Nat} {L:List Int} (h:Own B w A cap L) (b:Below w.heap.size w w'):Own B w' A cap L:=
  ⟨h.own.kept (row:=none) ⟨b.os,b.tape,b.output,b.size,fun k hk _=>b.block k hk⟩ (by cases hv:(Value.slice A L.length cap).ownBlock <;> simp),h.byte⟩
theorem Own.mono {B B':Nat} {w:World} {A:Option Addr} {cap:Nat} {L:List Int} (h:Own B w A cap L) (hB:B'≤B):Own B' w A cap L:=by
  refine ⟨⟨h.own.1,?_⟩,h.byte⟩
  rcases h.own.2 with x | ⟨g,c,cur,e,hg,hr⟩
  · exact .inl x
  · exact .inr ⟨g,c,cur,e,by omega,hr⟩
theorem Own.kept {B:Nat} {w:World} {A:Option Addr} {cap:Nat} {L:List Int} (h:Own B w A cap L) {a:Addr} (ha:a.block < B) (u:Value):Own B (w.setCell a u) A cap L:=
  ⟨ownsRow_setCell_below h.own ha u,h.byte⟩
end Go.Proofs.YteefmjhemhlapaaGreat.Mm
namespace Go.Proofs.YteefmjhemhlapaaGreat.Mm
open Go.ChangeShapes Go.WideShapes Go.ChangeAt Go.RowKit
set_option linter.unusedVariables false
set_option maxRecDepth 10000
structure Part where
  A:Option Addr
  cap:Nat
  L:List Int
def Part.v (p:Part):Value:=.slice p.A p.L.length p.cap
def flat (P:List Part):List Int:=P.flatMap Part.L
def Part.Ok (w:World) (p:Part):Prop:=RowAt w p.A p.cap p.L
theorem flat_take (P:List Part) (k:Nat) (h:k < P.length):flat (P.take (k+1))=flat (P.take k) ++ P[k].L:=by
  rw [List.take_succ_eq_append_getElem h]
  simp only [flat,List.flatMap_append,List.flatMap_cons,List.flatMap_nil,List.append_nil]
theorem flat_len (P:List Part) (k:Nat):(flat (P.take k)).length≤(flat P).length:=by
  conv=>rhs;rw [← List.take_append_drop k P]
  simp only [flat,List.flatMap_append,List.length_append]
  omega
structure Parts (w:World) (g:Nat) (P:List Part):Prop where
  cells:HasB w g 39 (P.map Part.v)
  ok:∀ p∈P,p.Ok w
theorem Parts.below {w w':World} {g:Nat} {P:List Part} (h:Parts w g P) (b:Below w.heap.size w w'):Parts w' g P:=⟨h.cells.below b,fun p hp=>RowAt.below (h.ok p hp) b⟩
theorem Parts.cell {w:World} {g:Nat} {P:List Part} (h:Parts w g P) (k:Nat) (hk:k < P.length):w.cell? ⟨g,k,none⟩=some (.slice P[k].A P[k].L.length P[k].cap):=by
  rw [h.cells.cell k]
  simp [List.getElem?_eq_getElem hk,Part.v]
def JoinP (w:World) (L:List Int) (e:Ending) (w':World):Prop:=∃ A cap,e=.returned (.slice A L.length cap)∧Own w.heap.size w' A cap L∧Below w.heap.size w w'
def JoinRel (w:World) (P:List Part) (o i:Value) (w':World):Prop:=∃ (k:Nat) (A:Option Addr) (cap:Nat),k≤P.length∧i=.int .i64 k∧o=.slice A (flat (P.take k)).length cap∧Own w.heap.size w' A cap (flat (P.take k))∧Below w.heap.size w w'
theorem make_0 (n:Nat) (h:n≤1000000) (w:World) :
    ∃ w',(Instr.makeSlice 39 (.int .i64 0) (.int .i64 n)).run Tryz.prog w=.ok (.slice (some ⟨w.heap.size,0,none⟩) 0 n) w'∧Own w.heap.size w' (some ⟨w.heap.size,0,none⟩) n []∧Below w.heap.size w w':=by
  have hi:∃ i,Tryz.prog.info? 5=some i∧i.zero=some (.int .u8 0)∧i.size=1∧i.bytes=1:=by
    refine ⟨_,rfl,?_,?_,?_⟩ <;> kernel_rfl
  obtain ⟨i,hi,hz,hs,hb⟩:=hi
  obtain ⟨w',hr,ho,hg⟩:=run_make_own (P:=Tryz.prog) (w:=w) w.heap.size 39 5 i (.int .u8 0) 1 Tryz.underlying39 hi hz hs .i64 .i64 n (by rw [hb];omega) (by unfold maxLen;omega) (Nat.le_refl _)
  exact ⟨w',hr,⟨ho,fun z hz=>by simp at hz⟩,(Below.refl _ _).grown hg (Nat.le_refl _) (fun k hk=>by cases hk)⟩
theorem joined_any (P:List Part) (g m:Nat) (w:World) (hm:m=P.length) (hP:Parts w g P) (hn:(flat P).length≤100000) (hp:P.length≤100) :
    Calls Tryz.prog 44 #[.slice (some ⟨g,0,none⟩) m m] w (JoinP w (flat P)):=by
  subst hm
  have HP:=Lib.hid hP
  clear hP
  have hp1:((P.length:Nat):Int)≤100:=by omega
  have FL:=Lib.hid (flat_len P)
  have FT:=Lib.hid (flat_take P)
  go_enter Tryz.func44,Tryz.ntmps44
  go_wp2_with fail
  go_loop [3,5,11] (fun s p i=>∃ k:Nat,k≤P.length∧i=.int .i64 k∧s=.int .i64 (flat (P.take k)).length) (fun _ _ i=>P.length - (intOf i).toNat)
  case atStart=>exact ⟨0,Nat.zero_le _,rfl,rfl⟩
  case round=>
    obtain ⟨k,hk,rfl,rfl⟩:=hrel
    by_cases hlt:k < P.length
    · have c0:=HP.out.cell k hlt
      have ft:=FT.out k hlt
      have f1:=FL.out (k+1)
      rw [ft,List.length_append] at f1
      have FN:Hid ((flat (P.take (k+1))).length=(flat (P.take k)).length+P[k].L.length):=Lib.hid (by rw [ft,List.length_append])
      clear ft FT FL
      generalize (flat (P.take k)).length=s at *
      generalize P[k].L.length=n at *
      generalize P[k].A=A at *
      generalize P[k].cap=c at *
      go_wp2
      go_round
      case rel=>exact ⟨k+1,by omega,by go_num,by rw [FN.out];rfl⟩
      case measure=>simp [intOf];omega
    · have:k=P.length:=by omega
      subst this
      rw [List.take_length]
      obtain ⟨w1,mk,ho,hb⟩:=make_0 (flat P).length (by omega) w
      have OWN:=Lib.hid ho
      have HB:=Lib.hid hb
      clear ho hb
      go_wp2_with fail
      go_loopw [6,8,24] (fun o x i w'=>JoinRel w P o i w') (fun _ _ i _=>P.length - (intOf i).toNat)
      case atStart=>exact ⟨0,_,_,Nat.zero_le _,rfl,rfl,OWN.out,HB.out⟩
      case round=>
        obtain ⟨k,A,cp,hk,rfl,rfl,ho,hb⟩:=hrel
        by_cases hlt:k < P.length
        · have H1:=HP.out.below hb
          have c0:=H1.cell k hlt
          have r0:RowAt wr P[k].A P[k].cap P[k].L:=H1.ok P[k] (List.getElem_mem hlt)
          have R0:=Lib.hid r0
          have FN:=Lib.hid (FT.out k hlt)
          have f1:=FL.out (k+1)
          rw [FN.out,List.length_append] at f1
          have OW:=Lib.hid ho
          have HBW:=Lib.hid hb
          clear ho hb r0 H1 FT FL HP
          generalize P[k].L=M at *
          generalize P[k].A=B at *
          generalize P[k].cap=c at *
          generalize flat (P.take k)=L at *
          go_wp2_with (first
            | (at_builtin
               refine append_row rfl (.tmp 28) (.tmp 29) rfl w.heap.size (.slice A L.length cp) L.length L rfl OW.out.own OW.out.byte B M.length c M rfl rfl c R0.out (L.length+M.length) rfl (by omega) HBW.out.size ?_
               intro A2 c2 w2 own2 row2 bel2
               have OW2:=Lib.hid own2
               have R2:=Lib.hid row2
               have B2:=Lib.hid (HBW.out.trans bel2)
               clear own2 row2 bel2))
          go_roundw
          case rel=>exact ⟨k+1,_,_,by omega,by go_num,by rw [FN.out,List.length_append],⟨by rw [FN.out,List.length_append];exact OW2.out,by rw [FN.out];exact R2.out.2.2.1⟩,B2.out⟩
          case measure=>simp [intOf];omega
        · have:k=P.length:=by omega
          subst this
          rw [List.take_length] at ho ⊢
          go_wp2
          go_ret
          exact ⟨_,_,rfl,ho,hb⟩
theorem mayBeI_any (n m:Int) (w:World):Calls Tryz.prog 65 #[.int .i64 n,.int .i64 m] w fun e w'=>e=.returned (.bool (rightB n m))∧w=w':=by
  have R:=Lib.hid (rightB_iff n m)
  by_cases h1:32≤n
  · by_cases h2:n≤4096
    · have e:n.tmod 32=n % 32:=by rw [Int.tmod_eq_emod_of_nonneg (by omega)]
      by_cases h3:n % 32=0
      · have h3':n.tmod 32=0:=by omega
        by_cases h4:m≤4096
        · have hv:rightB n m=true:=R.out.2 ⟨h1,h2,h3,h4⟩
          go_enter Tryz.func65,Tryz.ntmps65
          go_wp2
          go_ret
          first | exact ⟨ret_bool hv.symm,rfl⟩ | exact ⟨rfl,rfl⟩
        · have hv:rightB n m=false:=by rw [← Bool.not_eq_true,R.out];omega
          go_enter Tryz.func65,Tryz.ntmps65
          go_wp2
          go_ret
          first | exact ⟨ret_bool hv.symm,rfl⟩ | exact ⟨rfl,rfl⟩
      · have h3':(n.tmod 32 == 0)=false:=by rw [e];simp;exact h3
        have h3'':(n % 32 == 0)=false:=by simp;exact h3
        have hv:rightB n m=false:=by rw [← Bool.not_eq_true,R.out];omega
        go_enter Tryz.func65,Tryz.ntmps65
        go_wp2
        go_ret
        first | exact ⟨ret_bool hv.symm,rfl⟩ | exact ⟨rfl,rfl⟩
    · have hv:rightB n m=false:=by rw [← Bool.not_eq_true,R.out];omega
      go_enter Tryz.func65,Tryz.ntmps65
      go_wp2
      go_ret
      first | exact ⟨ret_bool hv.symm,rfl⟩ | exact ⟨rfl,rfl⟩
  · have hv:rightB n m=false:=by rw [← Bool.not_eq_true,R.out];omega
    go_enter Tryz.func65,Tryz.ntmps65
    go_wp2
    go_ret
    first | exact ⟨ret_bool hv.symm,rfl⟩ | exact ⟨rfl,rfl⟩
theorem Right_any (A B:Option Addr) (n m ca cb:Nat) (hn:n≤maxLen) (hm:m≤maxLen) (w:World) :
    Calls Tryz.prog 43 #[.agg #[.slice A n ca,.slice B m cb]] w fun e w'=>e=.returned (.bool (rightB n m))∧Below w.heap.size w w':=by
  unfold maxLen at hn hm
  have M:=Lib.hid (mayBeI_any n m)
  go_enter Tryz.func43,Tryz.ntmps43
  go_wp2_with fail
  refine (M.out _).mono ?_;rintro e w' ⟨rfl,rfl⟩
  go_wp2
  go_ret
  exact ⟨rfl,(Below.refl _ _).alloc (Nat.le_refl _) _⟩
theorem length_any (n:Nat) (hn:n≤65535) (w:World) :
    Calls Tryz.prog 45 #[.int .i64 n] w fun e w'=>e=.returned (.slice (some ⟨w.heap.size,0,none⟩) 2 2)∧w'=w.alloc (.cells ((lenL n).map (Value.int .u8)).toArray 5):=by
  have e1:((n:Int) / 256) % 256=(n:Int) / 256:=by omega
  go_enter Tryz.func45,Tryz.ntmps45
  go_wp2
  go_ret
  exact ⟨rfl,rfl⟩
theorem conv_bytes (w:World) (s:ByteArray):(convert 9 39 (.string s)).run Tryz.prog w=.ok (.slice (some ⟨w.heap.size,0,none⟩) s.size (grownCap w s.size 0 5)) (Lib.bytesWorld w 5 s):=
  Lib.run_convert_string_bytes w 9 39 5 s Tryz.underlying9 Tryz.underlying39 Tryz.underlying5
theorem conv_below (w:World) (s:ByteArray):Below w.heap.size w (Lib.bytesWorld w 5 s):=
  ⟨rfl,rfl,rfl,by rw [Lib.bytesWorld_size];omega,fun k hk=>Lib.bytesWorld_at_old w 5 s k hk⟩
theorem bytes_row (w:World) (L:List Int) (hb:Bytes L) (hs:L.length≤20000):RowAt (Lib.bytesWorld w 5 (strOfNums L)) (some ⟨w.heap.size,0,none⟩) (grownCap w L.length 0 5) L:=by
  refine ⟨grownCap_ge _ _ _ _,grownCap_le_maxLen _ _ _ _ (by unfold maxLen;omega),hb,fun _=>⟨_,rfl,by rw [Lib.bytesWorld_size];exact Nat.lt_succ_self _,fun i hi=>?_⟩⟩
  have e:(⟨w.heap.size,0,none⟩:Addr).add i=⟨w.heap.size,i,none⟩:=by unfold Addr.add;split <;> simp_all
  have hi':i < (strOfNums L).size:=by rw [strOfNums_size];exact hi
  rw [e,Lib.bytesWorld_cell _ _ _ _ hi']
  have h2:=nums_get (strOfNums L) i hi'
  rw [nums_str L hb] at h2
  rw [h2]
  have hi2:i < (strOfNums L).data.toList.length:=by simpa using hi'
  simp only [List.getD,List.getElem?_eq_getElem hi2]
  rfl
def SumP (w:World) (L:List Int) (e:Ending) (w':World):Prop:=∃ g cap,e=.returned (.slice (some ⟨g,0,none⟩) 4 cap)∧RowAt w' (some ⟨g,0,none⟩) cap L∧Below w.heap.size w w'
theorem sum_bytes (A:Option Addr) (cap:Nat) (l:List Int) (n:Nat) (hn:l.length=n) (w:World) (r:RowAt w A cap l) :
    Calls Tryz.prog 46 #[.slice A n cap] w (SumP w (sumL l)):=by
  subst hn
  have C:=Lib.hid (sum_any A cap l w r)
  have hq:=fnvL_bd 2166136261 l (by decide) (by decide)
  have F:=Lib.hid (four_any _ hq.1 hq.2)
  have e4:(strOfNums (sumL l)).size=4:=by rw [strOfNums_size];rfl
  have E4:=Lib.hid e4
  clear r hq e4
  go_enter Tryz.func46,Tryz.ntmps46
  go_wp2_with fail
  refine C.out.mono ?_;rintro e w' ⟨rfl,rfl⟩
  go_wp2_with fail
  refine (F.out _).mono ?_;rintro e w1 ⟨rfl,hb⟩
  have hc:=conv_bytes w1 (strOfNums (sumL l))
  rw [E4.out] at hc
  have HR:=Lib.hid (bytes_row w1 (sumL l) (sumL_byte l) (by rw [sumL_len];decide))
  have HB:=Lib.hid (hb.trans ((conv_below w1 (strOfNums (sumL l))).mono hb.size))
  clear hb
  rw [show b4 (fnvL 2166136261 l)=sumL l from rfl]
  go_wp2
  go_ret
  exact ⟨_,_,rfl,HR.out,HB.out⟩
end Go.Proofs.YteefmjhemhlapaaGreat.Mm
namespace Go.Proofs.YteefmjhemhlapaaGreat.Mm
open Go.ChangeShapes Go.WideShapes Go.ChangeAt Go.RowKit
set_option linter.unusedVariables false
set_option maxRecDepth 10000
theorem i64_or_nat (a b:Nat) (ha:a < 65536) (hb:b < 65536):bits .or .i64 (a:Int) (b:Int)=((a ||| b:Nat):Int):=by
  have hx:a ||| b < 2 ^ 16:=Nat.or_lt_two_pow (by omega) (by omega)
  have e:∀ n:Nat,n < 65536→(BitVec.ofInt 64 (n:Int)).toNat=n:=fun n hn=>by
    rw [BitVec.ofInt_natCast,BitVec.toNat_ofNat];exact Nat.mod_eq_of_lt (by omega)
  show IntKind.i64.wrap ((BitVec.ofInt 64 (a:Int) ||| BitVec.ofInt 64 (b:Int)).toNat:Int)=_
  rw [BitVec.toNat_or,e a ha,e b hb]
  exact IntWalk.i64_in _ (by omega)
theorem or_two (x y:Int) (x0:0≤x) (x1:x≤255) (y0:0≤y) (y1:y≤255):bits .or .i64 x (y * 256)=x+256 * y:=by
  obtain ⟨a,rfl⟩:∃ n:Nat,x=n:=⟨x.toNat,by omega⟩
  obtain ⟨b,rfl⟩:∃ n:Nat,y=n:=⟨y.toNat,by omega⟩
  have e:((b:Int) * 256)=((b * 256:Nat):Int):=by omega
  rw [e,i64_or_nat a (b * 256) (by omega) (by omega),Nat.or_comm,nat_join 8 (b * 256) a (by omega) (by omega)]
  omega
theorem add_s (x:Addr) (k:Nat):x.add (k+1)=⟨x.block,x.off+(k+1),none⟩:=by unfold Addr.add;rw [if_neg (by omega)]
theorem lengthAt_any (A:Option Addr) (cap:Nat) (l:List Int) (n k:Nat) (I:Int) (hI:I=k) (hn:l.length=n) (hk:k+1 < n) (hl:n≤100000) (w:World) (r:RowAt w A cap l) :
    Calls Tryz.prog 64 #[.slice A n cap,.int .i64 I] w fun e w'=>e=.returned (.int .i64 (lenAt l k))∧Below w.heap.size w w':=by
  subst hI
  obtain ⟨x,rfl,_,hc⟩:=r.2.2.2 (by intro e;subst e;simp at hn;omega)
  have c0:=hc k (by omega)
  have c1:=hc (k+1) (by omega)
  rw [add_s] at c1
  have b0:=row_byte r.2.2.1 k
  have b1:=row_byte r.2.2.1 (k+1)
  have HV:=Lib.hid (show lenAt l k=l.getD k 0+256 * l.getD (k+1) 0 from rfl)
  generalize l.getD k 0=p at *
  generalize l.getD (k+1) 0=q at *
  have HO:=or_two p q b0.1 b0.2 b1.1 b1.2
  obtain ⟨p0,p1⟩:=b0
  obtain ⟨q0,q1⟩:=b1
  have e1:IntKind.i64.wrap ((k:Int)+1)=(k:Int)+1:=IntWalk.i64_in _ (by omega)
  have e2:IntKind.i64.wrap (q * 256)=q * 256:=IntWalk.i64_in _ (by omega)
  have e3:(0:Int)≤k:=by omega
  have ep:IntKind.i64.wrap p=p:=IntWalk.i64_in _ (by omega)
  have eq:IntKind.i64.wrap q=q:=IntWalk.i64_in _ (by omega)
  have e4:(k:Int) < (n:Int):=by omega
  have e5:(0:Int)≤(k:Int)+1:=by omega
  have e6:(k:Int)+1 < (n:Int):=by omega
  have e7:((k:Int)+1).toNat=k+1:=by omega
  clear hc r
  go_enter Tryz.func64,Tryz.ntmps64
  go_wp2_with fail
  go_quiet (fail)
  go_wp2
  go_ret
  exact ⟨ret_int HV.out.symm,below_drewN (Below.refl _ _) _⟩
end Go.Proofs.YteefmjhemhlapaaGreat.Mm
namespace Go.Proofs.YteefmjhemhlapaaGreat.Mm
open Go.ChangeShapes Go.WideShapes Go.ChangeAt Go.RowKit
set_option linter.unusedVariables false
set_option maxRecDepth 10000
theorem row_take {w:World} {A:Option Addr} {cap:Nat} {l:List Int} (r:RowAt w A cap l) (m:Nat):RowAt w A cap (l.take m):=by
  obtain ⟨h1,h2,h3,h4⟩:=r
  have hl:(l.take m).length≤l.length:=by rw [List.length_take];omega
  refine ⟨by omega,h2,take_byte h3 _,fun hne=>?_⟩
  obtain ⟨x,hx,hb,hc⟩:=h4 (by intro e;subst e;simp at hne)
  exact ⟨x,hx,hb,fun i hi=>by rw [hc i (by omega),getD_take' _ _ _ _ (by rw [List.length_take] at hi;omega)]⟩
theorem row_drop {w:World} {x:Addr} {cap:Nat} {l:List Int} (r:RowAt w (some x) cap l) (m:Nat):RowAt w (some (x.add m)) (cap - m) (l.drop m):=by
  obtain ⟨h1,h2,h3,h4⟩:=r
  refine ⟨by rw [List.length_drop];omega,by omega,drop_byte h3 _,fun hne=>?_⟩
  obtain ⟨y,hy,hb,hc⟩:=h4 (by intro e;subst e;simp at hne)
  injection hy with hy;subst hy
  exact ⟨_,rfl,by rw [block_add];exact hb,fun i hi=>by rw [List.length_drop] at hi;rw [add_add,hc _ (by omega),getD_drop']⟩
theorem row_nil (w:World) (A:Option Addr) (cap:Nat) (h:cap≤maxLen):RowAt w A cap []:=⟨Nat.zero_le _,h,fun x hx=>by simp at hx,fun h=>absurd rfl h⟩
theorem u8_sz (w:World):(sizeOf (Tryz.prog.elem 39)).run Tryz.prog w=.ok 1 w:=by kernel_rfl
theorem u8_el:Tryz.prog.underlying 39=some (.slice (Tryz.prog.elem 39)):=by kernel_rfl
def cutA (A:Option Addr) (cap k:Nat):Option Addr:=if cap=k then A else A.map (·.add (k * 1))
theorem row_cut {w:World} {A:Option Addr} {cap:Nat} {l:List Int} (r:RowAt w A cap l) (k:Nat) (hk:k≤l.length):RowAt w (cutA A cap k) (cap - k) (l.drop k):=by
  have hm:=r.2.1
  have hc:=r.1
  unfold cutA
  by_cases h:k=l.length
  · subst h;rw [List.drop_length];exact row_nil _ _ _ (by omega)
  · rw [if_neg (by omega)]
    cases A with
    | none=>
      obtain ⟨x,hx,_⟩:=r.2.2.2 (by intro e;subst e;simp at h hk;omega)
      cases hx
    | some x=>rw [Option.map_some,Nat.mul_one];exact row_drop r k
theorem cut_to {w0:World} {A:Option Addr} {cap:Nat} {l:List Int} (r:RowAt w0 A cap l) (n:Nat) (hn:l.length=n) (k:Nat) (I:Int) (hI:I=k) (hk:k≤n) :
    ∃ A1 c1,(∀ w,(Instr.slice 39 (.slice A n cap) none (some (.int .i64 I)) none).run Tryz.prog w=.ok (.slice A1 k c1) w)∧∀ w',RowAt w' A cap l→RowAt w' A1 c1 (l.take k):=by
  have hc:=r.1
  refine ⟨if cap=0 then A else A.map (·.add (0 * 1)),cap,fun w=>?_,fun w' r'=>?_⟩
  · rw [run_slice_h w 39 A n cap u8_el .i64 I (by omega) (by omega),u8_sz]
    simp [Result.andThen,sliced,hI]
  · have e:(if cap=0 then A else A.map (·.add (0 * 1)))=A:=by
      split
      · rfl
      · cases A <;> rfl
    rw [e]
    exact row_take r' k
theorem cut_from {w0:World} {A:Option Addr} {cap:Nat} {l:List Int} (r:RowAt w0 A cap l) (n:Nat) (hn:l.length=n) (k m:Nat) (I:Int) (hI:I=k) (hm:k+m=n) :
    ∃ A1 c1,(∀ w,(Instr.slice 39 (.slice A n cap) (some (.int .i64 I)) none none).run Tryz.prog w=.ok (.slice A1 m c1) w)∧∀ w',RowAt w' A cap l→RowAt w' A1 c1 (l.drop k):=by
  have hc:=r.1
  refine ⟨cutA A cap k,cap - k,fun w=>?_,fun w' r'=>row_cut r' k (by omega)⟩
  rw [run_slice_l w 39 A n cap u8_el .i64 I (by omega) (by omega),u8_sz]
  simp [Result.andThen,sliced,cutA,hI,show n - k=m by omega]
theorem cut_mid {w0:World} {A:Option Addr} {cap:Nat} {l:List Int} (r:RowAt w0 A cap l) (n:Nat) (hn:l.length=n) (k m:Nat) (I J:Int) (hI:I=k) (hJ:J=(k+m:Nat)) (hm:k+m≤n) :
    ∃ A1 c1,(∀ w,(Instr.slice 39 (.slice A n cap) (some (.int .i64 I)) (some (.int .i64 J)) none).run Tryz.prog w=.ok (.slice A1 m c1) w)∧∀ w',RowAt w' A cap l→RowAt w' A1 c1 ((l.drop k).take m):=by
  have hc:=r.1
  refine ⟨cutA A cap k,cap - k,fun w=>?_,fun w' r'=>row_take (row_cut r' k (by omega)) m⟩
  rw [run_slice_lh w 39 A n cap u8_el .i64 .i64 I J (by omega) (by omega) (by omega),u8_sz]
  subst hI
  subst hJ
  simp [Result.andThen,sliced,cutA]
  omega
theorem str_eq (L M:List Int) (hL:Bytes L) (hM:Bytes M):(strOfNums L).toList=(strOfNums M).toList↔L=M:=
  ⟨fun e=>by
    rw [ByteArray.toList_eq,ByteArray.toList_eq] at e
    rw [← nums_str L hL,← nums_str M hM]
    unfold nums
    rw [e],fun e=>by rw [e]⟩
theorem str_beq (L M:List Int) (hL:Bytes L) (hM:Bytes M):((strOfNums L).toList == (strOfNums M).toList)=decide (L=M):=by
  rw [Bool.eq_iff_iff,beq_iff_eq,decide_eq_true_iff];exact str_eq L M hL hM
theorem head_beq (L:List Int) (hL:Bytes L):((strOfNums L).toList == [86,51,50,49])=decide (L=headL):=by
  rw [← str_beq L headL hL headL_byte]
  have:(strOfNums headL).toList=[86,51,50,49]:=by rw [ByteArray.toList_eq];rfl
  rw [this]
def RS (W w':World):Prop:=Below W.heap.size W w'
theorem RS.s {W w':World} {v:Value} {s:ByteArray} (h:∀ w':World,Below W.heap.size W w'→(convert 39 9 v).run Tryz.prog w'=.ok (.string s) w') (b:Below W.heap.size W w') :
    ((convert 39 9 v).run Tryz.prog w'=.ok (.string s) w')∧RS W w':=⟨h w' b,b⟩
theorem HasB.al {w:World} {g:Nat} {t:TypeId} {cs:List Value} (h:HasB w g t cs) (o:Obj):HasB (w.alloc o) g t cs:=h.below (bel_al (Below.refl _ _) _)
theorem HasB.dr {w:World} {g:Nat} {t:TypeId} {cs:List Value} (h:HasB w g t cs):HasB w.drew g t cs:=h
theorem HasB.newAtI (w:World) (g:Nat) (t:TypeId) (cs:List Value) (hg:g=w.heap.size):HasB (w.alloc (.cells cs.toArray t)) g t cs:=by
  subst hg
  exact HasB.new w t cs
def QS (w w':World):Prop:=Below w.heap.size w w'∧w.heap.size < w'.heap.size
theorem QS.dr {w a:World} (h:QS w a):QS w a.drew:=⟨h.1.drew,h.2⟩
theorem QS.al {w a:World} (h:QS w a) (o:Obj):QS w (a.alloc o):=⟨bel_al h.1 o,by have:=h.2;simp;omega⟩
theorem QS.call {w a b:World} (h:QS w a) (k:Below a.heap.size a b):QS w b:=⟨bel_then h.1 k,Nat.lt_of_lt_of_le h.2 k.size⟩
theorem QS.st {w a:World} (h:QS w a) (i j:Nat) (u v:Value):QS w ((a.setCell ⟨w.heap.size,i,none⟩ u).setCell ⟨w.heap.size,j,none⟩ v):=by
  have b:=(h.1.setCell (p:=⟨w.heap.size,i,none⟩) (Nat.le_refl _) u).setCell (p:=⟨w.heap.size,j,none⟩) (Nat.le_refl _) v
  exact ⟨b,by have:=h.2;simp;omega⟩
theorem Own.dr {B:Nat} {w:World} {A:Option Addr} {cap:Nat} {L:List Int} (h:Own B w A cap L):Own B w.drew A cap L:=⟨h.own.drew,h.byte⟩
theorem Own.al {B:Nat} {w:World} {A:Option Addr} {cap:Nat} {L:List Int} (h:Own B w A cap L) (o:Obj):Own B (w.alloc o) A cap L:=h.below (bel_al (Below.refl _ _) o)
def ReadY (w:World) (l:List Int) (e:Ending) (w':World):Prop:=
  ∃ A5 c5 A6 c6,e=.returned (.tuple #[.agg #[.slice A5 (codeI l).length c5,.slice A6 (dataL l).length c6],.int .i64 0])∧Own w.heap.size w' A5 c5 (codeI l)∧Own w.heap.size w' A6 c6 (dataL l)∧Below w.heap.size w w'
theorem readY_end {w w':World} {l:List Int} {n c d:Nat} {B5 B6:Option Addr} {cb5 cb6:Nat} (hn:l.length=n) (hc:lenAt l 4=c) (hd:lenAt l 6=d) (hz:(8:Int)+c+d=(n:Int) - 4)
    (o5:Own (w.heap.size+1) w' B5 cb5 ((l.drop 8).take c)) (o6:Own (w.heap.size+1) w' B6 cb6 ((l.drop (8+c)).take d)) (u v:Value)
    (q:QS w ((w'.setCell ⟨w.heap.size,0,none⟩ u).setCell ⟨w.heap.size,1,none⟩ v)) :
    ReadY w l (.returned (.tuple #[.agg #[.slice B5 c cb5,.slice B6 d cb6],.int .i64 0])) ((w'.setCell ⟨w.heap.size,0,none⟩ u).setCell ⟨w.heap.size,1,none⟩ v):=by
  have e1:codeI l=(l.drop 8).take c:=by unfold codeI;rw [hc];rfl
  have e2:dataL l=(l.drop (8+c)).take d:=by unfold dataL;rw [hc,hd];rfl
  have l1:(codeI l).length=c:=by rw [e1,List.length_take,List.length_drop,hn];omega
  have l2:(dataL l).length=d:=by rw [e2,List.length_take,List.length_drop,hn];omega
  refine ⟨B5,cb5,B6,cb6,by rw [l1,l2],?_,?_,q.1⟩
  · rw [e1];exact ((o5.kept (Nat.lt_succ_self _) _).kept (Nat.lt_succ_self _) _).mono (Nat.le_succ _)
  · rw [e2];exact ((o6.kept (Nat.lt_succ_self _) _).kept (Nat.lt_succ_self _) _).mono (Nat.le_succ _)
def JoinN (w:World) (n:Nat) (L:List Int) (e:Ending) (w':World):Prop:=∃ A cap,e=.returned (.slice A n cap)∧Own w.heap.size w' A cap L∧Below w.heap.size w w'
theorem joined_one (A:Option Addr) (cap:Nat) (L:List Int) (n:Nat) (hn:L.length=n) (g:Nat) (w:World) (h:HasB w g 39 [.slice A n cap]) (r:RowAt w A cap L) (hl:n≤100000) :
    Calls Tryz.prog 44 #[.slice (some ⟨g,0,none⟩) 1 1] w (JoinN w n L):=by
  subst hn
  have e:flat [⟨A,cap,L⟩]=L:=by simp [flat]
  have:=joined_any [⟨A,cap,L⟩] g 1 w rfl ⟨h,fun p hp=>by simp at hp;subst hp;exact r⟩ (by rw [e];exact hl) (by simp)
  rw [e] at this
  exact this
end Go.Proofs.YteefmjhemhlapaaGreat.Mm
