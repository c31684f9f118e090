/- The program's own host: Kill. -/
import Derived.Test.YteefmjhemhlapaaGreatVHostCg
namespace Go.Proofs.YteefmjhemhlapaaGreat.Mm
open Go.ChangeShapes Go.WideShapes Go.ChangeAt Go.RowKit
set_option linter.unusedVariables false
set_option linter.unusedSimpArgs false
set_option maxRecDepth 10000
set_option maxHeartbeats 4000000
theorem wpList_del_m {P:Program} {w:World} {ops:Array Oper} {rest:List Oper} {o:Oper} {a:Act} {Q:Exit→Act→World→Prop} (hg:o.guard=none) (m x:Operand) (t k e:TypeId) (hop:o.op=Op.call { callee:=Callee.builtin Builtin.delete,args:=#[m,x],argTypes:=#[t,k] })
    (ht:P.underlying t=some (.map k e)) (hk:P.underlying k=some (.int .i64)) (b:Nat) (V:Nat→Option Value) (hm:a.eval m=.map (some b)) (h:MapAt w b V) (q:Nat) (hx:a.eval x=.int .i64 (q:Int))
    (hK:∀ w',MapAt w' b (fun j=>if j=q then none else V j)→w.grownBy w' (some b)→w'.heap.size=w.heap.size→wpList P ops Q rest (a.put o.dst (.tuple #[])) w'):wpList P ops Q (o :: rest) a w:=by
  refine wpList_plain hg fun K' hK'=>?_
  obtain ⟨w',hrun,r1,r2,r3⟩:=h.del ht hk q o.type
  unfold Oper.wp
  simp [execOp,hop,resolve,invoke,builtin,hm,hx,hrun,Result.andThen]
  exact hK' _ _ (hK w' r1 r2 r3)
theorem kill_fin {w W3 W4 w5 w6:World} {z hb p g y mb:Nat} {RA TA:Nat→Option Addr} {rc tc:Nat→Nat} {h:Ho} {F:Nat→Prop} (I:HIn w hb p g y mb RA TA rc tc h F) (H:HoZ z h) {k:Nat} {s:Sb} (hs:h.has k s)
    (b3:Below w.heap.size w W3) (I3:HIn W3 hb p g y mb RA TA rc tc h F) (m4:MapAt W4 mb (fun j=>if j=k then none else valO h RA TA rc tc j)) (g4:W3.grownBy W4 (some mb)) (s4:W4.heap.size=W3.heap.size) (b5:Below W4.drew.heap.size W4.drew w5)
    (m6:MemAt w6 p g y (splice h.B s.r.1.toNat (List.replicate s.r.2.toNat 0)) (splice h.T (s.r.1 / 64).toNat (List.replicate (s.r.2 / 64).toNat false))) (g6:Chg g y w5 w6):HAt w6 hb (killO h k s) F∧ChF F w w6:=by
  obtain ⟨ap1,ap2,ap3⟩:=I.apart
  have lt:=I.lt
  have hl:k < h.m.length:=Ho.has_lt hs
  have sz:w.heap.size≤w5.heap.size:=Nat.le_trans b3.size (by have:=b5.size;have e:W4.drew.heap.size=W4.heap.size:=rfl;omega)
  have s34:W3.heap.size=W4.drew.heap.size:=s4.symm
  have eq:∀ i,i < w.heap.size→i≠mb→i≠g→i≠y→w6.heap[i]?=w.heap[i]?:=fun i hi h1 h2 h3=>
    (g6.block i (by omega) h2 h3).trans ((b5.block i (by have:=b3.size;omega)).trans ((g4.block i (by have:=b3.size;omega) (by simpa using h1)).trans (b3.block i hi)))
  have e:killO h k s=⟨splice h.B s.r.1.toNat (List.replicate s.r.2.toNat 0),splice h.T (s.r.1 / 64).toNat (List.replicate (s.r.2 / 64).toNat false),h.m.set k none⟩:=by
    unfold killO Sb.r
    simp only
    rw [show ((s.b:Int)).toNat=s.b by omega,show (((2 * s.hf:Nat):Int)).toNat=2 * s.hf by omega,show ((s.b:Int) / 64).toNat=s.b / 64 by omega,show ((((2 * s.hf:Nat):Int)) / 64).toNat=2 * s.hf / 64 by omega]
  rw [e]
  refine ⟨⟨p,g,y,mb,RA,TA,rc,tc,I.del hl (Nat.le_trans sz g6.size) ?_ m6 ?_ (fun j t hj ht=>⟨?_,fun a ha=>?_⟩)⟩,?_⟩
  · exact (eq hb lt.1 (by omega) (by omega) (by omega)).trans I.own
  · exact (m4.keep ((g6.block mb (by omega) (by omega) (by omega)).trans (b5.block mb (by have:=b3.size;omega))))
  · rcases I.repOff ht with h1 | ⟨h1,h2,h3⟩
    · exact .inl h1
    · rcases I.rows.rep j t ht with h4 | h4
      · exact .inl h4
      · exact .inr (fun a ha=>eq a.block (I.lim _ (h4 a ha)) (h3 a ha) (h1 a ha) (h2 a ha))
  · obtain ⟨t1,t2,_⟩:=I.rows.tr j t ht a ha
    exact eq a.block (I.lim _ t1) t2.2.2.2.2 t2.2.2.1 t2.2.2.2.1
  · refine ⟨g6.os.trans (b5.os.trans (g4.os.trans b3.os)),g6.tape.trans (b5.tape.trans (g4.tape.trans b3.tape)),g6.output.trans (b5.output.trans (g4.output.trans b3.output)),Nat.le_trans sz g6.size,fun i hi hn=>eq i hi (fun e=>hn (by subst e;exact I.rows.inF _ (by simp))) (fun e=>hn (by subst e;exact I.rows.inF _ (by simp))) (fun e=>hn (by subst e;exact I.rows.inF _ (by simp)))⟩
set_option maxHeartbeats 8000000 in
theorem hKill:HKillC:=by
  intro w hb z h F id ⟨p,g,y,mb,RA,TA,rc,tc,I⟩ H hid
  have IH0:=Lib.hid I
  have HZ:=Lib.hid H
  have FC:=Lib.hid (find_h I id)
  have LT:=Lib.hid I.lt
  have AP:=Lib.hid I.apart
  clear I H hid
  have hnp:∀ w:World,(binOp .eql 26 (.pointer (some ⟨hb,0,none⟩)) (.pointer none)).run Tryz.prog w=.ok (.bool false) w:=fun _=>rfl
  go_enter Tryz.func11,Tryz.ntmps11
  go_wp2_with fail
  refine FC.out.mono ?_;rintro e w1 ⟨b1,hq⟩
  have I1:=Lib.hid (IH0.out.below b1)
  have B1:=Lib.hid b1
  clear FC b1
  obtain ⟨jb,hjb⟩:∃ jb,w1.heap.size=jb:=⟨_,rfl⟩
  obtain ⟨W2,e2,X2,I2,B2,S2⟩:∃ W2,w1.alloc (.cells ([.int .u32 0,.int .u32 0,.int .u32 0,.int .u32 0,.int .u32 0,.int .u32 0,.int .u32 0,.int .u32 0,.int .u32 0,.int .u32 0,.int .u32 0,.slice none 0 0,.int .i64 0,.slice none 0 0,.bool false,.int .u32 0,.int .i64 0,.int .i64 0]:List Value).toArray 82)=W2∧Hid (HasB W2 jb 82 [.int .u32 0,.int .u32 0,.int .u32 0,.int .u32 0,.int .u32 0,.int .u32 0,.int .u32 0,.int .u32 0,.int .u32 0,.int .u32 0,.int .u32 0,.slice none 0 0,.int .i64 0,.slice none 0 0,.bool false,.int .u32 0,.int .i64 0,.int .i64 0])∧Hid (HIn W2 hb p g y mb RA TA rc tc h F)∧Hid (Below w.heap.size w W2)∧Hid (w.heap.size≤jb):=by
    have b:=bel_al (Below.refl w1.heap.size w1) (.cells ([.int .u32 0,.int .u32 0,.int .u32 0,.int .u32 0,.int .u32 0,.int .u32 0,.int .u32 0,.int .u32 0,.int .u32 0,.int .u32 0,.int .u32 0,.slice none 0 0,.int .i64 0,.slice none 0 0,.bool false,.int .u32 0,.int .i64 0,.int .i64 0]:List Value).toArray 82)
    exact ⟨_,rfl,Lib.hid (by rw [← hjb];exact HasB.new w1 82 [.int .u32 0,.int .u32 0,.int .u32 0,.int .u32 0,.int .u32 0,.int .u32 0,.int .u32 0,.int .u32 0,.int .u32 0,.int .u32 0,.int .u32 0,.slice none 0 0,.int .i64 0,.slice none 0 0,.bool false,.int .u32 0,.int .i64 0,.int .i64 0]),Lib.hid (I1.out.below b),Lib.hid (bel_then B1.out b),Lib.hid (by rw [← hjb];exact B1.out.size)⟩
  have ZL:=Lib.hid z_len
  rcases hq with ⟨k,s,rfl,hs,rfl⟩ | ⟨hno,rfl⟩
  · have LL:=Lib.hid (bx_len (IH0.out.sx k s hs).1.c (RA k) (rc k) (TA k) (tc k))
    have RGC:=Lib.hid (fun w'=>sb_region IH0.out hs w')
    have HHAS:=Lib.hid hs
    have HREG:=Lib.hid (HZ.out.rg k s hs)
    obtain ⟨cs0,hcs0⟩:∃ cs0,s.x.cs (RA k) (rc k) (TA k) (tc k)=cs0:=⟨_,rfl⟩
    rw [hcs0] at LL RGC
    rw [hcs0]
    clear hcs0 hs I1 B1
    dsimp only
    go_wp2_with (first
      | (refine st_any rfl 82 (.tmp 5) (.tmp 11) rfl rfl jb [.int .u32 0,.int .u32 0,.int .u32 0,.int .u32 0,.int .u32 0,.int .u32 0,.int .u32 0,.int .u32 0,.int .u32 0,.int .u32 0,.int .u32 0,.slice none 0 0,.int .i64 0,.slice none 0 0,.bool false,.int .u32 0,.int .i64 0,.int .i64 0] cs0 (by rfl) (by rfl) X2.out (by rw [LL.out.1];rfl) (by rw [LL.out.1];kernel_rfl) LL.out.2 ?_;intro W3 r3 c3
         have I3:=Lib.hid (I2.out.same c3.size (fun i hi=>c3.block i (I2.out.lim i hi) (by have:=IH0.out.lim i hi;have:=S2.out;omega) (by have:=IH0.out.lim i hi;have:=S2.out;omega)))
         have B3:=Lib.hid (Below.trans B2.out (Below.ofNew c3 B2.out.size S2.out))
         have X3:=Lib.hid r3
         have d1:=I3.out.own.cell 1
         clear r3 c3)
      | (at_delete;refine wpList_del_m rfl (.tmp 19) (.tmp 20) 67 3 82 rfl Tryz.underlying67 Tryz.underlying3 mb _ (by rfl) I3.out.map k (by rfl) ?_;intro W4 m4 g4 s4
         have G4:=Lib.hid (And.intro m4 (And.intro g4 s4))
         clear m4 g4 s4))
    have D5o:Hid (HasB W4.drew hb 69 [.pointer (some ⟨p,0,none⟩),.map (some mb)]):=Lib.hid ((show HasB W4 hb 69 _ from (G4.out.2.1.block hb I3.out.own.lt (by simpa using (IH0.out.apart).1.2.2.2)).trans I3.out.own).below (Below.refl _ _).drew)
    have X4:Hid (HasB W4.drew jb 82 cs0):=Lib.hid ((show HasB W4 jb 82 _ from (G4.out.2.1.block jb X3.out.lt (by have:=LT.out;have:=S2.out;simp;omega)).trans X3.out).below (Below.refl _ _).drew)
    have D5:Hid (W4.drew.cell? ⟨hb,0,none⟩=some (.pointer (some ⟨p,0,none⟩))∧HasB W4.drew jb 82 cs0):=Lib.hid ⟨D5o.out.cell 0,X4.out⟩
    have M4:Hid (MemAt W4.drew p g y h.B h.T):=Lib.hid (by
      have M:=I3.out.mem
      have ap:=AP.out.2.1
      exact (⟨(G4.out.2.1.block p M.own.lt (by simpa using Ne.symm ap.1)).trans M.own,(G4.out.2.1.block g M.bytes.lt (by simpa using Ne.symm ap.2.1)).trans M.bytes,(G4.out.2.1.block y M.zones.lt (by simpa using Ne.symm ap.2.2)).trans M.zones,M.len,M.pos,M.top,M.byte⟩:MemAt W4 p g y h.B h.T).below (Below.refl _ _).drew)
    have SZ4:Hid (w.heap.size≤W4.drew.heap.size):=Lib.hid (by have:=G4.out.2.2;have:=B3.out.size;show _≤W4.heap.size;omega)
    have RG:=Lib.hid (RGC.out W4.drew)
    have CLR:=Lib.hid (fun w5 (b5:Below W4.drew.heap.size W4.drew w5)=>clearC s.r p g y h.B h.T w5 (by have:=HREG.out;rwa [← HZ.out.zl,show ((64 * h.T.length:Nat):Int)=64 * (h.T.length:Int) by omega] at this) (M4.out.below b5))
    have KFIN:Hid (∀ w5 w6,Below W4.drew.heap.size W4.drew w5→MemAt w6 p g y (splice h.B s.r.1.toNat (List.replicate s.r.2.toNat 0)) (splice h.T (s.r.1 / 64).toNat (List.replicate (s.r.2 / 64).toNat false))→Chg g y w5 w6→HKillP w hb h F (k:Int) (.returned (.int .i64 0)) w6):=Lib.hid (fun w5 w6 b5 m6 g6=>by
      obtain ⟨q1,q2⟩:=kill_fin IH0.out HZ.out HHAS.out B3.out I3.out G4.out.1 G4.out.2.1 G4.out.2.2 b5 m6 g6
      exact .inl ⟨k,s,rfl,HHAS.out,rfl,q1,q2⟩)
    clear I3 B3 X3 X4 M4 G4 I2 B2 X2 RGC HREG
    go_wp2_with fail
    refine wp_region_noPanic ?_
    refine wp_region_held_drew (S:=(fun w'=>w'.cell? ⟨hb,0,none⟩=some (.pointer (some ⟨p,0,none⟩))∧HasB w' jb 82 cs0)) (by kernel_rfl) ?_ (fun hHeld=>?_)
    · (try dsimp only)
      exact D5.out
    refine wT 0 ?_
    refine wT 1 ?_
    refine wT 2 ?_
    refine wT 3 ?_
    refine wpAnyH_take (i:=4) (oi:={ dst:=some 25,op:=Op.load 82 (Operand.tmp 5),type:=82,pos:= "host.go:89",after:=#[],guard:=none }) (v:=?_) rfl (by kernel_rfl) (by kernel_rfl) (by kernel_rfl) (fun _ _ _ h=>h) (Or.inl ⟨by rfl,?_⟩) (by assumption) ?_
    rotate_left
    · intro wz hSw;refine exec_load_has 82 (.tmp 5) ?_ (jb) ?_ hSw.2 ?_ Tryz.underlying82 ?_ <;> first | rfl | (rw [LL.out.1];kernel_rfl) | kernel_rfl
    (try simp only [Act.put,lsA,lsZ,lsS])
    refine wpAnyH_ready (rs:=[5]) (by kernel_rfl) (by simp) ?_
    refine rC (fun K hK=>?_) ?_
    · go_simp
      (with_reducible refine RG.out.mono ?_)
      rintro e w5 ⟨rfl,b5⟩
      have E5:Hid (w5.cell? ⟨hb,0,none⟩=some (.pointer (some ⟨p,0,none⟩))∧HasB w5 jb 82 cs0):=Lib.hid ⟨(D5o.out.below b5).cell 0,D5.out.2.below b5⟩
      have CC:=Lib.hid (CLR.out w5 b5)
      have B5:=Lib.hid b5
      clear b5
      refine hK.out _ _ ?_ (fun hHeld=>?_)
      · (try dsimp only)
        exact E5.out
      clear hK K
      (try simp only [Act.put,lsA,lsZ,lsS])
      refine wpAnyH_ready (rs:=[6]) (by kernel_rfl) (by simp) ?_
      refine rC (fun K hK=>?_) ?_
      · go_simp
        (with_reducible refine CC.out.mono ?_)
        rintro e w6 ⟨rfl,m6,g6⟩
        have G5:Hid (w6.cell? ⟨hb,0,none⟩=some (.pointer (some ⟨p,0,none⟩))):=Lib.hid ((cell_chg g6 (p:=⟨hb,0,none⟩) (by show hb < _;have:=LT.out;have:=B5.out.size;have:=SZ4.out;omega) AP.out.1.2.1 AP.out.1.2.2.1).trans E5.out.1)
        have hbx6:=Lib.hid (E5.out.2.chg g6 (by have:=LT.out;have:=S2.out;omega) (by have:=LT.out;have:=S2.out;omega))
        have FIN:=Lib.hid (KFIN.out w5 w6 B5.out m6 g6)
        clear m6 g6
        refine hK.out _ _ ?_ (fun hHeld=>?_)
        · (try dsimp only)
          exact ⟨G5.out,hbx6.out⟩
        clear hK K
        (try simp only [Act.put,lsA,lsZ,lsS])
        refine wT 7 ?_
        refine wpAnyH_done (by kernel_rfl) ?_ _
        refine NoPanic.normal ?_
        go_wp2_with fail
        go_ret
        exact FIN.out
      exact AllReadyH.nil
    exact AllReadyH.nil
  · dsimp only
    go_wp2_with (first
      | (refine st_any rfl 82 (.tmp 5) (.tmp 11) rfl rfl jb [.int .u32 0,.int .u32 0,.int .u32 0,.int .u32 0,.int .u32 0,.int .u32 0,.int .u32 0,.int .u32 0,.int .u32 0,.int .u32 0,.int .u32 0,.slice none 0 0,.int .i64 0,.slice none 0 0,.bool false,.int .u32 0,.int .i64 0,.int .i64 0] [.int .u32 0,.int .u32 0,.int .u32 0,.int .u32 0,.int .u32 0,.int .u32 0,.int .u32 0,.int .u32 0,.int .u32 0,.int .u32 0,.int .u32 0,.slice none 0 0,.int .i64 0,.slice none 0 0,.bool false,.int .u32 0,.int .i64 0,.int .i64 0] (by rfl) (by rfl) X2.out rfl (by kernel_rfl) ZL.out.2 ?_;intro W3 r3 c3;have I3:=Lib.hid (I2.out.same c3.size (fun i hi=>c3.block i (I2.out.lim i hi) (by have:=IH0.out.lim i hi;have:=S2.out;omega) (by have:=IH0.out.lim i hi;have:=S2.out;omega)));have B3:=Lib.hid (Below.trans B2.out (Below.ofNew c3 B2.out.size S2.out))))
    go_ret
    exact .inr ⟨hno,rfl,⟨p,g,y,mb,RA,TA,rc,tc,I3.out⟩,B3.out⟩
end Go.Proofs.YteefmjhemhlapaaGreat.Mm
