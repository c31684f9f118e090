/- Merged by wip/tools/regroup: ImgLay, ImgLay2, ImgLay3. -/
import Derived.Test.YteefmjhemhlapaaGreatVImB
namespace Go.Proofs.YteefmjhemhlapaaGreat.Mm
open Go.ChangeShapes Go.WideShapes Go.ChangeAt Go.RowKit
set_option linter.unusedVariables false
set_option maxRecDepth 10000
theorem heap_freeze (w:World) (a:Addr) (n k:Nat) (hk:k≠a.block):(w.freeze a n).heap[k]?=w.heap[k]?:=by
  unfold World.freeze
  split
  · rfl
  · show (w.heap.modify a.block _)[k]?=_
    rw [Array.getElem?_modify,if_neg (fun h=>hk h.symm)]
theorem size_freeze (w:World) (a:Addr) (n:Nat):(w.freeze a n).heap.size=w.heap.size:=by
  unfold World.freeze
  split
  · rfl
  · show (w.heap.modify a.block _).size=_
    simp
theorem bel_freeze {B:Nat} {a w:World} (h:Below B a w) (p:Addr) (hp:B≤p.block) (n:Nat):Below B a (w.freeze p n):=by
  refine ⟨?_,?_,?_,by rw [size_freeze];exact h.size,fun k hk=>by rw [heap_freeze _ _ _ _ (by omega)];exact h.block k hk⟩
  · have:=h.os;unfold World.freeze;split <;> exact this
  · have:=h.tape;unfold World.freeze;split <;> exact this
  · have:=h.output;unfold World.freeze;split <;> exact this
theorem cell_freeze {w:World} {g m:Nat} {t:TypeId} {cs:List Value} (h:HasB w g t cs) (a:Addr):(w.freeze ⟨g,m,none⟩ 1).cell? a=w.cell? a:=by
  by_cases hk:a.block=g
  · have e:(w.freeze ⟨g,m,none⟩ 1).heap[a.block]?=some (.cells cs.toArray t (m,m+1)):=by
      unfold World.freeze
      rw [if_neg (by decide)]
      show (w.heap.modify g _)[a.block]?=_
      rw [Array.getElem?_modify,if_pos hk.symm,hk,h]
      rfl
    have e0:w.heap[a.block]?=some (.cells cs.toArray t (0,0)):=by rw [hk];exact h
    unfold World.cell?
    rw [e,e0]
  · unfold World.cell?
    rw [heap_freeze _ _ _ _ (by exact hk)]
theorem mark_run {W0 w:World} {g:Nat} (h:HasB w g 5 [.int .u8 86,.int .u8 51,.int .u8 50,.int .u8 49]) (hb:Below W0.heap.size W0 w) (hg:W0.heap.size≤g) :
    ∃ W,(convert 39 39 (.slice (some ⟨g,0,none⟩) 4 4)).run Tryz.prog w=.ok (.slice (some ⟨g,0,none⟩) 4 4) W∧(∀ A c l,RowAt w A c l→RowAt W A c l)∧Below W0.heap.size W0 W:=by
  refine ⟨w.freeze ⟨g,4,none⟩ 1,?_,fun A c l r=>?_,bel_freeze hb ⟨g,4,none⟩ hg 1⟩
  · have hsh:w.shape? g=some (5,4):=by
      unfold World.shape?
      rw [show w.heap[g]?=_ from h]
      rfl
    simp [convert,run_underlying Tryz.underlying39,run_underlying Tryz.underlying5,markStringish,hsh]
  · obtain ⟨h1,h2,h3,h4⟩:=r
    refine ⟨h1,h2,h3,fun hne=>?_⟩
    obtain ⟨x,hx,hlt,hc⟩:=h4 hne
    exact ⟨x,hx,by rw [size_freeze];exact hlt,fun i hi=>by rw [cell_freeze h];exact hc i hi⟩
theorem row_newF (w:World) (g:Nat) (L:List Int) (t:TypeId) (fz:Nat×Nat) (cs:List Value) (cap:Nat) (hg:g=w.heap.size) (hcs:cs=L.map (Value.int .u8)) (hc:L.length≤cap) (hm:cap≤65536) (hb:Bytes L):RowAt (w.alloc (.cells cs.toArray t fz)) (some ⟨g,0,none⟩) cap L:=by
  subst hg hcs
  refine ⟨hc,by unfold maxLen;omega,hb,fun _=>⟨_,rfl,by simp,fun i hi=>?_⟩⟩
  have e:(⟨w.heap.size,0,none⟩:Addr).add i=⟨w.heap.size,i,none⟩:=by unfold Addr.add;by_cases h:i=0 <;> simp [h]
  rw [e]
  have hh:(w.alloc (.cells (L.map (Value.int .u8)).toArray t fz)).heap[w.heap.size]?=some (.cells (L.map (Value.int .u8)).toArray t fz):=by
    show (w.heap.push _)[w.heap.size]?=_
    rw [Array.getElem?_push,if_pos rfl]
  unfold World.cell?
  rw [hh]
  simp [hi]
theorem RowAt.al {w:World} {A:Option Addr} {cap:Nat} {l:List Int} (r:RowAt w A cap l) (o:Obj):RowAt (w.alloc o) A cap l:=r.below (bel_al (Below.refl _ _) _)
theorem RowAt.dr {w:World} {A:Option Addr} {cap:Nat} {l:List Int} (r:RowAt w A cap l):RowAt w.drew A cap l:=r
theorem bel_dr {w a:World} (h:Below w.heap.size w a):Below w.heap.size w a.drew:=h.drew
theorem joined_five (A B:Option Addr) (c d ca cb:Nat) (C D:List Int) (hc:C.length=c) (hd:D.length=d) (h1:c≤9000) (h2:d≤9000) (w:World) (g g8 g1 g2:Nat)
    (h:HasB w g 39 [.slice (some ⟨g8,0,none⟩) 4 4,.slice (some ⟨g1,0,none⟩) 2 2,.slice (some ⟨g2,0,none⟩) 2 2,.slice A c ca,.slice B d cb])
    (r8:RowAt w (some ⟨g8,0,none⟩) 4 headL) (r1:RowAt w (some ⟨g1,0,none⟩) 2 (lenL c)) (r2:RowAt w (some ⟨g2,0,none⟩) 2 (lenL d)) (rA:RowAt w A ca C) (rB:RowAt w B cb D) :
    Calls Tryz.prog 44 #[.slice (some ⟨g,0,none⟩) 5 5] w (JoinN w (8+c+d) (bodyL C D)):=by
  have e:flat [⟨some ⟨g8,0,none⟩,4,headL⟩,⟨some ⟨g1,0,none⟩,2,lenL c⟩,⟨some ⟨g2,0,none⟩,2,lenL d⟩,⟨A,ca,C⟩,⟨B,cb,D⟩]=bodyL C D:=by simp [flat,bodyL,hc,hd]
  have hl:(bodyL C D).length=8+c+d:=by rw [bodyL_len,hc,hd]
  have:=joined_any [⟨some ⟨g8,0,none⟩,4,headL⟩,⟨some ⟨g1,0,none⟩,2,lenL c⟩,⟨some ⟨g2,0,none⟩,2,lenL d⟩,⟨A,ca,C⟩,⟨B,cb,D⟩] g 5 w rfl
    ⟨by subst hc hd;exact h,fun p hp=>by
      simp at hp
      rcases hp with rfl | rfl | rfl | rfl | rfl
      · exact r8
      · exact r1
      · exact r2
      · exact rA
      · exact rB⟩ (by rw [e,hl];omega) (by simp)
  rw [e] at this
  refine this.mono ?_
  rintro e' w' ⟨A',c',rfl,o,b⟩
  exact ⟨A',c',by rw [hl],o,b⟩
theorem joined_two (A B:Option Addr) (c d ca cb:Nat) (C D:List Int) (hc:C.length=c) (hd:D.length=d) (h1:c≤90000) (h2:d≤9000) (w:World) (g:Nat)
    (h:HasB w g 39 [.slice A c ca,.slice B d cb]) (rA:RowAt w A ca C) (rB:RowAt w B cb D) :
    Calls Tryz.prog 44 #[.slice (some ⟨g,0,none⟩) 2 2] w (JoinN w (c+d) (C ++ D)):=by
  have e:flat [⟨A,ca,C⟩,⟨B,cb,D⟩]=C ++ D:=by simp [flat]
  have hl:(C ++ D).length=c+d:=by rw [List.length_append,hc,hd]
  have:=joined_any [⟨A,ca,C⟩,⟨B,cb,D⟩] g 2 w rfl
    ⟨by subst hc hd;exact h,fun p hp=>by
      simp at hp
      rcases hp with rfl | rfl
      · exact rA
      · exact rB⟩ (by rw [e,hl];omega) (by simp)
  rw [e] at this
  refine this.mono ?_
  rintro e' w' ⟨A',c',rfl,o,b⟩
  exact ⟨A',c',by rw [hl],o,b⟩
end Go.Proofs.YteefmjhemhlapaaGreat.Mm
namespace Go.Proofs.YteefmjhemhlapaaGreat.Mm
open Go.ChangeShapes Go.WideShapes Go.ChangeAt Go.RowKit
set_option linter.unusedVariables false
set_option maxRecDepth 10000
def KeepR (w W:World):Prop:=∀ A c l,RowAt w A c l→RowAt W A c l
theorem KeepR.row {w W:World} (h:KeepR w W) {A:Option Addr} {c:Nat} {l:List Int} (r:RowAt w A c l):RowAt W A c l:=h A c l r
def LenP (w:World) (n:Nat) (e:Ending) (w':World):Prop:=∃ g,e=.returned (.slice (some ⟨g,0,none⟩) 2 2)∧RowAt w' (some ⟨g,0,none⟩) 2 (lenL n)∧Below w.heap.size w w'
theorem length_p (n:Nat) (hn:n≤65535) (w:World):Calls Tryz.prog 45 #[.int .i64 n] w (LenP w n):=by
  refine (length_any n hn w).mono ?_
  rintro e w' ⟨rfl,rfl⟩
  exact ⟨_,rfl,row_newF _ _ _ _ _ _ _ rfl rfl (Nat.le_refl 2) (by decide) (lenL_byte n hn),bel_al (Below.refl _ _) _⟩
theorem mark_p {W0 w:World} {g:Nat} (h:HasB w g 5 [.int .u8 86,.int .u8 51,.int .u8 50,.int .u8 49]) (hb:Below W0.heap.size W0 w) (hg:W0.heap.size≤g) :
    ∃ W,(convert 39 39 (.slice (some ⟨g,0,none⟩) 4 4)).run Tryz.prog w=.ok (.slice (some ⟨g,0,none⟩) 4 4) W∧KeepR w W∧Below W0.heap.size W0 W:=mark_run h hb hg
theorem row_head (w:World) (g:Nat) (t:TypeId) (fz:Nat×Nat) (hg:g=w.heap.size):RowAt (w.alloc (.cells #[.int .u8 86,.int .u8 51,.int .u8 50,.int .u8 49] t fz)) (some ⟨g,0,none⟩) 4 headL:=
  row_newF w g headL t fz _ 4 hg rfl (Nat.le_refl 4) (by decide) headL_byte
theorem box_s {W w':World} {g:Nat} {va vb:Value} (h:HasB W g 57 [va,vb]) (b:Below W.heap.size W w'):(w'.cell? ⟨g,0,none⟩=some va∧w'.cell? ⟨g,1,none⟩=some vb)∧RS W w':=
  ⟨⟨(h.below b).cell 0,(h.below b).cell 1⟩,b⟩
def LayY (w:World) (n:Nat) (L:List Int) (e:Ending) (w':World):Prop:=∃ A cap,e=.returned (.tuple #[.slice A n cap,.int .i64 0])∧Own w.heap.size w' A cap L∧Below w.heap.size w w'
def BodyC (w:World) (n:Nat) (L:List Int) (s:Value) (w':World):Prop:=∃ A cap,s=.slice A n cap∧Own w.heap.size w' A cap L∧Below w.heap.size w w'
set_option maxHeartbeats 1000000 in
theorem lay_yes (A B:Option Addr) (ca cb:Nat) (C D:List Int) (c d:Nat) (hc:C.length=c) (hd:D.length=d) (h1:c≤9000) (h2:d≤9000) (w:World) (rA:RowAt w A ca C) (rB:RowAt w B cb D) (hq:rightB c d=true) :
    Calls Tryz.prog 20 #[.agg #[.slice A c ca,.slice B d cb]] w (LayY w (12+c+d) (layL C D)):=by
  have RG:=Lib.hid (fun W=>Right_any A B c d ca cb (by unfold maxLen;omega) (by unfold maxLen;omega) W)
  rw [hq] at RG
  have bA:=rA.2.2.1
  have bB:=rB.2.2.1
  have BC:=Lib.hid (lenL_byte c (by omega))
  have BD:=Lib.hid (lenL_byte d (by omega))
  have HQ:=Lib.hid hq
  have NB:=HasB.new w 57 [.slice A c ca,.slice B d cb]
  have hb1:=bel_al (Below.refl w.heap.size w) (.cells #[.slice A c ca,.slice B d cb] 57)
  have RA:=Lib.hid (rA.below hb1)
  have RB:=Lib.hid (rB.below hb1)
  have L1:=Lib.hid (length_p c (by omega))
  have L2:=Lib.hid (length_p d (by omega))
  have J:=Lib.hid (joined_five A B c d ca cb C D hc hd h1 h2)
  have kc:=fun (w:World)=>Lib.run_convert_bytes_const (P:=Tryz.prog) w 39 5 #[.int .u8 86,.int .u8 51,.int .u8 50,.int .u8 49] 4 4 Tryz.underlying39 Tryz.underlying5
  have kd:∀ w:World,(convert 39 39 (.slice (some ⟨w.heap.size,0,none⟩) 4 4)).run Tryz.prog (w.alloc (.cells #[.int .u8 86,.int .u8 51,.int .u8 50,.int .u8 49] 5)).drew=_:=fun w=>kc w.drew
  have hc0:(c:Int)≤9000:=by omega
  have hd0:(d:Int)≤9000:=by omega
  have H1:=Lib.hid h1
  have H2:=Lib.hid h2
  clear rA rB hq h1 h2
  go_enter Tryz.func20,Tryz.ntmps20
  obtain ⟨W,hW⟩:∃ W,w.alloc (.cells #[.slice A c ca,.slice B d cb] 57)=W:=⟨_,rfl⟩
  have NBW:HasB W w.heap.size 57 [.slice A c ca,.slice B d cb]:=by rw [← hW];exact NB
  rw [hW] at RA RB hb1
  have HB1:=Lib.hid hb1
  clear NB hb1
  have k0:=NBW.cell 0
  have k1:=NBW.cell 1
  simp only [List.getElem?_cons_succ,List.getElem?_cons_zero] at k0 k1
  have NBH:=Lib.hid NBW
  clear NBW
  go_wp2_with fail
  refine (RG.out _).mono ?_;rintro e w2 ⟨rfl,hb2⟩
  have HB2:=Lib.hid (HB1.out.trans (hb2.mono HB1.out.size))
  have rA2:=RA.out.below hb2
  have rB2:=RB.out.below hb2
  have NB2:=Lib.hid (NBH.out.below hb2)
  clear hb2 k0 k1 hW RA RB RG
  go_wp2_with fail
  go_cut [4] (fun s4 wx=>BodyC w2 (8+c+d) (bodyL C D) s4 wx)
  case first=>
    refine wp_region_noPanic ?_
    refine wp_region_held_drew (S:=(fun w'=>(w'.cell? ⟨w.heap.size,0,none⟩=some (.slice A c ca)∧w'.cell? ⟨w.heap.size,1,none⟩=some (.slice B d cb))∧RS w2 w')) (by kernel_rfl) ?_ (fun hHeld=>?_)
    · (try dsimp only)
      refine box_s NB2.out ?_
      exact mB
    refine wT 2 ?_
    refine wT 3 ?_
    refine wT 4 ?_
    refine wT 6 ?_
    refine wT 7 ?_
    refine wT 8 ?_
    refine wT 10 ?_
    refine wT 11 ?_
    refine wT 12 ?_
    refine wT 13 ?_
    refine wpAnyH_ready (rs:=[0,5]) (by kernel_rfl) (by simp) ?_
    refine rC (fun K hK=>?_) ?_
    · go_simp
      refine hK.out _ _ ?_ (fun hHeld=>?_)
      · (try dsimp only)
        refine box_s NB2.out ?_
        exact mB
      clear hK K
      (try simp only [Act.put,lsA,lsZ,lsS])
      refine wpAnyH_ready (rs:=[1,5]) (by kernel_rfl) (by simp) ?_
      refine rC (fun K hK=>?_) ?_
      · go_simp
        refine hK.out _ _ ?_ (fun hHeld=>?_)
        · (try dsimp only)
          refine box_s NB2.out ?_
          exact mB
        clear hK K
        (try simp only [Act.put,lsA,lsZ,lsS])
        refine wpAnyH_ready (rs:=[5]) (by kernel_rfl) (by simp) ?_
        refine rC (fun K hK=>?_) ?_
        · go_simp
          (with_reducible refine Calls.mono (L1.out _) ?_);rintro e w13 ⟨g13,rfl,h13,hb13⟩
          go_wp2_with fail
          refine hK.out _ _ ?_ (fun hHeld=>?_)
          · (try dsimp only)
            refine box_s NB2.out ?_
            exact mB
          clear hK K
          (try simp only [Act.put,lsA,lsZ,lsS])
          refine wpAnyH_ready (rs:=[9]) (by kernel_rfl) (by simp) ?_
          refine rC (fun K hK=>?_) ?_
          · go_simp
            (with_reducible refine Calls.mono (L2.out _) ?_);rintro e w17 ⟨g17,rfl,h17,hb17⟩
            go_wp2_with fail
            refine hK.out _ _ ?_ (fun hHeld=>?_)
            · (try dsimp only)
              refine box_s NB2.out ?_
              exact mB
            clear hK K
            (try simp only [Act.put,lsA,lsZ,lsS])
            refine wpAnyH_ready (rs:=[14]) (by kernel_rfl) (by simp) ?_
            refine rC (fun K hK=>?_) ?_
            · go_simp
              refine hK.out _ _ ?_ (fun hHeld=>?_)
              · (try dsimp only)
                refine box_s NB2.out ?_
                exact mB
              clear hK K
              (try simp only [Act.put,lsA,lsZ,lsS])
              refine wpAnyH_ready (rs:=[15]) (by kernel_rfl) (by simp) ?_
              refine rC (fun K hK=>?_) ?_
              · go_simp
                (with_reducible refine Calls.mono (J.out _ _ _ _ _ (HasB.newAtI _ _ _ _ (by simp)) ?_ ?_ ?_ ?_ ?_) ?_)
                · exact mR
                · exact mR
                · exact mR
                · exact mR
                · exact mR
                rintro e w' ⟨B5,cb5,rfl,own5,hb⟩
                go_wp2_with fail
                refine hK.out _ _ ?_ (fun hHeld=>?_)
                · (try dsimp only)
                  refine box_s NB2.out ?_
                  exact mB
                clear hK K
                (try simp only [Act.put,lsA,lsZ,lsS])
                refine wT 16 ?_
                refine wpAnyH_done (by kernel_rfl) ?_ _
                refine NoPanic.normal ?_
                have OW5:=Lib.hid (own5.mono (Below.size (show Below w2.heap.size w2 _ by (repeat' first | (with_reducible assumption) | (with_reducible exact Below.refl _ _) | (with_reducible refine bel_dr ?_) | (with_reducible refine bel_al ?_ _) | (with_reducible refine bel_then ?_ (by with_reducible assumption))))))
                have BL5:Hid (Below w2.heap.size w2 w'):=Lib.hid (by (repeat' first | (with_reducible assumption) | (with_reducible exact Below.refl _ _) | (with_reducible refine bel_dr ?_) | (with_reducible refine bel_al ?_ _) | (with_reducible refine bel_then ?_ (by with_reducible assumption))))
                clear own5
                go_wp2_with fail
                go_meet
                exact ⟨B5,cb5,rfl,OW5.out,BL5.out⟩
              exact AllReadyH.nil
            exact AllReadyH.nil
          exact AllReadyH.nil
        exact AllReadyH.nil
      refine rC (fun K hK=>?_) ?_
      · go_simp
        (with_reducible refine Calls.mono (L1.out _) ?_);rintro e w13 ⟨g13,rfl,h13,hb13⟩
        go_wp2_with fail
        obtain ⟨W9,cv9,h9r,h9b⟩:=mark_p (W0:=w2) (w:=w13) (g:=w2.heap.size) (by (repeat' first | (with_reducible assumption) | ((with_reducible refine HasB.newAtI _ _ _ _ ?_);(simp;done)) | (with_reducible refine HasB.al ?_ _) | (with_reducible refine HasB.dr ?_) | (with_reducible refine HasB.below ?_ (by with_reducible assumption)))) (by (repeat' first | (with_reducible assumption) | (with_reducible exact Below.refl _ _) | (with_reducible refine bel_dr ?_) | (with_reducible refine bel_al ?_ _) | (with_reducible refine bel_then ?_ (by with_reducible assumption)))) (by exact Nat.le_refl _)
        refine hK.out _ _ ?_ (fun hHeld=>?_)
        · (try dsimp only)
          refine box_s NB2.out ?_
          exact mB
        clear hK K
        (try simp only [Act.put,lsA,lsZ,lsS])
        refine wpAnyH_ready (rs:=[1,9]) (by kernel_rfl) (by simp) ?_
        refine rC (fun K hK=>?_) ?_
        · go_simp
          refine hK.out _ _ ?_ (fun hHeld=>?_)
          · (try dsimp only)
            refine box_s NB2.out ?_
            exact mB
          clear hK K
          (try simp only [Act.put,lsA,lsZ,lsS])
          refine wpAnyH_ready (rs:=[9]) (by kernel_rfl) (by simp) ?_
          refine rC (fun K hK=>?_) ?_
          · go_simp
            (with_reducible refine Calls.mono (L2.out _) ?_);rintro e w17 ⟨g17,rfl,h17,hb17⟩
            go_wp2_with fail
            refine hK.out _ _ ?_ (fun hHeld=>?_)
            · (try dsimp only)
              refine box_s NB2.out ?_
              exact mB
            clear hK K
            (try simp only [Act.put,lsA,lsZ,lsS])
            refine wpAnyH_ready (rs:=[14]) (by kernel_rfl) (by simp) ?_
            refine rC (fun K hK=>?_) ?_
            · go_simp
              refine hK.out _ _ ?_ (fun hHeld=>?_)
              · (try dsimp only)
                refine box_s NB2.out ?_
                exact mB
              clear hK K
              (try simp only [Act.put,lsA,lsZ,lsS])
              refine wpAnyH_ready (rs:=[15]) (by kernel_rfl) (by simp) ?_
              refine rC (fun K hK=>?_) ?_
              · go_simp
                (with_reducible refine Calls.mono (J.out _ _ _ _ _ (HasB.newAtI _ _ _ _ (by simp)) ?_ ?_ ?_ ?_ ?_) ?_)
                · exact mR
                · exact mR
                · exact mR
                · exact mR
                · exact mR
                rintro e w' ⟨B5,cb5,rfl,own5,hb⟩
                go_wp2_with fail
                refine hK.out _ _ ?_ (fun hHeld=>?_)
                · (try dsimp only)
                  refine box_s NB2.out ?_
                  exact mB
                clear hK K
                (try simp only [Act.put,lsA,lsZ,lsS])
                refine wT 16 ?_
                refine wpAnyH_done (by kernel_rfl) ?_ _
                refine NoPanic.normal ?_
                have OW5:=Lib.hid (own5.mono (Below.size (show Below w2.heap.size w2 _ by (repeat' first | (with_reducible assumption) | (with_reducible exact Below.refl _ _) | (with_reducible refine bel_dr ?_) | (with_reducible refine bel_al ?_ _) | (with_reducible refine bel_then ?_ (by with_reducible assumption))))))
                have BL5:Hid (Below w2.heap.size w2 w'):=Lib.hid (by (repeat' first | (with_reducible assumption) | (with_reducible exact Below.refl _ _) | (with_reducible refine bel_dr ?_) | (with_reducible refine bel_al ?_ _) | (with_reducible refine bel_then ?_ (by with_reducible assumption))))
                clear own5
                go_wp2_with fail
                go_meet
                exact ⟨B5,cb5,rfl,OW5.out,BL5.out⟩
              exact AllReadyH.nil
            exact AllReadyH.nil
          exact AllReadyH.nil
        refine rC (fun K hK=>?_) ?_
        · go_simp
          (with_reducible refine Calls.mono (L2.out _) ?_);rintro e w17 ⟨g17,rfl,h17,hb17⟩
          go_wp2_with fail
          obtain ⟨W9,cv9,h9r,h9b⟩:=mark_p (W0:=w2) (w:=w17) (g:=w2.heap.size) (by (repeat' first | (with_reducible assumption) | ((with_reducible refine HasB.newAtI _ _ _ _ ?_);(simp;done)) | (with_reducible refine HasB.al ?_ _) | (with_reducible refine HasB.dr ?_) | (with_reducible refine HasB.below ?_ (by with_reducible assumption)))) (by (repeat' first | (with_reducible assumption) | (with_reducible exact Below.refl _ _) | (with_reducible refine bel_dr ?_) | (with_reducible refine bel_al ?_ _) | (with_reducible refine bel_then ?_ (by with_reducible assumption)))) (by exact Nat.le_refl _)
          refine hK.out _ _ ?_ (fun hHeld=>?_)
          · (try dsimp only)
            refine box_s NB2.out ?_
            exact mB
          clear hK K
          (try simp only [Act.put,lsA,lsZ,lsS])
          refine wpAnyH_ready (rs:=[1]) (by kernel_rfl) (by simp) ?_
          refine rC (fun K hK=>?_) ?_
          · go_simp
            refine hK.out _ _ ?_ (fun hHeld=>?_)
            · (try dsimp only)
              refine box_s NB2.out ?_
              exact mB
            clear hK K
            (try simp only [Act.put,lsA,lsZ,lsS])
            refine wpAnyH_ready (rs:=[14]) (by kernel_rfl) (by simp) ?_
            refine rC (fun K hK=>?_) ?_
            · go_simp
              refine hK.out _ _ ?_ (fun hHeld=>?_)
              · (try dsimp only)
                refine box_s NB2.out ?_
                exact mB
              clear hK K
              (try simp only [Act.put,lsA,lsZ,lsS])
              refine wpAnyH_ready (rs:=[15]) (by kernel_rfl) (by simp) ?_
              refine rC (fun K hK=>?_) ?_
              · go_simp
                (with_reducible refine Calls.mono (J.out _ _ _ _ _ (HasB.newAtI _ _ _ _ (by simp)) ?_ ?_ ?_ ?_ ?_) ?_)
                · exact mR
                · exact mR
                · exact mR
                · exact mR
                · exact mR
                rintro e w' ⟨B5,cb5,rfl,own5,hb⟩
                go_wp2_with fail
                refine hK.out _ _ ?_ (fun hHeld=>?_)
                · (try dsimp only)
                  refine box_s NB2.out ?_
                  exact mB
                clear hK K
                (try simp only [Act.put,lsA,lsZ,lsS])
                refine wT 16 ?_
                refine wpAnyH_done (by kernel_rfl) ?_ _
                refine NoPanic.normal ?_
                have OW5:=Lib.hid (own5.mono (Below.size (show Below w2.heap.size w2 _ by (repeat' first | (with_reducible assumption) | (with_reducible exact Below.refl _ _) | (with_reducible refine bel_dr ?_) | (with_reducible refine bel_al ?_ _) | (with_reducible refine bel_then ?_ (by with_reducible assumption))))))
                have BL5:Hid (Below w2.heap.size w2 w'):=Lib.hid (by (repeat' first | (with_reducible assumption) | (with_reducible exact Below.refl _ _) | (with_reducible refine bel_dr ?_) | (with_reducible refine bel_al ?_ _) | (with_reducible refine bel_then ?_ (by with_reducible assumption))))
                clear own5
                go_wp2_with fail
                go_meet
                exact ⟨B5,cb5,rfl,OW5.out,BL5.out⟩
              exact AllReadyH.nil
            exact AllReadyH.nil
          exact AllReadyH.nil
        exact AllReadyH.nil
      exact AllReadyH.nil
    refine rC (fun K hK=>?_) ?_
    · go_simp
      (with_reducible refine Calls.mono (L1.out _) ?_);rintro e w13 ⟨g13,rfl,h13,hb13⟩
      go_wp2_with fail
      refine hK.out _ _ ?_ (fun hHeld=>?_)
      · (try dsimp only)
        refine box_s NB2.out ?_
        exact mB
      clear hK K
      (try simp only [Act.put,lsA,lsZ,lsS])
      refine wpAnyH_ready (rs:=[0,9]) (by kernel_rfl) (by simp) ?_
      refine rC (fun K hK=>?_) ?_
      · go_simp
        refine hK.out _ _ ?_ (fun hHeld=>?_)
        · (try dsimp only)
          refine box_s NB2.out ?_
          exact mB
        clear hK K
        (try simp only [Act.put,lsA,lsZ,lsS])
        refine wpAnyH_ready (rs:=[1,9]) (by kernel_rfl) (by simp) ?_
        refine rC (fun K hK=>?_) ?_
        · go_simp
          refine hK.out _ _ ?_ (fun hHeld=>?_)
          · (try dsimp only)
            refine box_s NB2.out ?_
            exact mB
          clear hK K
          (try simp only [Act.put,lsA,lsZ,lsS])
          refine wpAnyH_ready (rs:=[9]) (by kernel_rfl) (by simp) ?_
          refine rC (fun K hK=>?_) ?_
          · go_simp
            (with_reducible refine Calls.mono (L2.out _) ?_);rintro e w17 ⟨g17,rfl,h17,hb17⟩
            go_wp2_with fail
            refine hK.out _ _ ?_ (fun hHeld=>?_)
            · (try dsimp only)
              refine box_s NB2.out ?_
              exact mB
            clear hK K
            (try simp only [Act.put,lsA,lsZ,lsS])
            refine wpAnyH_ready (rs:=[14]) (by kernel_rfl) (by simp) ?_
            refine rC (fun K hK=>?_) ?_
            · go_simp
              refine hK.out _ _ ?_ (fun hHeld=>?_)
              · (try dsimp only)
                refine box_s NB2.out ?_
                exact mB
              clear hK K
              (try simp only [Act.put,lsA,lsZ,lsS])
              refine wpAnyH_ready (rs:=[15]) (by kernel_rfl) (by simp) ?_
              refine rC (fun K hK=>?_) ?_
              · go_simp
                (with_reducible refine Calls.mono (J.out _ _ _ _ _ (HasB.newAtI _ _ _ _ (by simp)) ?_ ?_ ?_ ?_ ?_) ?_)
                · exact mR
                · exact mR
                · exact mR
                · exact mR
                · exact mR
                rintro e w' ⟨B5,cb5,rfl,own5,hb⟩
                go_wp2_with fail
                refine hK.out _ _ ?_ (fun hHeld=>?_)
                · (try dsimp only)
                  refine box_s NB2.out ?_
                  exact mB
                clear hK K
                (try simp only [Act.put,lsA,lsZ,lsS])
                refine wT 16 ?_
                refine wpAnyH_done (by kernel_rfl) ?_ _
                refine NoPanic.normal ?_
                have OW5:=Lib.hid (own5.mono (Below.size (show Below w2.heap.size w2 _ by (repeat' first | (with_reducible assumption) | (with_reducible exact Below.refl _ _) | (with_reducible refine bel_dr ?_) | (with_reducible refine bel_al ?_ _) | (with_reducible refine bel_then ?_ (by with_reducible assumption))))))
                have BL5:Hid (Below w2.heap.size w2 w'):=Lib.hid (by (repeat' first | (with_reducible assumption) | (with_reducible exact Below.refl _ _) | (with_reducible refine bel_dr ?_) | (with_reducible refine bel_al ?_ _) | (with_reducible refine bel_then ?_ (by with_reducible assumption))))
                clear own5
                go_wp2_with fail
                go_meet
                exact ⟨B5,cb5,rfl,OW5.out,BL5.out⟩
              exact AllReadyH.nil
            exact AllReadyH.nil
          exact AllReadyH.nil
        refine rC (fun K hK=>?_) ?_
        · go_simp
          (with_reducible refine Calls.mono (L2.out _) ?_);rintro e w17 ⟨g17,rfl,h17,hb17⟩
          go_wp2_with fail
          obtain ⟨W9,cv9,h9r,h9b⟩:=mark_p (W0:=w2) (w:=w17) (g:=w13.heap.size) (by (repeat' first | (with_reducible assumption) | ((with_reducible refine HasB.newAtI _ _ _ _ ?_);(simp;done)) | (with_reducible refine HasB.al ?_ _) | (with_reducible refine HasB.dr ?_) | (with_reducible refine HasB.below ?_ (by with_reducible assumption)))) (by (repeat' first | (with_reducible assumption) | (with_reducible exact Below.refl _ _) | (with_reducible refine bel_dr ?_) | (with_reducible refine bel_al ?_ _) | (with_reducible refine bel_then ?_ (by with_reducible assumption)))) (by exact Below.size (show Below w2.heap.size w2 w13 by (repeat' first | (with_reducible assumption) | (with_reducible exact Below.refl _ _) | (with_reducible refine bel_dr ?_) | (with_reducible refine bel_al ?_ _) | (with_reducible refine bel_then ?_ (by with_reducible assumption)))))
          refine hK.out _ _ ?_ (fun hHeld=>?_)
          · (try dsimp only)
            refine box_s NB2.out ?_
            exact mB
          clear hK K
          (try simp only [Act.put,lsA,lsZ,lsS])
          refine wpAnyH_ready (rs:=[1]) (by kernel_rfl) (by simp) ?_
          refine rC (fun K hK=>?_) ?_
          · go_simp
            refine hK.out _ _ ?_ (fun hHeld=>?_)
            · (try dsimp only)
              refine box_s NB2.out ?_
              exact mB
            clear hK K
            (try simp only [Act.put,lsA,lsZ,lsS])
            refine wpAnyH_ready (rs:=[14]) (by kernel_rfl) (by simp) ?_
            refine rC (fun K hK=>?_) ?_
            · go_simp
              refine hK.out _ _ ?_ (fun hHeld=>?_)
              · (try dsimp only)
                refine box_s NB2.out ?_
                exact mB
              clear hK K
              (try simp only [Act.put,lsA,lsZ,lsS])
              refine wpAnyH_ready (rs:=[15]) (by kernel_rfl) (by simp) ?_
              refine rC (fun K hK=>?_) ?_
              · go_simp
                (with_reducible refine Calls.mono (J.out _ _ _ _ _ (HasB.newAtI _ _ _ _ (by simp)) ?_ ?_ ?_ ?_ ?_) ?_)
                · exact mR
                · exact mR
                · exact mR
                · exact mR
                · exact mR
                rintro e w' ⟨B5,cb5,rfl,own5,hb⟩
                go_wp2_with fail
                refine hK.out _ _ ?_ (fun hHeld=>?_)
                · (try dsimp only)
                  refine box_s NB2.out ?_
                  exact mB
                clear hK K
                (try simp only [Act.put,lsA,lsZ,lsS])
                refine wT 16 ?_
                refine wpAnyH_done (by kernel_rfl) ?_ _
                refine NoPanic.normal ?_
                have OW5:=Lib.hid (own5.mono (Below.size (show Below w2.heap.size w2 _ by (repeat' first | (with_reducible assumption) | (with_reducible exact Below.refl _ _) | (with_reducible refine bel_dr ?_) | (with_reducible refine bel_al ?_ _) | (with_reducible refine bel_then ?_ (by with_reducible assumption))))))
                have BL5:Hid (Below w2.heap.size w2 w'):=Lib.hid (by (repeat' first | (with_reducible assumption) | (with_reducible exact Below.refl _ _) | (with_reducible refine bel_dr ?_) | (with_reducible refine bel_al ?_ _) | (with_reducible refine bel_then ?_ (by with_reducible assumption))))
                clear own5
                go_wp2_with fail
                go_meet
                exact ⟨B5,cb5,rfl,OW5.out,BL5.out⟩
              exact AllReadyH.nil
            exact AllReadyH.nil
          exact AllReadyH.nil
        exact AllReadyH.nil
      refine rC (fun K hK=>?_) ?_
      · go_simp
        (with_reducible refine Calls.mono (L2.out _) ?_);rintro e w17 ⟨g17,rfl,h17,hb17⟩
        go_wp2_with fail
        refine hK.out _ _ ?_ (fun hHeld=>?_)
        · (try dsimp only)
          refine box_s NB2.out ?_
          exact mB
        clear hK K
        (try simp only [Act.put,lsA,lsZ,lsS])
        refine wpAnyH_ready (rs:=[0]) (by kernel_rfl) (by simp) ?_
        refine rC (fun K hK=>?_) ?_
        · go_simp
          refine hK.out _ _ ?_ (fun hHeld=>?_)
          · (try dsimp only)
            refine box_s NB2.out ?_
            exact mB
          clear hK K
          (try simp only [Act.put,lsA,lsZ,lsS])
          refine wpAnyH_ready (rs:=[1]) (by kernel_rfl) (by simp) ?_
          refine rC (fun K hK=>?_) ?_
          · go_simp
            refine hK.out _ _ ?_ (fun hHeld=>?_)
            · (try dsimp only)
              refine box_s NB2.out ?_
              exact mB
            clear hK K
            (try simp only [Act.put,lsA,lsZ,lsS])
            refine wpAnyH_ready (rs:=[14]) (by kernel_rfl) (by simp) ?_
            refine rC (fun K hK=>?_) ?_
            · go_simp
              refine hK.out _ _ ?_ (fun hHeld=>?_)
              · (try dsimp only)
                refine box_s NB2.out ?_
                exact mB
              clear hK K
              (try simp only [Act.put,lsA,lsZ,lsS])
              refine wpAnyH_ready (rs:=[15]) (by kernel_rfl) (by simp) ?_
              refine rC (fun K hK=>?_) ?_
              · go_simp
                (with_reducible refine Calls.mono (J.out _ _ _ _ _ (HasB.newAtI _ _ _ _ (by simp)) ?_ ?_ ?_ ?_ ?_) ?_)
                · exact mR
                · exact mR
                · exact mR
                · exact mR
                · exact mR
                rintro e w' ⟨B5,cb5,rfl,own5,hb⟩
                go_wp2_with fail
                refine hK.out _ _ ?_ (fun hHeld=>?_)
                · (try dsimp only)
                  refine box_s NB2.out ?_
                  exact mB
                clear hK K
                (try simp only [Act.put,lsA,lsZ,lsS])
                refine wT 16 ?_
                refine wpAnyH_done (by kernel_rfl) ?_ _
                refine NoPanic.normal ?_
                have OW5:=Lib.hid (own5.mono (Below.size (show Below w2.heap.size w2 _ by (repeat' first | (with_reducible assumption) | (with_reducible exact Below.refl _ _) | (with_reducible refine bel_dr ?_) | (with_reducible refine bel_al ?_ _) | (with_reducible refine bel_then ?_ (by with_reducible assumption))))))
                have BL5:Hid (Below w2.heap.size w2 w'):=Lib.hid (by (repeat' first | (with_reducible assumption) | (with_reducible exact Below.refl _ _) | (with_reducible refine bel_dr ?_) | (with_reducible refine bel_al ?_ _) | (with_reducible refine bel_then ?_ (by with_reducible assumption))))
                clear own5
                go_wp2_with fail
                go_meet
                exact ⟨B5,cb5,rfl,OW5.out,BL5.out⟩
              exact AllReadyH.nil
            exact AllReadyH.nil
          exact AllReadyH.nil
        exact AllReadyH.nil
      exact AllReadyH.nil
    exact AllReadyH.nil
  case rest=>
    obtain ⟨A5,c5,rfl,o5,b5⟩:=hcut
    have OW5:=Lib.hid o5
    have HB5:=Lib.hid (HB2.out.trans (b5.mono HB2.out.size))
    have hbl:(bodyL C D).length=8+c+d:=by rw [bodyL_len,hc,hd]
    have HBL:=Lib.hid hbl
    have J2:=Lib.hid (fun (cb:Nat) (B:Option Addr)=>joined_two A5 B (8+c+d) 4 c5 cb (bodyL C D) (sumL (bodyL C D)) hbl rfl (by have:=H1.out;have:=H2.out;omega) (by decide))
    have E2:Hid (8+c+d+4=12+c+d):=Lib.hid (by omega)
    rw [E2.out] at J2
    clear o5 b5 rA2 rB2 kc kd hbl
    go_wp2_with fail
    refine (sum_bytes _ _ _ _ HBL.out _ OW5.out.row).mono ?_;rintro e w6 ⟨g6,c6,rfl,r6,hb6⟩
    have OW6:=Lib.hid (OW5.out.below hb6)
    have R6:=Lib.hid r6
    have HB6:=Lib.hid (bel_then HB5.out hb6)
    clear r6 hb6
    go_wp2_with fail
    refine (J2.out _ _ _ _ (HasB.newAtI _ _ _ _ (by simp)) (OW6.out.row.al _) (R6.out.al _)).mono ?_;rintro e w7 ⟨A7,c7,rfl,o7,hb7⟩
    have OW7:=Lib.hid (o7.mono (Below.size (bel_al HB6.out _)))
    have HB7:=Lib.hid (bel_then (bel_al HB6.out _) hb7)
    clear o7 hb7
    go_wp2_with fail
    go_ret2
    exact ⟨A7,c7,rfl,OW7.out,HB7.out⟩
end Go.Proofs.YteefmjhemhlapaaGreat.Mm
namespace Go.Proofs.YteefmjhemhlapaaGreat.Mm
open Go.ChangeShapes Go.WideShapes Go.ChangeAt Go.RowKit
set_option linter.unusedVariables false
set_option maxRecDepth 10000
theorem make_32 (w:World):(Instr.makeSlice 39 (.int .i64 32) (.int .i64 32)).run Tryz.prog w=.ok (.slice (some ⟨w.heap.size,0,none⟩) 32 32) (w.alloc (.cells ((List.replicate 32 (0:Int)).map (Value.int .u8)).toArray 5)):=by
  have hi:∃ i,Tryz.prog.info? 5=some i∧i.zero=some (.int .u8 0)∧i.size=1∧i.bytes=1:=by
    refine ⟨_,rfl,?_,?_,?_⟩ <;> kernel_rfl
  obtain ⟨i,hi,hz,hs,hb⟩:=hi
  have:=run_makeSlice (P:=Tryz.prog) w 39 5 i (.int .u8 0) Tryz.underlying39 hi hz .i64 .i64 32 32 (by omega) (by omega) (by rw [hs];omega) (by rw [hb];omega) (by omega)
  have e:madeCells (Value.int .u8 0).cells 32=((List.replicate 32 (0:Int)).map (Value.int .u8)).toArray:=by
    apply Array.toList_inj.1
    rw [show (Value.int .u8 0).cells=#[.int .u8 0] from rfl,toList_madeCells_one]
    simp
  rw [hs,show Int.toNat 32 * 1=32 from rfl,e] at this
  exact this
end Go.Proofs.YteefmjhemhlapaaGreat.Mm
