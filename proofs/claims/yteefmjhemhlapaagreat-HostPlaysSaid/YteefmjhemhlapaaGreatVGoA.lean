/- Merged by wip/tools/regroup: GoalOf, GoalList, GoalSearch. -/
import Derived.Test.YteefmjhemhlapaaGreatVGoalMath
import Derived.Test.YteefmjhemhlapaaGreatVRuB
import Derived.Test.YteefmjhemhlapaaGreatVWordWalks
import Derived.Test.YteefmjhemhlapaaGreatVRuA
namespace Go.Proofs.YteefmjhemhlapaaGreat.Mm
open Go.ChangeShapes Go.WideShapes Go.ChangeAt Go.RowKit
set_option linter.unusedVariables false
set_option maxRecDepth 10000
def OfR (w:World) (g:Nat) (x:InsV) (w':World):Prop:=Ins4 w' g x∧Below w.heap.size w w'
def OfS (w:World) (g:Nat) (x:InsV) (w':World):Prop:=(w'.cell? ⟨g,0,none⟩=some (.int .i64 x.op)∧w'.cell? ⟨g,3,none⟩=some (.int .u32 x.imm))∧OfR w g x w'
theorem OfR.mk {w:World} {g:Nat} {o a b n:Int} (h:Ins4 w g ⟨o,a,b,n⟩) (hb:Below w.heap.size w w):OfR w g ⟨o,a,b,n⟩ w:=⟨h,hb⟩
theorem OfR.s {w w':World} {g:Nat} {x:InsV} (k:OfR w g x w'):OfS w g x w':=⟨⟨k.1.at.c0,k.1.at.c3⟩,k⟩
theorem OfR.below {w a w':World} {g:Nat} {x:InsV} (k:OfR w g x a) (hb:Below a.heap.size a w'):OfR w g x w':=⟨k.1.below hb,bel_then k.2 hb⟩
theorem of_keep {w a w':World} {g:Nat} {x:InsV} {X:Prop} (k:X∧OfR w g x a) (hb:Below a.heap.size a w'):OfS w g x w':=(k.2.below hb).s
theorem of_keep0 {w a w':World} {g:Nat} {x:InsV} {X:Prop} (k:X∧OfR w g x a) (hb:a=w'):OfS w g x w':=by subst hb;exact k.2.s
theorem jmp_or {x:InsV} (h:jmpB x=true):x.op=19∨x.op=20:=by
  unfold jmpB at h
  simpa using h
theorem jmp_nor {x:InsV} (h:jmpB x=false):(x.op != 19)=true∧(x.op != 20)=true:=by
  unfold jmpB at h
  simpa using h
set_option maxHeartbeats 4000000 in
theorem Of_no (p:Nat) (x:InsV) (h:jmpB x=false) (w:World):Calls Tryz.prog 112 #[.int .i64 p,x.agg] w fun e w'=>e=.returned (.tuple #[.int .i64 0,.bool false])∧Below w.heap.size w w':=by
  obtain ⟨h1,h2⟩:=jmp_nor h
  obtain ⟨o,y,z,n⟩:=x
  unfold InsV.agg
  dsimp only at h1 h2 ⊢
  clear h
  go_enter Tryz.func112,Tryz.ntmps112
  go_wp2
  go_ret2
  exact ⟨rfl,bel_al (Below.refl _ _) _⟩
set_option maxHeartbeats 1000000 in
theorem of_yes (o:Int) (ho:o=19∨o=20) (p:Nat) (a b n:Int) (s t:Int) (g1:IntKind.i64.wrap ((p:Int)+s)=(p:Int)+s) (g2:IntKind.i64.wrap ((p:Int)+s+t)=(p:Int)+s+t)
    (C1:Hid (∀ w:World,Calls Tryz.prog 130 #[.agg #[.int .i64 o,.int .i64 a,.int .i64 b,.int .u32 n]] w fun e w'=>e=.returned (.bool true)∧Below w.heap.size w w'))
    (C2:Hid (∀ w:World,Calls Tryz.prog 131 #[.int .i64 o] w fun e w'=>e=.returned (.int .i64 s)∧Below w.heap.size w w'))
    (C3:Hid (∀ w:World,Calls Tryz.prog 132 #[.int .u32 n] w fun e w'=>e=.returned (.int .i64 t)∧w=w')) (w:World) :
    Calls Tryz.prog 112 #[.int .i64 p,.agg #[.int .i64 o,.int .i64 a,.int .i64 b,.int .u32 n]] w fun e w'=>e=.returned (.tuple #[.int .i64 ((p:Int)+s+t),.bool true])∧Below w.heap.size w w':=by
  have X0:=Lib.hid (Ins4.new w ⟨o,a,b,n⟩)
  have B0:=Lib.hid (bel_al (Below.refl w.heap.size w) (.cells #[.int .i64 o,.int .i64 a,.int .i64 b,.int .u32 n] 134))
  rcases ho with rfl | rfl
  · go_enter Tryz.func112,Tryz.ntmps112
    go_wp2_with fail
    refine (C1.out _).mono ?_;rintro e w1 ⟨rfl,hb1⟩
    have X1:=Lib.hid (X0.out.below hb1)
    have B1:=Lib.hid (bel_then B0.out hb1)
    clear hb1 X0 B0
    generalize hg:w.heap.size=g at *
    have HG:=Lib.hid hg
    clear hg
    have K:=Lib.hid (OfR.mk (w:=w1) X1.out (Below.refl _ _))
    go_wp2_with fail
    go_region_held3 (fun w'=>(w'.cell? ⟨g,0,none⟩=some (.int .i64 19)∧w'.cell? ⟨g,3,none⟩=some (.int .u32 n))∧OfR w1 g ⟨19,a,b,n⟩ w')
      (first | exact OfR.s K.out | exact OfR.s (OfR.below K.out (below_drew1 (Below.refl _ _))) | exact of_keep ‹_∧OfR _ _ _ _› hb | exact of_keep0 ‹_∧OfR _ _ _ _› hb)
      (first | (go_at_call 131;(with_reducible refine (C2.out _).mono ?_);rintro e w' ⟨rfl,hb⟩) | (go_at_call 132;(with_reducible refine (C3.out _).mono ?_);rintro e w' ⟨rfl,hb⟩))
    rename_i hh
    obtain ⟨_,K2⟩:=hh
    go_wp2
    go_ret2
    have B2:=B1.out
    rw [← HG.out] at B2
    exact ⟨rfl,bel_then B2 K2.2⟩
  · go_enter Tryz.func112,Tryz.ntmps112
    go_wp2_with fail
    refine (C1.out _).mono ?_;rintro e w1 ⟨rfl,hb1⟩
    have X1:=Lib.hid (X0.out.below hb1)
    have B1:=Lib.hid (bel_then B0.out hb1)
    clear hb1 X0 B0
    generalize hg:w.heap.size=g at *
    have HG:=Lib.hid hg
    clear hg
    have K:=Lib.hid (OfR.mk (w:=w1) X1.out (Below.refl _ _))
    go_wp2_with fail
    go_region_held3 (fun w'=>(w'.cell? ⟨g,0,none⟩=some (.int .i64 20)∧w'.cell? ⟨g,3,none⟩=some (.int .u32 n))∧OfR w1 g ⟨20,a,b,n⟩ w')
      (first | exact OfR.s K.out | exact OfR.s (OfR.below K.out (below_drew1 (Below.refl _ _))) | exact of_keep ‹_∧OfR _ _ _ _› hb | exact of_keep0 ‹_∧OfR _ _ _ _› hb)
      (first | (go_at_call 131;(with_reducible refine (C2.out _).mono ?_);rintro e w' ⟨rfl,hb⟩) | (go_at_call 132;(with_reducible refine (C3.out _).mono ?_);rintro e w' ⟨rfl,hb⟩))
    rename_i hh
    obtain ⟨_,K2⟩:=hh
    go_wp2
    go_ret2
    have B2:=B1.out
    rw [← HG.out] at B2
    exact ⟨rfl,bel_then B2 K2.2⟩
theorem Of_yes (p:Nat) (hp:p≤100000) (x:InsV) (hx:x.Ok) (h:jmpB x=true) (w:World):Calls Tryz.prog 112 #[.int .i64 p,x.agg] w fun e w'=>e=.returned (.tuple #[.int .i64 (goalV (p,x)),.bool true])∧Below w.heap.size w w':=by
  have h1:=size_bd x.op
  have h2:=sign_bd x.imm
  exact of_yes x.op (jmp_or h) p x.a x.b x.imm _ _ (IntWalk.i64_in _ (by omega)) (IntWalk.i64_in _ (by omega)) (Lib.hid (right_ok hx)) (Lib.hid (fun w'=>Go.Proofs.YteefmjhemhlapaaGreat.Size_any x.op w')) (Lib.hid (fun w'=>Go.Proofs.YteefmjhemhlapaaGreat.sign_any x.imm w')) w
theorem Of_any (p:Nat) (hp:p≤100000) (x:InsV) (hx:x.Ok) (w:World):Calls Tryz.prog 112 #[.int .i64 p,x.agg] w fun e w'=>e=.returned (.tuple #[.int .i64 (if jmpB x=true then goalV (p,x) else 0),.bool (jmpB x)])∧Below w.heap.size w w':=by
  cases h:jmpB x
  · exact Of_no p x h w
  · exact Of_yes p hp x hx h w
end Go.Proofs.YteefmjhemhlapaaGreat.Mm
namespace Go.Proofs.YteefmjhemhlapaaGreat.Mm
open Go.ChangeShapes Go.WideShapes Go.ChangeAt Go.RowKit
set_option linter.unusedVariables false
set_option maxRecDepth 10000
def GoR (w:World) (g:Nat) (sv:Value) (ps:Addr) (P:Int) (h:Nat) (x:InsV) (w':World):Prop:=w'.cell? ⟨g,1,none⟩=some sv∧w'.cell? ps=some (.int .i64 P)∧Ins4 w' h x∧Below w.heap.size w w'
def GoS (w:World) (g:Nat) (sv:Value) (ps:Addr) (P:Int) (h:Nat) (x:InsV) (w':World):Prop:=
  (w'.cell? ⟨g,1,none⟩=some sv∧w'.cell? ps=some (.int .i64 P)∧w'.cell? ⟨h,0,none⟩=some (.int .i64 x.op)∧w'.cell? ⟨h,1,none⟩=some (.int .i64 x.a)∧w'.cell? ⟨h,2,none⟩=some (.int .i64 x.b)∧w'.cell? ⟨h,3,none⟩=some (.int .u32 x.imm))∧GoR w g sv ps P h x w'
theorem GoR.s {w w':World} {g h:Nat} {sv:Value} {ps:Addr} {P:Int} {x:InsV} (k:GoR w g sv ps P h x w'):GoS w g sv ps P h x w':=⟨⟨k.1,k.2.1,k.2.2.1.at.c0,k.2.2.1.at.c1,k.2.2.1.at.c2,k.2.2.1.at.c3⟩,k⟩
theorem GoR.below {w a w':World} {g h:Nat} {sv:Value} {ps:Addr} {P:Int} {x:InsV} (cv:g < w.heap.size∧ps.block < w.heap.size) (k:GoR w g sv ps P h x a) (hb:Below a.heap.size a w'):GoR w g sv ps P h x w':=
  ⟨(hb.cell (p:=⟨g,1,none⟩) (Nat.lt_of_lt_of_le cv.1 k.2.2.2.size)).trans k.1,(hb.cell (Nat.lt_of_lt_of_le cv.2 k.2.2.2.size)).trans k.2.1,k.2.2.1.below hb,bel_then k.2.2.2 hb⟩
theorem go_keep {w a w':World} {g h:Nat} {sv:Value} {ps:Addr} {P:Int} {x:InsV} {X:Prop} (cv:g < w.heap.size∧ps.block < w.heap.size) (k:X∧GoR w g sv ps P h x a) (hb:Below a.heap.size a w'):GoS w g sv ps P h x w':=(k.2.below cv hb).s
theorem hasb_al {w:World} {g:Nat} {t:TypeId} {cs:List Value} (h:HasB w g t cs) (o:Obj):HasB (w.alloc o) g t cs:=h.below (bel_al (Below.refl _ _) _)
theorem hasb_app {W W':World} {g:Nat} {t e:TypeId} {cs:List Value} (h:HasB W g t cs) {base size n:Nat} {v:Value} {xs:List Value} (o:W.ownsRow base e size v n xs) (hne:t≠e) (hg:W.grownBy W' v.ownBlock):HasB W' g t cs:=by
  refine (hg.block g h.lt ?_).trans h
  intro e
  rcases o.2 with ⟨rfl,_⟩ | ⟨g2,cap,cur,rfl,_,hgb,_⟩
  · simp [Value.ownBlock] at e
  · simp [Value.ownBlock] at e
    subst e
    have h2:W.heap[g]?=some (.cells cs.toArray t (0,0)):=h
    rw [h2] at hgb
    simp at hgb
    exact hne hgb.2
set_option maxRecDepth 10000 in
set_option maxHeartbeats 2000000 in
theorem goals_any (A1 A2:Option Addr) (c1 c2:Nat) (v3:Value) (L:List (Nat×InsV)) (z:Nat) (hz:L.length=z) (hz2:z≤4096) (HO:∀ k,k < L.length→(L.getD k dfl).2.Ok) (HP:∀ k,k < L.length→(L.getD k dfl).1≤100000)
    (w:World) (r1:InsRow w A1 c1 (insI L)) (r2:IntRow w A2 c2 (posI L)) :
    Calls Tryz.prog 92 #[.agg #[.slice A1 z c1,.slice A2 z c2,v3]] w fun e w'=>∃ A c,e=.returned (.slice A (goalL L).length c)∧IntRow w' A c (goalL L)∧Below w.heap.size w w':=by
  have HZ:=Lib.hid hz
  have R1:=Lib.hid r1
  have R2:=Lib.hid r2
  have HOK:=Lib.hid HO
  have HPL:=Lib.hid HP
  have X0:=Lib.hid (HasB.new w 154 [.slice A1 z c1,.slice A2 z c2,v3])
  have B0:=Lib.hid (bel_al (Below.refl w.heap.size w) (.cells #[.slice A1 z c1,.slice A2 z c2,v3] 154))
  have PL:=Lib.hid (posI_len L)
  have IL:=Lib.hid (insI_len L)
  clear r1 r2 hz HO HP
  go_enter Tryz.func92,Tryz.ntmps92
  go_wp2
  go_loopw [3,11] (fun v i wr=>∃ (k m:Nat),i=.int .i64 k∧k≤z∧m≤k∧Hid (m=(goalL (L.take k)).length)∧Hid (wr.ownsRow w.heap.size 3 1 v m ((goalL (L.take k)).map (Value.int .i64)))∧Hid (HasB wr w.heap.size 154 [.slice A1 z c1,.slice A2 z c2,v3])∧Hid (Below w.heap.size w wr)) (fun _ i _=>z - (intOf i).toNat)
  case atStart=>exact ⟨0,0,rfl,Nat.zero_le _,Nat.zero_le _,Lib.hid rfl,Lib.hid (World.ownsRow_nil _ _ _ _),X0,B0⟩
  case round=>
    obtain ⟨k,m,rfl,hk,hm,HM,O1,HX,HB⟩:=hrel
    by_cases hlt:k < z
    · have hkL:k < L.length:=by rw [HZ.out];exact hlt
      obtain ⟨x,rfl,hxb,hc⟩:=(R2.out.below HB.out).2.2 (by intro e;have:=PL.out;rw [e] at this;simp at this;omega)
      obtain ⟨y,rfl,hyb,hd⟩:=(R1.out.below HB.out).2.2.2 (by intro e;have:=IL.out;rw [e] at this;simp at this;omega)
      have e1:=hc k (by rw [PL.out];exact hkL)
      rw [pos_at hkL] at e1
      have PX:=Lib.hid (hd k (by rw [IL.out];exact hkL))
      rw [ins_at hkL] at PX
      have hP:=HPL.out k hkL
      have HOX:=Lib.hid (HOK.out k hkL)
      have GY:=Lib.hid (fun h=>@goal_yes L k hkL h)
      have GN:=Lib.hid (fun h=>@goal_no L k hkL h)
      rw [show L.getD k dfl=((L.getD k dfl).1,(L.getD k dfl).2) from rfl] at GY GN
      clear hc hd hkL
      generalize (L.getD k dfl).1=P at *
      generalize (L.getD k dfl).2=u at *
      generalize goalL (L.take k)=F at *
      have HOF:=Lib.hid (Of_any P hP u HOX.out)
      have hw0:=HB.out.size
      have K:=Lib.hid (show GoR (wr.alloc (.cells #[.int .i64 u.op,.int .i64 u.a,.int .i64 u.b,.int .u32 u.imm] 134)) w.heap.size (.slice (some x) z c2) (x.add k) P wr.heap.size u (wr.alloc (.cells #[.int .i64 u.op,.int .i64 u.a,.int .i64 u.b,.int .u32 u.imm] 134)) from
        ⟨(hasb_al HX.out _).cell 1,((bel_al (Below.refl _ wr) _).cell (by rw [block_add];exact hxb)).trans e1,Ins4.new wr u,Below.refl _ _⟩)
      have CK:=Lib.hid (show w.heap.size < (wr.alloc (.cells #[.int .i64 u.op,.int .i64 u.a,.int .i64 u.b,.int .u32 u.imm] 134)).heap.size∧(x.add k).block < (wr.alloc (.cells #[.int .i64 u.op,.int .i64 u.a,.int .i64 u.b,.int .u32 u.imm] 134)).heap.size from
        ⟨(hasb_al HX.out _).lt,by rw [block_add,World.size_alloc];omega⟩)
      have X1:=Lib.hid (hasb_al HX.out (.cells #[.int .i64 u.op,.int .i64 u.a,.int .i64 u.b,.int .u32 u.imm] 134))
      have O2:=Lib.hid (own_al O1.out (.cells #[.int .i64 u.op,.int .i64 u.a,.int .i64 u.b,.int .u32 u.imm] 134))
      have B1:=Lib.hid (bel_al HB.out (.cells #[.int .i64 u.op,.int .i64 u.a,.int .i64 u.b,.int .u32 u.imm] 134))
      obtain ⟨p0,p1,p2,p3⟩:=PX.out
      unfold InsV.agg at HOF
      generalize hW:wr.alloc (.cells #[.int .i64 u.op,.int .i64 u.a,.int .i64 u.b,.int .u32 u.imm] 134)=W1 at *
      generalize hg:w.heap.size=g at *
      have HG:=Lib.hid hg
      clear hg
      have HQ:Hid (jmpB u=true→(if jmpB u=true then goalV (P,u) else 0)=goalV (P,u)):=Lib.hid (fun h=>by rw [if_pos h])
      generalize (if jmpB u=true then goalV (P,u) else 0)=G at *
      generalize jmpB u=q at *
      go_wp2_with fail
      go_region_held3 (fun w'=>(w'.cell? ⟨g,1,none⟩=some (.slice (some x) z c2)∧w'.cell? (x.add k)=some (.int .i64 (P:Int))∧w'.cell? ⟨wr.heap.size,0,none⟩=some (.int .i64 u.op)∧w'.cell? ⟨wr.heap.size,1,none⟩=some (.int .i64 u.a)∧w'.cell? ⟨wr.heap.size,2,none⟩=some (.int .i64 u.b)∧w'.cell? ⟨wr.heap.size,3,none⟩=some (.int .u32 u.imm))∧GoR W1 g (.slice (some x) z c2) (x.add k) P wr.heap.size u w')
        (first | exact GoR.s K.out | exact GoR.s (GoR.below CK.out K.out (below_drew1 (Below.refl _ _))) | exact go_keep CK.out ‹_∧GoR _ _ _ _ _ _ _ _› hb)
        (first | (go_at_call 112;(with_reducible refine (HOF.out _).mono ?_);rintro e w' ⟨rfl,hb⟩))
      rename_i hh
      obtain ⟨_,K2⟩:=hh
      have bw:=K2.2.2.2
      have X2:=Lib.hid (X1.out.below bw)
      have O3:=Lib.hid (own_below O2.out bw)
      have B2:=Lib.hid (B1.out.trans (bw.mono (Nat.le_of_lt CK.out.1)))
      clear K2 bw K HOF p0 p1 p2 p3 hW X0 B0 hb
      cases q
      · have HF:=Lib.hid (GN.out rfl)
        clear GY GN HQ
        go_wp2
        go_roundw
        case rel=>exact ⟨k+1,m,by go_num,by omega,by omega,by rw [HF.out];exact HM,by rw [HF.out];exact O3,X2,B2⟩
        case measure=>simp [intOf];omega
      · have HF:=Lib.hid (GY.out rfl)
        have hG:=HQ.out rfl
        subst hG
        clear GY GN HQ
        have B3:=Lib.hid (bel_al (Below.refl w'.heap.size w') (.cells #[.int .i64 (goalV (P,u))] 3))
        have hgs:=B2.out.size
        rw [HG.out] at hgs
        go_wp2_with (first
          | (at_builtin
             refine append_int rfl (.tmp 27) (.tmp 29) rfl g u3 m F rfl (own_al O3.out _) w'.heap.size 1 (goalV (P,u)) rfl (one_new _ _ _) (m+1) rfl (by omega) (by simp;omega) ?_
             intro A7 c7 w7 own7 grown7 row7 bel7
             have S2:=Lib.hid own7
             have X7:=Lib.hid ((hasb_app (hasb_al X2.out _) (own_al O3.out _) (by decide) grown7))
             have B7:=Lib.hid ((B2.out.trans (B3.out.mono hgs)).trans bel7)
             clear own7 grown7 row7 bel7))
        go_roundw
        case rel=>exact ⟨k+1,m+1,by go_num,by omega,by omega,Lib.hid (by rw [HF.out,List.length_append,← HM.out];rfl),Lib.hid (by rw [HF.out];exact S2.out),X7,B7⟩
        case measure=>simp [intOf];omega
    · obtain rfl:k=z:=by omega
      obtain ⟨A4,c4,rfl,hml,i4⟩:=int_of_own O1.out
      rw [← HZ.out,goal_all] at hml i4
      subst hml
      clear HM O1
      go_wp2
      go_ret
      exact ⟨A4,c4,rfl,i4,HB.out⟩
end Go.Proofs.YteefmjhemhlapaaGreat.Mm
namespace Go.Proofs.YteefmjhemhlapaaGreat.Mm
open Go.ChangeShapes Go.WideShapes Go.ChangeAt Go.RowKit
set_option linter.unusedVariables false
set_option maxRecDepth 10000
theorem isnan_any (x:Int) (w:World):Calls Tryz.prog 129 #[.int .i64 x] w fun e w'=>e=.returned (.bool false)∧w=w':=by
  go_enter Tryz.func129,Tryz.ntmps129
  go_wp2
  go_ret
  exact ⟨by simp,rfl⟩
theorem cisnan_any (x:Int) (w:World):Calls Tryz.prog 141 #[.int .i64 x] w fun e w'=>e=.returned (.bool false)∧w=w':=by
  go_enter Tryz.func141,Tryz.ntmps141
  go_wp2
  go_ret
  exact ⟨by simp,rfl⟩
theorem less_any (x y:Int) (w:World):Calls Tryz.prog 128 #[.int .i64 x,.int .i64 y] w fun e w'=>e=.returned (.bool (decide (x < y)))∧w=w':=by
  have C1:=Lib.hid (cisnan_any x)
  go_enter Tryz.func128,Tryz.ntmps128
  go_wp2_with fail
  refine (C1.out _).mono ?_;rintro e w1 ⟨rfl,rfl⟩
  go_wp2
  go_ret
  exact ⟨rfl,rfl⟩
def SeaI (l:List Int) (x:Int) (lo hi:Nat):Prop:=(∀ j,j < lo→l.getD j 0 < x)∧(∀ j,hi≤j→j < l.length→x≤l.getD j 0)
theorem seaI_0 (l:List Int) (x:Int) (n:Nat) (hn:l.length=n):SeaI l x 0 n:=⟨fun j h=>by omega,fun j h1 h2=>by omega⟩
theorem rise_at {l:List Int} (h:l.Pairwise (·≤·)) {i j:Nat} (hij:i≤j) (hj:j < l.length):l.getD i 0≤l.getD j 0:=by
  have hi:i < l.length:=by omega
  simp only [List.getD,List.getElem?_eq_getElem hi,List.getElem?_eq_getElem hj,Option.getD_some]
  rcases Nat.lt_or_ge i j with hlt | hge
  · exact List.pairwise_iff_getElem.1 h i j hi hj hlt
  · have:i=j:=by omega
    subst this;exact Int.le_refl _
theorem seaI_lo {l:List Int} (h:l.Pairwise (·≤·)) {x:Int} {lo hi m:Nat} (I:SeaI l x lo hi) (hm:m < l.length) (hx:l.getD m 0 < x):SeaI l x (m+1) hi:=
  ⟨fun j hj=>by have:=rise_at h (show j≤m by omega) hm;omega,I.2⟩
theorem seaI_hi {l:List Int} (h:l.Pairwise (·≤·)) {x:Int} {lo hi m:Nat} (I:SeaI l x lo hi) (hx:x≤l.getD m 0):SeaI l x lo m:=
  ⟨I.1,fun j h1 h2=>by have:=rise_at h h1 h2;omega⟩
theorem mem_getI {l:List Int} {x:Int}:x∈l↔∃ j,j < l.length∧l.getD j 0=x:=by
  rw [List.mem_iff_getElem]
  constructor
  · rintro ⟨j,hj,rfl⟩;exact ⟨j,hj,by simp [List.getD,hj]⟩
  · rintro ⟨j,hj,rfl⟩;exact ⟨j,hj,by simp [List.getD,hj]⟩
theorem seaI_end {l:List Int} (h:l.Pairwise (·≤·)) {x:Int} {i:Nat} (I:SeaI l x i i):decide (x∈l)=decide (i < l.length∧l.getD i 0=x):=by
  rw [decide_eq_decide,mem_getI]
  constructor
  · rintro ⟨j,hj,rfl⟩
    rcases Nat.lt_or_ge j i with hlt | hge
    · have:=I.1 j hlt;omega
    · have h1:=I.2 i (Nat.le_refl _) (by omega)
      have h2:=rise_at h hge hj
      exact ⟨by omega,by omega⟩
  · rintro ⟨h1,h2⟩;exact ⟨i,h1,h2⟩
set_option maxHeartbeats 2000000 in
theorem search_any (A:Option Addr) (c n:Nat) (l:List Int) (hn:l.length=n) (hb:n≤100000) (h:l.Pairwise (·≤·)) (x:Int) (w:World) (r:IntRow w A c l) :
    Calls Tryz.prog 110 #[.slice A n c,.int .i64 x] w fun e w'=>∃ i:Int,e=.returned (.tuple #[.int .i64 i,.bool (decide (x∈l))])∧∃ q,w'=w.drewN q:=by
  have HS:=Lib.hid (fun lo hi m (I:SeaI l x lo hi) (hm:m < l.length) (hx:l.getD m 0 < x)=>seaI_lo h I hm hx)
  have HT:=Lib.hid (fun lo hi m (I:SeaI l x lo hi) (hx:x≤l.getD m 0)=>seaI_hi h I hx)
  have HE:=Lib.hid (fun i (I:SeaI l x i i)=>seaI_end h I)
  have H0:=Lib.hid (seaI_0 l x n hn)
  have HN:=Lib.hid hn
  have R:=Lib.hid r
  have CL:=Lib.hid (fun y=>less_any y x)
  have CN:=Lib.hid (fun y=>isnan_any y)
  clear h r hn
  generalize decide (x∈l)=q at *
  go_enter Tryz.func110,Tryz.ntmps110
  go_wp2
  go_loopw [7,8] (fun i j wr=>∃ (lo hi:Nat),i=.int .i64 lo∧j=.int .i64 hi∧lo≤hi∧hi≤n∧Hid (SeaI l x lo hi)∧Hid (∃ q,wr=w.drewN q)) (fun i j _=>(intOf j).toNat - (intOf i).toNat)
  case atStart=>exact ⟨0,n,rfl,rfl,Nat.zero_le _,Nat.le_refl _,H0,Lib.hid ⟨0,rfl⟩⟩
  case round=>
    obtain ⟨lo,hi,rfl,rfl,hlh,hhn,HI,HB⟩:=hrel
    by_cases hlt:lo < hi
    · obtain ⟨m,hm⟩:∃ m:Nat,m=(lo+hi) / 2:=⟨_,rfl⟩
      have BB:Below w.heap.size w wr:=by obtain ⟨q,e⟩:=HB.out;rw [e];exact below_drewN (Below.refl _ w) q
      obtain ⟨p,rfl,hpb,hc⟩:=(R.out.below BB).2.2 (by intro e;have:=HN.out;rw [e] at this;simp at this;omega)
      clear BB
      have e1:=hc m (by rw [HN.out];omega)
      have m1:((lo:Int)+(hi:Int)) / 2=(m:Int):=by omega
      have hmn:m < n:=by omega
      have HA:=Lib.hid (HS.out lo hi m HI.out (by rw [HN.out];exact hmn))
      have HC:=Lib.hid (HT.out lo hi m HI.out)
      have h1:lo≤m:=by omega
      have h2:m < hi:=by omega
      clear hc hm
      generalize l.getD m 0=y at *
      have CY:=Lib.hid (CL.out y)
      cases hq:decide (y < x)
      · rw [hq] at CY
        go_wp2_with fail
        refine (CY.out _).mono ?_;rintro e w1 ⟨rfl,rfl⟩
        go_wp2
        go_roundw
        case rel=>exact ⟨lo,m,rfl,rfl,by omega,by omega,Lib.hid (HC.out (by simpa using hq)),HB⟩
        case measure=>simp [intOf];omega
      · rw [hq] at CY
        go_wp2_with fail
        refine (CY.out _).mono ?_;rintro e w1 ⟨rfl,rfl⟩
        go_wp2
        go_roundw
        case rel=>exact ⟨m+1,hi,by go_num,rfl,by omega,by omega,Lib.hid (HA.out (by simpa using hq)),HB⟩
        case measure=>simp [intOf];omega
    · obtain rfl:lo=hi:=by omega
      have hE:=HE.out lo HI.out
      rw [HN.out] at hE
      by_cases hlt:lo < n
      · have BB:Below w.heap.size w wr:=by obtain ⟨q,e⟩:=HB.out;rw [e];exact below_drewN (Below.refl _ w) q
        obtain ⟨p,rfl,hpb,hc⟩:=(R.out.below BB).2.2 (by intro e;have:=HN.out;rw [e] at this;simp at this;omega)
        clear BB
        have e1:=hc lo (by rw [HN.out];exact hlt)
        clear hc HI HS HT
        generalize l.getD lo 0=y at *
        have CY:=Lib.hid (CN.out y)
        by_cases hy:y=x
        · obtain rfl:q=true:=by rw [hE];exact decide_eq_true ⟨hlt,hy⟩
          clear hE
          go_wp2_with fail
          go_ret2
          exact ⟨_,rfl,HB.out⟩
        · obtain rfl:q=false:=by rw [hE];exact decide_eq_false fun h=>hy h.2
          clear hE
          have hy2:(y == x)=false:=by simpa using hy
          go_wp2_with fail
          refine (CY.out _).mono ?_;rintro e w1 ⟨rfl,rfl⟩
          go_wp2
          go_ret2
          exact ⟨_,rfl,HB.out⟩
      · obtain rfl:q=false:=by rw [hE];exact decide_eq_false fun h=>hlt h.1
        clear hE HI HS HT
        go_wp2_with fail
        go_ret2
        exact ⟨_,rfl,HB.out⟩
theorem among_any (A:Option Addr) (c n:Nat) (l:List Int) (hn:l.length=n) (hb:n≤100000) (h:l.Pairwise (·≤·)) (x:Int) (w:World) (r:IntRow w A c l) :
    Calls Tryz.prog 90 #[.slice A n c,.int .i64 x] w fun e w'=>e=.returned (.bool (decide (x∈l)))∧∃ q,w'=w.drewN q:=by
  have C:=Lib.hid (search_any A c n l hn hb h x w r)
  clear h r hn
  generalize decide (x∈l)=q at *
  go_enter Tryz.func90,Tryz.ntmps90
  go_wp2_with fail
  refine C.out.mono ?_;rintro e w1 ⟨i,rfl,hb1⟩
  go_wp2
  go_ret
  exact ⟨rfl,hb1⟩
end Go.Proofs.YteefmjhemhlapaaGreat.Mm
