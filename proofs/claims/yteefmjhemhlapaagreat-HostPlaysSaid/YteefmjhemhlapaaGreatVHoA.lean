/- A host whose one sandbox is laid anew, or struck. -/
import Derived.Test.YteefmjhemhlapaaGreatVBxS
import Derived.Test.YteefmjhemhlapaaGreatVBaM
import Derived.Test.YteefmjhemhlapaaGreatVBxT
import Derived.Test.YteefmjhemhlapaaGreatVVeC
import Derived.Test.YteefmjhemhlapaaGreatVSlR
import Derived.Maps.Range
namespace Go.Proofs.YteefmjhemhlapaaGreat.Mm
open Go.RowKit
set_option linter.unusedVariables false
open Go.ChangeShapes Go.WideShapes Go.ChangeAt Go.RowKit Go.ChangeMaps
open Go.ChangeShapes Go.WideShapes Go.ChangeAt Go.RowKit
set_option linter.unusedSimpArgs false
set_option maxRecDepth 10000
set_option maxHeartbeats 4000000

structure RgW (T:List Bool) (lo hi:Nat):Prop where
  wh:∀ (x:Int) (n:Nat),0 < n→(lo:Int)≤x→x < hi→wholeB T x n=decide (x+n≤hi)
  top:hi≤64 * T.length
  le:lo≤hi
theorem RgT.w {T:List Bool} {lo hi:Nat} (h:RgT T lo hi):RgW T lo hi:=
  ⟨fun x n hn h1 h2=>by
    rw [h.wh x n hn]
    by_cases h3:x+n≤(hi:Int)
    · rw [decide_eq_true h3,decide_eq_true ⟨h1,h3⟩]
    · rw [decide_eq_false h3,decide_eq_false (fun h=>h3 h.2)],h.top,h.le⟩
theorem rgW_of {T:List Bool} {a k:Nat} (hl:a+k≤T.length) (h1:∀ i,a≤i→i < a+k→T.getD i false=true) (h2:T.getD (a+k) false=false):RgW T (64 * a) (64 * (a+k)):=by
  refine ⟨fun x n hn hx1 hx2=>?_,by omega,by omega⟩
  obtain ⟨y,rfl⟩:∃ y:Nat,x=y:=⟨x.toNat,by omega⟩
  unfold wholeB
  by_cases h3:(y:Int)+n≤((64 * (a+k):Nat):Int)
  · rw [decide_eq_true h3,(liesB_iff _ _ _).2 ⟨by omega,by omega,by push_cast;omega⟩,Bool.true_and,Int.toNat_natCast,Int.toNat_natCast,thr_iff]
    intro i hi
    exact h1 _ (by omega) (by omega)
  · rw [decide_eq_false h3]
    cases hL:liesB (64 * T.length) (y:Int) (n:Int)
    · rfl
    · rw [Bool.true_and,Int.toNat_natCast,Int.toNat_natCast]
      cases ht:thr T y n
      · rfl
      · rw [thr_iff] at ht
        have:=ht (64 * (a+k) - y) (by omega)
        rw [show (y+(64 * (a+k) - y)) / 64=a+k by omega,h2] at this
        cases this
section
variable {code:List Int} {base half z:Nat} {B0 B:List Int} {T T':List Bool} {c:Cp}
theorem fet_loc (R:Regn code base half z B0) (I:SafeI code base half B0 c B) (H:RgW T base (base+2 * half)):codeL B T c.pc=codeL B (List.replicate z true) c.pc:=by
  obtain ⟨p,hp,hlt,_⟩:=I.pc
  have h0:=R.h0
  have hN:=R.hN
  have e1:fet T c.pc 6=6:=by
    unfold fet
    rw [if_pos]
    rw [H.wh c.pc (5+1) (by omega) (by omega) (by omega)]
    exact decide_eq_true (by omega)
  have e2:fet (List.replicate z true) c.pc 6=6:=by
    rw [show c.pc=((base+p:Nat):Int) by rw [hp];push_cast;rfl]
    exact fet_all z (base+p) (by omega)
  unfold codeL
  rw [e1,e2]
theorem use_loc (R:Regn code base half z B0) (I:SafeI code base half B0 c B) {op a b imm n:Int} (h:Rd (codeL B (List.replicate z true) c.pc) op a b imm n):(op=15→UpV base half (c.reg b))∧(op=16→UpV base half (c.reg a)):=by
  obtain ⟨p,hp,hlt,hcase⟩:=I.pc
  have hB:B.length=64 * z:=I.len.trans R.hl
  have hN:=R.hN
  rcases hcase with hl | ⟨k,hk,rfl,hsec⟩
  · have hf:=fetch_low R I hp hlt
    have h0:B.getD (base+p) 0=0:=by rw [low_byte R I hlt];simp [List.getD,hl]
    have hcons:∃ t,(B.drop (base+p)).take 6=0 :: t:=by
      have hlt2:base+p < B.length:=by omega
      rw [List.drop_eq_getElem_cons hlt2,List.take_succ_cons]
      refine ⟨(B.drop (base+p+1)).take 5,?_⟩
      rw [show B[base+p]=0 by rw [← h0];simp [List.getD,hlt2]]
    obtain ⟨t,ht⟩:=hcons
    rw [hf,ht] at h
    have e:op=0:=by
      obtain ⟨_,t',e,_⟩:=h
      injection e with e1 e2
      exact e1.symm
    exact ⟨fun e2=>by omega,fun e2=>by omega⟩
  · obtain ⟨_,hs,_,_⟩:=R.scan
    have A:=at_k R.hb hs hk
    have hc:=R.hc
    have hz:=R.hz
    have hends:=A.ends
    have hf:=fetch_low R I hp (by omega)
    have hRd:Rd (codeL B (List.replicate z true) c.pc) (insN (scanL code) k).op (insN (scanL code) k).a (insN (scanL code) k).b (insN (scanL code) k).imm (szO (insN (scanL code) k).op):=by
      have e:(B.drop (base+posN (scanL code) k)).take 6=(insN (scanL code) k).lay ++ ((B.drop (base+posN (scanL code) k)).take 6).drop (insN (scanL code) k).lay.length:=by
        have h1:=List.take_append_drop (insN (scanL code) k).lay.length ((B.drop (base+posN (scanL code) k)).take 6)
        rw [List.take_take,Nat.min_eq_left A.len.2,take_low R I A.ends,A.byt] at h1
        exact h1.symm
      rw [hf,e]
      exact rd_of_lay _ _ _ _ A.ok.1 A.ok.2.1 _
    obtain ⟨rfl,rfl,rfl,_,_⟩:=rd_fun h hRd
    exact ⟨hsec.1,hsec.2.1⟩
theorem exec_loc (H:RgW T base (base+2 * half)) (H':RgW T' base (base+2 * half)) (c d:Cp) (op a b imm:Int) (h15:op=15→UpV base half (c.reg b)) (h16:op=16→UpV base half (c.reg a)):exec c d B T op a b imm=exec c d B T' op a b imm:=by
  have key:∀ v:Int,UpV base half v→wholeB T v 4=wholeB T' v 4:=fun v hv=>by
    obtain ⟨v1,v2⟩:=hv
    have e1:=H.wh v 4 (by omega) (by omega) (by push_cast;omega)
    have e2:=H'.wh v 4 (by omega) (by omega) (by push_cast;omega)
    exact e1.trans e2.symm
  by_cases e15:op=15
  · subst e15
    have hk:=key _ (h15 rfl)
    cases hw:wholeB T (c.reg b) 4
    · rw [exec_15n _ _ _ _ _ _ _ hw,exec_15n _ _ _ _ _ _ _ (hk ▸ hw)]
    · rw [exec_15y _ _ _ _ _ _ _ hw,exec_15y _ _ _ _ _ _ _ (hk ▸ hw)]
  · by_cases e16:op=16
    · subst e16
      have hk:=key _ (h16 rfl)
      cases hw:wholeB T (c.reg a) 4
      · rw [exec_16n _ _ _ _ _ _ _ hw,exec_16n _ _ _ _ _ _ _ (hk ▸ hw)]
      · rw [exec_16y _ _ _ _ _ _ _ hw,exec_16y _ _ _ _ _ _ _ (hk ▸ hw)]
    · unfold exec
      simp only [if_neg e15,if_neg e16]
theorem step_loc (R:Regn code base half z B0) (I:SafeI code base half B0 c B) (H:RgW T base (base+2 * half)) (H':RgW T' base (base+2 * half)) {x:Ou} (hx:StepIs c B T x):StepIs c B T' x:=by
  have e1:=fet_loc R I H
  have e2:=fet_loc R I H'
  rcases hx with ⟨h1,rfl⟩ | ⟨h1,h2,rfl⟩ | ⟨op,a,b,imm,n,h1,rfl⟩
  · exact .inl ⟨(e2.trans e1.symm).trans h1,rfl⟩
  · exact .inr (.inl ⟨fun h=>h1 ((e1.trans e2.symm).trans h),by rw [e2,← e1];exact h2,rfl⟩)
  · have u:=use_loc R I (e1 ▸ h1)
    exact .inr (.inr ⟨op,a,b,imm,n,by rw [e2,← e1];exact h1,exec_loc H H' _ _ _ _ _ _ u.1 u.2⟩)
theorem stF_loc (R:Regn code base half z B0) (I:SafeI code base half B0 c B) (H:RgW T base (base+2 * half)) (H':RgW T' base (base+2 * half)):stF c B T=stF c B T':=
  (stF_eq (step_loc R I H H' (stF_is c B T))).symm
theorem sum_loc (h0:0 < half) (H:RgW T base (base+2 * half)) (H':RgW T' base (base+2 * half)) {c:Cp} (oc:c.Ok) (hb:c.b=base) (hs:c.s=2 * (half:Int)):sumV c B T=sumV c B T':=by
  unfold sumV
  by_cases ho:ownsB c.b c.s (c.reg 0) (c.reg 1)=true
  · have h1:=oc.reg 1 (by omega) (by omega)
    unfold U32 at h1
    have e:wholeB T (c.reg 0) (c.reg 1)=wholeB T' (c.reg 0) (c.reg 1):=by
      unfold ownsB at ho
      rw [Bool.and_eq_true,decide_eq_true_iff,decide_eq_true_iff,hb,hs] at ho
      obtain ⟨k,hk⟩:∃ k:Nat,c.reg 1=k:=⟨(c.reg 1).toNat,by omega⟩
      rw [hk] at ho ⊢
      by_cases hk0:k=0
      · subst hk0
        have z:∀ U:List Bool,base+2 * half≤64 * U.length→wholeB U (c.reg 0) ((0:Nat):Int)=true:=fun U hU=>by
          unfold wholeB
          rw [(liesB_iff _ _ _).2 ⟨by omega,by omega,by push_cast;omega⟩,Bool.true_and,thr_iff]
          intro i hi
          simp at hi
        rw [z T H.top,z T' H'.top]
      · rw [H.wh _ k (by omega) (by omega) (by push_cast;omega),H'.wh _ k (by omega) (by omega) (by push_cast;omega)]
    rw [e]
  · rw [Bool.not_eq_true] at ho
    rw [ho]
    simp
theorem slF_loc (R:Regn code base half z B0) (H:RgW T base (base+2 * half)) (H':RgT T' base (base+2 * half)) (n:Nat):∀ {lo hi n0:Nat} {x:Bx} {B:List Int},BxI T' lo hi n0 x B→BoxS code base half B0 x B→slF T n x B=slF T' n x B:=by
  induction n with
  | zero=>intro lo hi n0 x B i S;rfl
  | succ n ih=>
    intro lo hi n0 x B i S
    by_cases hx:x.is=0
    · have I:=S.safe hx
      have e:=stF_loc R I H H'.w
      have hf:=(step_few i.byt i.len (stF_is x.c B T')).1
      have h0:=R.h0
      have es:sumV (stF x.c B T').c (stF x.c B T').B T=sumV (stF x.c B T').c (stF x.c B T').B T':=
        sum_loc (by omega) H H'.w (step_ok i.ok.c i.byt i.len (stF_is x.c B T')).1 (hf.1.trans I.cb) (hf.2.trans I.cs)
      have eb:bxS T x B=bxS T' x B:=by unfold bxS;simp only [e,es]
      have ey:yldB T x B=yldB T' x B:=by unfold yldB;rw [e]
      have j:=bxS_i i hx
      have S2:=bxS_safe R H' i hx S
      cases hy:yldB T' x B
      · rw [slF_step n hx (ey.trans hy),slF_step n hx hy,eb,ih j S2]
      · rw [slF_yld n hx (ey.trans hy),slF_yld n hx hy,eb]
    · rw [slF_over _ hx,slF_over _ hx]
end
section
variable {code:List Int} {base half z:Nat} {B0 B:List Int} {T T':List Bool} {c:Cp}
theorem exec_B (c d:Cp) (op a b imm:Int) (h:op≠16):(exec c d B T op a b imm).B=B:=by
  unfold exec
  simp only [apply_ite Ou.B,ite_self,if_neg h]
theorem step_frame (R:Regn code base half z B0) (I:SafeI code base half B0 c B) (H:RgW T base (base+2 * half)) {x:Ou} (hx:StepIs c B T x) (i:Nat) (hi:i < base+half∨base+2 * half≤i):x.B.getD i 0=B.getD i 0:=by
  have e1:=fet_loc R I H
  rcases hx with ⟨h1,rfl⟩ | ⟨h1,h2,rfl⟩ | ⟨op,a,b,imm,n,h1,rfl⟩
  · rfl
  · rfl
  · by_cases e16:op=16
    · subst e16
      obtain ⟨u1,u2⟩:=(use_loc R I (e1 ▸ h1)).2 rfl
      cases hw:wholeB T (c.reg a) 4
      · rw [exec_16n _ _ _ _ _ _ _ hw]
      · rw [exec_16y _ _ _ _ _ _ _ hw]
        have e2:=H.wh (c.reg a) 4 (by omega) (by omega) (by push_cast;omega)
        rw [show ((4:Nat):Int)=4 from rfl,hw] at e2
        have e3:=of_decide_eq_true e2.symm
        have hN:=R.hN
        have hl:B.length=64 * z:=I.len.trans R.hl
        show (splice B _ _).getD i 0=_
        rw [splice_getD _ _ _ _ (by rw [b4_len];omega),b4_len,if_neg (by omega)]
    · rw [exec_B _ _ _ _ _ _ e16]
theorem bxS_frame (R:Regn code base half z B0) (H:RgW T base (base+2 * half)) {x:Bx} (hx:x.is=0) (S:BoxS code base half B0 x B) (i:Nat) (hi:i < base+half∨base+2 * half≤i):(bxS T x B).2.getD i 0=B.getD i 0:=by
  have h:=step_frame R (S.safe hx) H (stF_is x.c B T) i hi
  unfold bxS
  simp only
  split
  · exact h
  · split
    · exact h
    · exact h
theorem slF_frame (R:Regn code base half z B0) (H':RgT T' base (base+2 * half)) (n:Nat):∀ {lo hi n0:Nat} {x:Bx} {B:List Int},BxI T' lo hi n0 x B→BoxS code base half B0 x B→∀ i,(i < base+half∨base+2 * half≤i)→(slF T' n x B).2.1.getD i 0=B.getD i 0:=by
  induction n with
  | zero=>intro lo hi n0 x B i S k hk;rfl
  | succ n ih=>
    intro lo hi n0 x B i S k hk
    by_cases hx:x.is=0
    · have e:=bxS_frame R H'.w hx S k hk
      cases hy:yldB T' x B
      · rw [slF_step n hx hy]
        exact (ih (bxS_i i hx) (bxS_safe R H' i hx S) k hk).trans e
      · rw [slF_yld n hx hy];exact e
    · rw [slF_over _ hx]
end
structure LivS (code:List Int) (base half z:Nat) (x:Bx) (B:List Int):Prop where
  rg:Regn code base half z B
  sf:x.is=0→SafeI code base half B x.c B
theorem SafeI.here {code:List Int} {base half:Nat} {B0 B:List Int} {c:Cp} (I:SafeI code base half B0 c B):SafeI code base half B c B:=
  ⟨I.ok,I.cb,I.cs,I.byt,rfl,fun _ _=>rfl,I.pc⟩
theorem LivS.s {code:List Int} {base half z:Nat} {x:Bx} {B:List Int} (h:LivS code base half z x B):BoxS code base half B x B:=⟨fun _ _=>rfl,h.sf⟩
theorem Regn.to {code:List Int} {base half z:Nat} {B B':List Int} (R:Regn code base half z B) (hl:B'.length=B.length) (h:∀ i,i < half→B'.getD (base+i) 0=B.getD (base+i) 0):Regn code base half z B':=
  ⟨R.h0,R.hN,R.hz,hl.trans R.hl,R.hc,R.hb,R.hm,fun i hi=>(h i hi).trans (R.low i hi)⟩
theorem LivS.to {code:List Int} {base half z:Nat} {x:Bx} {B B':List Int} (S:LivS code base half z x B) (hl:B'.length=B.length) (hb:Bytes B') (h:∀ i,base≤i→i < base+2 * half→B'.getD i 0=B.getD i 0):LivS code base half z x B':=
  ⟨S.rg.to hl (fun i hi=>h _ (by omega) (by omega)),fun hx=>by
    have I:=S.sf hx
    exact ⟨I.ok,I.cb,I.cs,hb,rfl,fun _ _=>rfl,I.pc⟩⟩
theorem LivS.slice {code:List Int} {base half z:Nat} {x:Bx} {B:List Int} {T T':List Bool} (S:LivS code base half z x B) (H:RgW T base (base+2 * half)) (H':RgT T' base (base+2 * half)) (n:Nat) {lo hi n0:Nat} (i:BxI T' lo hi n0 x B) :
    slF T n x B=slF T' n x B∧LivS code base half z (slF T n x B).1 (slF T n x B).2.1∧(∀ k,(k < base+half∨base+2 * half≤k)→(slF T n x B).2.1.getD k 0=B.getD k 0)∧(slF T n x B).2.1.length=B.length:=by
  have e:=slF_loc S.rg H H' n i S.s
  have s2:=slF_safe S.rg H' n i S.s
  have j:=slF_i n i
  have fr:=slF_frame S.rg H' n i S.s
  have hl:(slF T' n x B).2.1.length=B.length:=j.len.trans i.len.symm
  rw [e]
  exact ⟨rfl,⟨S.rg.to hl (fun k hk=>fr _ (.inl (by omega))),fun hx=>(s2.safe hx).here⟩,fr,hl⟩
def oneT (z a k:Nat):List Bool:=splice (List.replicate z false) a (List.replicate k true)
theorem oneT_rg {z a k:Nat} (h:a+k≤z):RgT (oneT z a k) (64 * a) (64 * (a+k)):=rgT_of z a k h
theorem oneT_len {z a k:Nat} (h:a+k≤z):(oneT z a k).length=z:=by
  unfold oneT
  rw [splice_len _ _ _ (by rw [List.length_replicate,List.length_replicate];omega),List.length_replicate]
structure Sb where
  b:Nat
  hf:Nat
  code:List Int
  x:Bx
def Sb.r (s:Sb):Rg:=((s.b:Int),((2 * s.hf:Nat):Int))
structure Ho where
  B:List Int
  T:List Bool
  m:List (Option Sb)
def Ho.has (h:Ho) (k:Nat) (s:Sb):Prop:=h.m[k]?=some (some s)
structure HoZ (z:Nat) (h:Ho):Prop where
  zl:h.T.length=z
  bl:h.B.length=64 * z
  by_:Bytes h.B
  ml:h.m.length=16
  rg:∀ k s,h.has k s→regB ((64 * z:Nat):Int) s.r=true
  ap:∀ j k s t,j≠k→h.has j s→h.has k t→s.b+2 * s.hf+64≤t.b∨t.b+2 * t.hf+64≤s.b
  zn:∀ i,i < z→(h.T.getD i false=true↔∃ k s,h.has k s∧s.b≤64 * i∧64 * i < s.b+2 * s.hf)
theorem rg_nat {z:Nat} {s:Sb} (h:regB ((64 * z:Nat):Int) s.r=true):64≤s.hf∧s.b % 64=0∧s.hf % 32=0∧(2 * s.hf) % 64=0∧s.b+2 * s.hf+64≤64 * z∧2 * s.hf≤s.b∧s.hf≤8192:=by
  obtain ⟨h1,h2,h3,h4⟩:=reg_iff.1 h
  unfold Sb.r at h1 h2 h3 h4
  simp only at h1 h2 h3 h4
  unfold powS at h1
  simp only [Bool.or_eq_true,beq_iff_eq] at h1
  have hc:s.hf=64∨s.hf=128∨s.hf=256∨s.hf=512∨s.hf=1024∨s.hf=2048∨s.hf=4096∨s.hf=8192:=by omega
  rcases hc with e | e | e | e | e | e | e | e <;> rw [e] at h2 h3 h4 ⊢ <;> omega
theorem HoZ.w {z:Nat} {h:Ho} (H:HoZ z h) {k:Nat} {s:Sb} (hs:h.has k s):RgW h.T s.b (s.b+2 * s.hf):=by
  obtain ⟨q1,q2,q3,q4,q5,q6,q7⟩:=rg_nat (H.rg k s hs)
  obtain ⟨a,ha⟩:∃ a,s.b=64 * a:=⟨s.b / 64,by omega⟩
  obtain ⟨c,hc⟩:∃ c,2 * s.hf=64 * c:=⟨2 * s.hf / 64,by omega⟩
  have e:s.b+2 * s.hf=64 * (a+c):=by omega
  rw [e,ha]
  refine rgW_of (by rw [H.zl];omega) (fun i h1 h2=>(H.zn i (by omega)).2 ⟨k,s,hs,by omega,by omega⟩) ?_
  cases hT:h.T.getD (a+c) false
  · rfl
  · obtain ⟨j,t,ht,t1,t2⟩:=(H.zn (a+c) (by omega)).1 hT
    by_cases hj:j=k
    · subst hj
      unfold Ho.has at hs ht
      rw [hs] at ht
      injection ht with ht
      injection ht with ht
      subst ht
      omega
    · have:=H.ap j k t s hj ht hs
      omega
structure HoI (z n0:Nat) (h:Ho):Prop where
  Z:HoZ z h
  lv:∀ k s,h.has k s→LivS s.code s.b s.hf z s.x h.B
  bi:∀ k s,h.has k s→BxI (oneT z (s.b / 64) (2 * s.hf / 64)) s.b (s.b+2 * s.hf) n0 s.x h.B
theorem one_rg {z:Nat} {s:Sb} (h:regB ((64 * z:Nat):Int) s.r=true):RgT (oneT z (s.b / 64) (2 * s.hf / 64)) s.b (s.b+2 * s.hf):=by
  obtain ⟨q1,q2,q3,q4,q5,q6,q7⟩:=rg_nat h
  have:=oneT_rg (z:=z) (a:=s.b / 64) (k:=2 * s.hf / 64) (by omega)
  rwa [show 64 * (s.b / 64)=s.b by omega,show 64 * (s.b / 64+2 * s.hf / 64)=s.b+2 * s.hf by omega] at this
theorem has_set_same {m:List (Option Sb)} {k:Nat} (hk:k < m.length) (v:Option Sb):(m.set k v)[k]?=some v:=by rw [List.getElem?_set_self hk]
theorem Ho.has_lt {h:Ho} {k:Nat} {s:Sb} (hs:h.has k s):k < h.m.length:=(List.getElem?_eq_some_iff.1 hs).1
theorem has_cases {h:Ho} {B:List Int} {T:List Bool} {k:Nat} {v:Option Sb} {j:Nat} {t:Sb} (ht:(⟨B,T,h.m.set k v⟩:Ho).has j t):(j=k∧v=some t)∨(j≠k∧h.has j t):=by
  unfold Ho.has at ht
  simp only at ht
  by_cases hj:j=k
  · subst hj
    have hl:j < (h.m.set j v).length:=(List.getElem?_eq_some_iff.1 ht).1
    rw [List.length_set] at hl
    rw [List.getElem?_set_self hl] at ht
    injection ht with ht
    exact .inl ⟨rfl,ht⟩
  · rw [List.getElem?_set_ne (Ne.symm hj)] at ht
    exact .inr ⟨hj,ht⟩
theorem has_other {h:Ho} {B:List Int} {T:List Bool} {k:Nat} {v:Option Sb} {j:Nat} {t:Sb} (hj:j≠k) (ht:h.has j t):(⟨B,T,h.m.set k v⟩:Ho).has j t:=by
  unfold Ho.has
  simp only
  rw [List.getElem?_set_ne (Ne.symm hj)]
  exact ht
noncomputable def runO (h:Ho) (k:Nat) (s:Sb) (n:Nat):Ho:=⟨(slF h.T n s.x h.B).2.1,h.T,h.m.set k (some ⟨s.b,s.hf,s.code,(slF h.T n s.x h.B).1⟩)⟩
theorem HoI.run {z n0:Nat} {h:Ho} (I:HoI z n0 h) {k:Nat} {s:Sb} (hs:h.has k s) (n:Nat):HoI z (n0+n) (runO h k s n)∧(∀ i,(i < s.b+s.hf∨s.b+2 * s.hf≤i)→(runO h k s n).B.getD i 0=h.B.getD i 0):=by
  have H:=I.Z
  have W:=H.w hs
  have O:=one_rg (H.rg k s hs)
  have b0:=I.bi k s hs
  obtain ⟨e,l2,fr,hl⟩:=(I.lv k s hs).slice W O n b0
  have b2:=slF_i n b0
  rw [← e] at b2
  have hby:=b2.byt
  have hfr:∀ i,(i < s.b+s.hf∨s.b+2 * s.hf≤i)→(slF h.T n s.x h.B).2.1.getD i 0=h.B.getD i 0:=fr
  refine ⟨⟨⟨H.zl,hl.trans H.bl,hby,by show (h.m.set k _).length=16;rw [List.length_set];exact H.ml,?_,?_,?_⟩,?_,?_⟩,hfr⟩
  · intro j t ht
    rcases has_cases ht with ⟨rfl,he⟩ | ⟨hj,ht2⟩
    · injection he with he;subst he;exact H.rg _ s hs
    · exact H.rg j t ht2
  · intro j i t u hne ht hu
    rcases has_cases ht with ⟨rfl,he⟩ | ⟨hj,ht2⟩
    · rcases has_cases hu with ⟨rfl,hf⟩ | ⟨hi,hu2⟩
      · exact absurd rfl hne
      · injection he with he;subst he;exact H.ap _ i s u hne hs hu2
    · rcases has_cases hu with ⟨rfl,hf⟩ | ⟨hi,hu2⟩
      · injection hf with hf;subst hf;exact H.ap j _ t s hne ht2 hs
      · exact H.ap j i t u hne ht2 hu2
  · intro i hi
    show h.T.getD i false=true↔_
    rw [H.zn i hi]
    constructor
    · rintro ⟨j,t,ht,t1,t2⟩
      by_cases hj:j=k
      · subst hj
        have:t=s:=by unfold Ho.has at hs ht;rw [hs] at ht;injection ht with ht;injection ht with ht;exact ht.symm
        subst this
        exact ⟨j,_,has_set_same (Ho.has_lt hs) _,t1,t2⟩
      · exact ⟨j,t,has_other hj ht,t1,t2⟩
    · rintro ⟨j,t,ht,t1,t2⟩
      rcases has_cases ht with ⟨rfl,he⟩ | ⟨hj,ht2⟩
      · injection he with he;subst he;exact ⟨j,s,hs,t1,t2⟩
      · exact ⟨j,t,ht2,t1,t2⟩
  · intro j t ht
    rcases has_cases ht with ⟨rfl,he⟩ | ⟨hj,ht2⟩
    · injection he with he;subst he;exact l2
    · refine (I.lv j t ht2).to hl hby (fun i h1 h2=>?_)
      have:=H.ap j k t s hj ht2 hs
      exact hfr i (by omega)
  · intro j t ht
    rcases has_cases ht with ⟨rfl,he⟩ | ⟨hj,ht2⟩
    · injection he with he;subst he;exact b2
    · have bt:=I.bi j t ht2
      exact ⟨bt.ok,bt.b,bt.s,hby,by show (slF h.T n s.x h.B).2.1.length=_;rw [hl];exact bt.len,Nat.le_trans bt.tr (by omega)⟩
def killO (h:Ho) (k:Nat) (s:Sb):Ho:=⟨splice h.B s.b (List.replicate (2 * s.hf) 0),splice h.T (s.b / 64) (List.replicate (2 * s.hf / 64) false),h.m.set k none⟩
theorem zeros_get (B:List Int) (b n:Nat) (h:b+n≤B.length) (i:Nat):(splice B b (List.replicate n 0)).getD i 0=if b≤i∧i < b+n then 0 else B.getD i 0:=by
  rw [splice_getD _ _ _ _ (by rw [List.length_replicate];exact h),List.length_replicate]
  by_cases hi:b≤i∧i < b+n
  · rw [if_pos hi,if_pos hi];simp [List.getD,show i - b < n by omega]
  · rw [if_neg hi,if_neg hi]
theorem HoZ.kill {z:Nat} {h:Ho} (H:HoZ z h) {k:Nat} {s:Sb} (hs:h.has k s):HoZ z (killO h k s):=by
  obtain ⟨q1,q2,q3,q4,q5,q6,q7⟩:=rg_nat (H.rg k s hs)
  have hbl:=H.bl
  have hzl:=H.zl
  refine ⟨?_,?_,?_,by show (h.m.set k _).length=16;rw [List.length_set];exact H.ml,?_,?_,?_⟩
  · show (splice _ _ _).length=z
    rw [splice_len _ _ _ (by rw [List.length_replicate];omega)];exact hzl
  · show (splice _ _ _).length=_
    rw [splice_len _ _ _ (by rw [List.length_replicate];omega)];exact hbl
  · intro y hy
    rcases splice_mem hy with hy | hy
    · exact H.by_ y hy
    · rw [List.eq_of_mem_replicate hy];decide
  · intro j t ht
    rcases has_cases ht with ⟨rfl,he⟩ | ⟨hj,ht2⟩
    · cases he
    · exact H.rg j t ht2
  · intro j i t u hne ht hu
    rcases has_cases ht with ⟨rfl,he⟩ | ⟨hj,ht2⟩
    · cases he
    · rcases has_cases hu with ⟨rfl,hf⟩ | ⟨hi,hu2⟩
      · cases hf
      · exact H.ap j i t u hne ht2 hu2
  · intro i hi
    show (splice h.T (s.b / 64) (List.replicate (2 * s.hf / 64) false)).getD i false=true↔_
    rw [splice_getD _ _ _ _ (by rw [List.length_replicate];omega),List.length_replicate]
    by_cases hin:s.b / 64≤i∧i < s.b / 64+2 * s.hf / 64
    · rw [if_pos hin]
      constructor
      · intro hf
        simp [List.getD,show i - s.b / 64 < 2 * s.hf / 64 by omega] at hf
      · rintro ⟨j,t,ht,t1,t2⟩
        rcases has_cases ht with ⟨rfl,he⟩ | ⟨hj,ht2⟩
        · cases he
        · have:=H.ap j k t s hj ht2 hs
          omega
    · rw [if_neg hin,H.zn i hi]
      constructor
      · rintro ⟨j,t,ht,t1,t2⟩
        by_cases hj:j=k
        · subst hj
          have:t=s:=by unfold Ho.has at hs ht;rw [hs] at ht;injection ht with ht;injection ht with ht;exact ht.symm
          subst this
          exact absurd (by omega) hin
        · exact ⟨j,t,has_other hj ht,t1,t2⟩
      · rintro ⟨j,t,ht,t1,t2⟩
        rcases has_cases ht with ⟨rfl,he⟩ | ⟨hj,ht2⟩
        · cases he
        · exact ⟨j,t,ht2,t1,t2⟩
theorem HoI.kill {z n0:Nat} {h:Ho} (I:HoI z n0 h) {k:Nat} {s:Sb} (hs:h.has k s):HoI z n0 (killO h k s):=by
  have H:=I.Z
  have K:=H.kill hs
  obtain ⟨q1,q2,q3,q4,q5,q6,q7⟩:=rg_nat (H.rg k s hs)
  have hbl:=H.bl
  have hl:(killO h k s).B.length=h.B.length:=K.bl.trans hbl.symm
  refine ⟨K,?_,?_⟩
  · intro j t ht
    rcases has_cases ht with ⟨rfl,he⟩ | ⟨hj,ht2⟩
    · cases he
    · refine (I.lv j t ht2).to hl K.by_ (fun i h1 h2=>?_)
      have:=H.ap j k t s hj ht2 hs
      show (splice h.B s.b _).getD i 0=_
      rw [zeros_get _ _ _ (by omega),if_neg (by omega)]
  · intro j t ht
    rcases has_cases ht with ⟨rfl,he⟩ | ⟨hj,ht2⟩
    · cases he
    · have bt:=I.bi j t ht2
      exact ⟨bt.ok,bt.b,bt.s,K.by_,hl.trans bt.len,bt.tr⟩
def loadO (h:Ho) (k b hf:Nat) (code data rep:List Int):Ho:=
  ⟨newB h.B ((b:Int),((2 * hf:Nat):Int)) code data,newT h.T ((b:Int),((2 * hf:Nat):Int)),h.m.set k (some ⟨b,hf,code,newX ((b:Int),((2 * hf:Nat):Int)) rep⟩)⟩
section
variable {z n0:Nat} {h:Ho} {k b hf:Nat} {code data rep:List Int}
theorem newT_get (T:List Bool) (h1:b % 64=0) (h2:(2 * hf) % 64=0) (hl:b+2 * hf≤64 * T.length) (i:Nat):(newT T ((b:Int),((2 * hf:Nat):Int))).getD i false=if b / 64≤i∧i < b / 64+2 * hf / 64 then true else T.getD i false:=by
  unfold newT
  simp only
  rw [show ((b:Int) / 64).toNat=b / 64 by omega,show (((2 * hf:Nat):Int) / 64).toNat=2 * hf / 64 by omega,splice_getD _ _ _ _ (by rw [List.length_replicate];omega),List.length_replicate]
  by_cases hi:b / 64≤i∧i < b / 64+2 * hf / 64
  · rw [if_pos hi,if_pos hi];simp [List.getD,show i - b / 64 < 2 * hf / 64 by omega]
  · rw [if_neg hi,if_neg hi]
theorem newT_lenO (T:List Bool) (h1:b % 64=0) (h2:(2 * hf) % 64=0) (hl:b+2 * hf≤64 * T.length):(newT T ((b:Int),((2 * hf:Nat):Int))).length=T.length:=by
  unfold newT
  simp only
  rw [show ((b:Int) / 64).toNat=b / 64 by omega,show (((2 * hf:Nat):Int) / 64).toNat=2 * hf / 64 by omega,splice_len _ _ _ (by rw [List.length_replicate];omega)]
theorem HoZ.load (H:HoZ z h) (hk:h.m[k]?=some none) (hr:regB ((64 * z:Nat):Int) ((b:Int),((2 * hf:Nat):Int))=true) (ha:∀ j s,h.has j s→s.b+2 * s.hf+64≤b∨b+2 * hf+64≤s.b)
    (hc:Bytes code) (hd:Bytes data) (h1:code.length≤hf) (h2:data.length≤hf):HoZ z (loadO h k b hf code data rep):=by
  obtain ⟨q1,q2,q3,q4,q5,q6,q7⟩:=rg_nat (z:=z) (s:=⟨b,hf,[],newX (0,0) []⟩) hr
  simp only at q1 q2 q3 q4 q5 q6 q7
  have hbl:=H.bl
  have hzl:=H.zl
  have hkl:k < h.m.length:=(List.getElem?_eq_some_iff.1 hk).1
  have nl:=newB_len (B:=h.B) (code:=code) (data:=data) (b:=b) (s:=2 * hf) (by omega) (by omega) (by omega)
  have noth:∀ t,¬ h.has k t:=fun t ht=>by unfold Ho.has at ht;rw [hk] at ht;cases ht
  refine ⟨?_,nl.trans hbl,newB_byte _ H.by_ hc hd,by show (h.m.set k _).length=16;rw [List.length_set];exact H.ml,?_,?_,?_⟩
  · show (newT _ _).length=z
    rw [newT_lenO _ q2 q4 (by omega)];exact hzl
  · intro j t ht
    rcases has_cases ht with ⟨rfl,he⟩ | ⟨hj,ht2⟩
    · injection he with he;subst he;exact hr
    · exact H.rg j t ht2
  · intro j i t u hne ht hu
    rcases has_cases ht with ⟨rfl,he⟩ | ⟨hj,ht2⟩
    · rcases has_cases hu with ⟨rfl,hf'⟩ | ⟨hi,hu2⟩
      · exact absurd rfl hne
      · injection he with he;subst he
        exact (ha i u hu2).symm
    · rcases has_cases hu with ⟨rfl,hf'⟩ | ⟨hi,hu2⟩
      · injection hf' with hf';subst hf'
        exact ha j t ht2
      · exact H.ap j i t u hne ht2 hu2
  · intro i hi
    show (newT _ _).getD i false=true↔_
    rw [newT_get _ q2 q4 (by omega)]
    by_cases hin:b / 64≤i∧i < b / 64+2 * hf / 64
    · rw [if_pos hin]
      refine ⟨fun _=>⟨k,_,has_set_same hkl _,by show b≤_;omega,by show _ < b+2 * hf;omega⟩,fun _=>rfl⟩
    · rw [if_neg hin,H.zn i hi]
      constructor
      · rintro ⟨j,t,ht,t1,t2⟩
        refine ⟨j,t,has_other (fun e=>noth t (e ▸ ht)) ht,t1,t2⟩
      · rintro ⟨j,t,ht,t1,t2⟩
        rcases has_cases ht with ⟨rfl,he⟩ | ⟨hj,ht2⟩
        · injection he with he;subst he
          simp only at t1 t2
          exact absurd (by omega) hin
        · exact ⟨j,t,ht2,t1,t2⟩
theorem load_out (H:HoZ z h) (hr:regB ((64 * z:Nat):Int) ((b:Int),((2 * hf:Nat):Int))=true) (h1:code.length≤hf) (h2:data.length≤hf) (i:Nat) (hi:i < b∨b+2 * hf≤i):(loadO h k b hf code data rep).B.getD i 0=h.B.getD i 0:=by
  obtain ⟨q1,q2,q3,q4,q5,q6,q7⟩:=rg_nat (z:=z) (s:=⟨b,hf,[],newX (0,0) []⟩) hr
  simp only at q1 q2 q3 q4 q5 q6 q7
  have hbl:=H.bl
  have g:=newB_get (B:=h.B) (code:=code) (data:=data) (b:=b) (s:=2 * hf) (by omega) (by omega) (by omega) i
  refine g.trans ?_
  rw [if_neg (by omega),if_neg (by omega),if_neg (by omega)]
theorem HoI.load (I:HoI z n0 h) (hz:z≤1000) (hk:h.m[k]?=some none) (hr:regB ((64 * z:Nat):Int) ((b:Int),((2 * hf:Nat):Int))=true) (ha:∀ j s,h.has j s→s.b+2 * s.hf+64≤b∨b+2 * hf+64≤s.b)
    (hc:Bytes code) (hd:Bytes data) (hv:verE code=0) (h1:code.length+32≤hf) (h2:data.length≤hf) (hu:∀ v∈rep,U32 v) (hl:rep.length≤100000):HoI z n0 (loadO h k b hf code data rep):=by
  have H:=I.Z
  have K:=H.load (rep:=rep) hk hr ha hc hd (by omega) h2
  obtain ⟨q1,q2,q3,q4,q5,q6,q7⟩:=rg_nat (z:=z) (s:=⟨b,hf,[],newX (0,0) []⟩) hr
  simp only at q1 q2 q3 q4 q5 q6 q7
  have hbl:=H.bl
  have hl2:(loadO h k b hf code data rep).B.length=h.B.length:=K.bl.trans hbl.symm
  have ok:(newX ((b:Int),((2 * hf:Nat):Int)) rep).Ok:=newX_ok (by unfold U32;simp only;omega) (by unfold U32;simp only;omega) hu hl
  refine ⟨K,?_,?_⟩
  · intro j t ht
    rcases has_cases ht with ⟨rfl,he⟩ | ⟨hj,ht2⟩
    · injection he with he;subst he
      have R:Regn code b hf z (loadO h j b hf code data rep).B:=by
        refine ⟨by omega,by omega,hz,K.bl,by omega,hc,(ver_0 hv).1,fun i hi=>?_⟩
        have g:=newB_get (B:=h.B) (code:=code) (data:=data) (b:=b) (s:=2 * hf) (by omega) (by omega) (by omega) (b+i)
        refine g.trans ?_
        rw [if_neg (by omega)]
        by_cases h:i < code.length
        · rw [if_pos (by omega),show b+i - b=i by omega]
        · rw [if_neg (by omega),if_pos (by omega)]
          simp [List.getD,show code.length≤i by omega]
      exact ⟨R,fun _=>safe_start R K.by_ ok.c rfl (by show ((2 * hf:Nat):Int)=2 * (hf:Int);omega) rfl⟩
    · refine (I.lv j t ht2).to hl2 K.by_ (fun i i1 i2=>?_)
      have:=ha j t ht2
      exact load_out H hr (by omega) h2 i (by omega)
  · intro j t ht
    rcases has_cases ht with ⟨rfl,he⟩ | ⟨hj,ht2⟩
    · injection he with he;subst he
      refine ⟨ok,rfl,?_,K.by_,?_,by show ([]:List Ev).length≤n0;simp⟩
      · show ((2 * hf:Nat):Int)=((b+2 * hf - b:Nat):Int);omega
      · rw [oneT_len (by show b / 64+2 * hf / 64≤z;omega)];exact K.bl
    · have bt:=I.bi j t ht2
      exact ⟨bt.ok,bt.b,bt.s,K.by_,hl2.trans bt.len,bt.tr⟩
end
def newO (z:Nat):Ho:=⟨List.replicate (64 * z) 0,List.replicate z false,List.replicate 16 none⟩
theorem newO_has {z k:Nat} {s:Sb}:¬ (newO z).has k s:=fun h=>by
  unfold Ho.has newO at h
  simp only at h
  rw [List.getElem?_replicate] at h
  split at h <;> cases h
theorem newO_z (z:Nat):HoZ z (newO z):=
  ⟨List.length_replicate,List.length_replicate,fun x hx=>by rw [List.eq_of_mem_replicate hx];decide,List.length_replicate,fun k s h=>absurd h newO_has,fun j k s t _ h=>absurd h newO_has,fun i hi=>by
    constructor
    · intro h
      exfalso
      unfold newO at h
      simp only at h
      rw [List.getD_eq_getElem?_getD,List.getElem?_replicate] at h
      split at h <;> simp at h
    · rintro ⟨k,s,h,_⟩;exact absurd h newO_has⟩
theorem newO_i (z n0:Nat):HoI z n0 (newO z):=⟨newO_z z,fun k s h=>absurd h newO_has,fun k s h=>absurd h newO_has⟩
theorem HoI.mono {z n0 n1:Nat} {h:Ho} (I:HoI z n0 h) (hn:n0≤n1):HoI z n1 h:=
  ⟨I.Z,I.lv,fun k s hs=>by have b:=I.bi k s hs;exact ⟨b.ok,b.b,b.s,b.byt,b.len,Nat.le_trans b.tr hn⟩⟩
theorem Ho.one {h:Ho} {k:Nat} {s t:Sb} (hs:h.has k s) (ht:h.has k t):s=t:=by
  unfold Ho.has at hs ht
  rw [hs] at ht
  injection ht with ht
  injection ht with ht
section
variable {z n0:Nat} {h o:Ho} {i j:Nat} {s:Sb}
end
def regsU (h:Ho):List Rg:=h.m.filterMap (fun o=>o.map Sb.r)
theorem regsU_mem {h:Ho} {r:Rg}:r∈regsU h↔∃ k s,h.has k s∧s.r=r:=by
  unfold regsU Ho.has
  rw [List.mem_filterMap]
  constructor
  · rintro ⟨o,ho,he⟩
    obtain ⟨k,hk⟩:=List.mem_iff_getElem?.1 ho
    cases o with
    | none=>cases he
    | some s=>exact ⟨k,s,hk,by simpa using he⟩
  · rintro ⟨k,s,hk,rfl⟩
    exact ⟨some s,List.mem_of_getElem? hk,rfl⟩
def freeO (h:Ho):Option Nat:=(List.range 16).find? (fun k=>(h.m.getD k none).isNone)
theorem free_some {z:Nat} {h:Ho} (H:HoZ z h) {k:Nat} (hk:freeO h=some k):k < 16∧h.m[k]?=some none∧∀ j,j < k→∃ s,h.has j s:=by
  unfold freeO at hk
  have h1:=List.find?_some hk
  have h2:=List.mem_range.1 (List.mem_of_find?_eq_some hk)
  have hl:=H.ml
  refine ⟨h2,?_,fun j hj=>?_⟩
  · rw [List.getD_eq_getElem?_getD,List.getElem?_eq_getElem (by omega)] at h1
    rw [List.getElem?_eq_getElem (by omega)]
    simp only [Option.getD_some] at h1
    cases he:h.m[k]'(by omega) with
    | none=>rfl
    | some s=>rw [he] at h1;cases h1
  · obtain ⟨_,ps,bs,e,hn⟩:=List.find?_eq_some_iff_append.1 hk
    have hj2:j∈ps:=by
      have hlen:ps.length=k:=by
        have h3:(List.range 16)[ps.length]?=some k:=by rw [e];simp
        rw [List.getElem?_range (by
          have:=congrArg List.length e
          simp at this
          omega)] at h3
        injection h3
      have h4:(List.range 16)[j]?=ps[j]?:=by rw [e,List.getElem?_append_left (by omega)]
      rw [List.getElem?_range (by omega)] at h4
      exact List.mem_of_getElem? h4.symm
    have h5:=hn j hj2
    rw [List.getD_eq_getElem?_getD,List.getElem?_eq_getElem (by omega)] at h5
    simp only [Option.getD_some] at h5
    unfold Ho.has
    rw [List.getElem?_eq_getElem (by omega)]
    cases he:h.m[j]'(by omega) with
    | none=>rw [he] at h5;simp at h5
    | some s=>exact ⟨s,rfl⟩
theorem free_none {z:Nat} {h:Ho} (H:HoZ z h) (hk:freeO h=none):∀ k,k < 16→∃ s,h.has k s:=by
  intro k hk2
  have hl:=H.ml
  have h1:=List.find?_eq_none.1 hk k (List.mem_range.2 hk2)
  rw [List.getD_eq_getElem?_getD,List.getElem?_eq_getElem (by omega)] at h1
  simp only [Option.getD_some] at h1
  unfold Ho.has
  rw [List.getElem?_eq_getElem (by omega)]
  cases he:h.m[k]'(by omega) with
  | none=>rw [he] at h1;simp at h1
  | some s=>exact ⟨s,rfl⟩
theorem takeOk_mem {l l':List Rg} (h:∀ r,r∈l↔r∈l') {n s b:Int} (k:TakeOk l n s b):TakeOk l' n s b:=⟨k.lo,k.al,k.hi,fun r hr=>k.ap r ((h r).2 hr)⟩
theorem takeV_mem {l l':List Rg} (h:∀ r,r∈l↔r∈l') {n s:Int} (hs:powS s=true):takeV l n s=takeV l' n s:=by
  have h':∀ r,r∈l'↔r∈l:=fun r=>(h r).symm
  obtain ⟨o,ho⟩:=take_ex l n s hs
  have ho':TakeIs l' n s o:=by
    cases o with
    | none=>exact fun c hc=>ho c (takeOk_mem h' hc)
    | some b=>exact ⟨takeOk_mem h ho.1,fun c hc hk=>ho.2 c hc (takeOk_mem h' hk)⟩
  cases o with
  | none=>rw [takeV_none ho,takeV_none ho']
  | some b=>rw [takeV_some ho,takeV_some ho']
noncomputable def loadE (z:Nat) (h:Ho) (E:Int) (code data:List Int) (size:Int):Int:=
  if E≠0 then E else if powS size=false then 1 else if ¬ ((code.length:Int)≤size / 2 - 32∧(data.length:Int)≤size / 2) then 4
  else match freeO h with
    | none=>7
    | some _=>if takeV (regsU h) ((64 * z:Nat):Int) size < 0 then 7 else 0
theorem load_ok {z:Nat} {h:Ho} (H:HoZ z h) {E:Int} {code data:List Int} {size:Int} (he:loadE z h E code data size=0) :
    ∃ k b hf:Nat,freeO h=some k∧size=((2 * hf:Nat):Int)∧takeV (regsU h) ((64 * z:Nat):Int) size=(b:Int)∧E=0∧k < 16∧h.m[k]?=some none∧regB ((64 * z:Nat):Int) ((b:Int),((2 * hf:Nat):Int))=true ∧
      (∀ j s,h.has j s→s.b+2 * s.hf+64≤b∨b+2 * hf+64≤s.b)∧code.length+32≤hf∧data.length≤hf:=by
  unfold loadE at he
  by_cases h1:E=0
  · rw [if_neg (by simp [h1])] at he
    by_cases h2:powS size=false
    · rw [if_pos h2] at he;exact absurd he (by decide)
    · rw [if_neg h2] at he
      have h2':powS size=true:=by simpa using h2
      by_cases h3:(code.length:Int)≤size / 2 - 32∧(data.length:Int)≤size / 2
      · rw [if_neg (by simp [h3])] at he
        cases hfr:freeO h with
        | none=>rw [hfr] at he;simp at he
        | some k=>
          rw [hfr] at he
          simp only at he
          by_cases h4:takeV (regsU h) ((64 * z:Nat):Int) size < 0
          · rw [if_pos h4] at he;exact absurd he (by decide)
          · obtain ⟨k1,k2,_⟩:=free_some H hfr
            have hp:=powS_pos h2'
            rcases takeV_cases (l:=regsU h) (n:=((64 * z:Nat):Int)) h2' with ⟨t,t0⟩ | ⟨t,_⟩
            · have hev:size % 2=0:=by
                have:=h2'
                unfold powS at this
                simp only [Bool.or_eq_true,beq_iff_eq] at this
                omega
              generalize takeV (regsU h) ((64 * z:Nat):Int) size=bi at *
              obtain ⟨b,rfl⟩:∃ b:Nat,bi=b:=⟨bi.toNat,by omega⟩
              obtain ⟨hf,rfl⟩:∃ hf:Nat,size=((2 * hf:Nat):Int):=⟨(size / 2).toNat,by omega⟩
              refine ⟨k,b,hf,rfl,rfl,rfl,h1,k1,k2,reg_iff.2 ⟨h2',t.lo,t.al,t.hi⟩,fun j s hs=>?_,by omega,by omega⟩
              have:=t.ap s.r (regsU_mem.2 ⟨j,s,hs,rfl⟩)
              unfold apartE Sb.r at this
              simp only [Bool.or_eq_true,decide_eq_true_iff] at this
              omega
            · omega
      · rw [if_pos h3] at he;exact absurd he (by decide)
  · rw [if_pos h1] at he;exact absurd he h1
structure FullH (z hf k:Nat) (h:Ho):Prop where
  Z:HoZ z h
  lo:∀ j,j < k→∃ s,h.has j s∧s.b=(2 * j+1) * (2 * hf)∧s.hf=hf
  hi:∀ j s,h.has j s→j < k
section
variable {z hf k:Nat} {h:Ho}
theorem FullH.regs (F:FullH z hf k h) (r:Rg):r∈regsU h↔r∈fullL ((2 * hf:Nat):Int) k:=by
  rw [regsU_mem,full_mem]
  constructor
  · rintro ⟨j,s,hs,rfl⟩
    have hj:=F.hi j s hs
    obtain ⟨t,ht,e1,e2⟩:=F.lo j hj
    obtain rfl:=Ho.one hs ht
    refine ⟨j,hj,?_⟩
    unfold Sb.r
    rw [e1,e2]
    push_cast
    rfl
  · rintro ⟨j,hj,rfl⟩
    obtain ⟨t,ht,e1,e2⟩:=F.lo j hj
    refine ⟨j,t,ht,?_⟩
    unfold Sb.r
    rw [e1,e2]
    push_cast
    rfl
theorem free_is {h:Ho} {k:Nat} (hl:h.m.length=16) (hk:k < 16) (h1:h.m[k]?=some none) (h2:∀ j,j < k→∃ s,h.has j s):freeO h=some k:=by
  unfold freeO
  rw [List.find?_eq_some_iff_append]
  refine ⟨?_,List.range k,(List.range' (k+1) (16 - (k+1))),?_,fun j hj=>?_⟩
  · rw [List.getD_eq_getElem?_getD,h1];rfl
  · apply List.ext_getElem?
    intro i
    by_cases hi:i < 16
    · rw [List.getElem?_range hi]
      by_cases hik:i < k
      · rw [List.getElem?_append_left (by rw [List.length_range];exact hik),List.getElem?_range hik]
      · rw [List.getElem?_append_right (by rw [List.length_range];omega),List.length_range]
        by_cases he:i=k
        · subst he;simp
        · obtain ⟨q,hq⟩:∃ q,i - k=q+1:=⟨i - k - 1,by omega⟩
          rw [hq,List.getElem?_cons_succ,List.getElem?_range' (by omega)]
          congr 1;omega
    · rw [List.getElem?_eq_none (by rw [List.length_range];omega),List.getElem?_eq_none (by simp;omega)]
  · obtain ⟨s,hs⟩:=h2 j (List.mem_range.1 hj)
    unfold Ho.has at hs
    rw [List.getD_eq_getElem?_getD,hs]
    rfl
theorem FullH.free (F:FullH z hf k h) (hk:k < 16):freeO h=some k:=by
  have hl:=F.Z.ml
  refine free_is hl hk ?_ (fun j hj=>(F.lo j hj).imp fun s hs=>hs.1)
  rw [List.getElem?_eq_getElem (by omega)]
  cases he:h.m[k]'(by omega) with
  | none=>rfl
  | some s=>
    have hs:h.has k s:=by unfold Ho.has;rw [List.getElem?_eq_getElem (by omega),he]
    have:=F.hi k s hs
    omega
theorem FullH.take (F:FullH z hf k h) (hp:powS ((2 * hf:Nat):Int)=true) (hn:(2 * k+1) * (2 * hf)+2 * hf+64≤64 * z):takeV (regsU h) ((64 * z:Nat):Int) ((2 * hf:Nat):Int)=(((2 * k+1) * (2 * hf):Nat):Int):=by
  rw [takeV_mem F.regs hp]
  obtain ⟨o,ho⟩:=take_ex (fullL ((2 * hf:Nat):Int) k) ((64 * z:Nat):Int) ((2 * hf:Nat):Int) hp
  have e:(2 * (k:Int)+1) * ((2 * hf:Nat):Int)=(((2 * k+1) * (2 * hf):Nat):Int):=by push_cast;rfl
  rcases full_take hp k ho with ⟨rfl,_⟩ | ⟨rfl,h2⟩
  · rw [takeV_some ho,e]
  · exfalso
    rw [e] at h2
    omega
theorem FullH.start (z hf:Nat):FullH z hf 0 (newO z):=⟨newO_z z,fun j hj=>absurd hj (Nat.not_lt_zero _),fun j s hs=>absurd hs newO_has⟩
theorem FullH.next (F:FullH z hf k h) (hk:k < 16) (hp:powS ((2 * hf:Nat):Int)=true) (hn:(2 * k+1) * (2 * hf)+2 * hf+64≤64 * z) {code data rep:List Int} (hc:Bytes code) (hd:Bytes data) (h1:code.length≤hf) (h2:data.length≤hf) :
    FullH z hf (k+1) (loadO h k ((2 * k+1) * (2 * hf)) hf code data rep):=by
  have hfr:=free_some F.Z (F.free hk)
  have T:TakeOk (fullL ((2 * hf:Nat):Int) k) ((64 * z:Nat):Int) ((2 * hf:Nat):Int) (((2 * k+1) * (2 * hf):Nat):Int):=by
    have e:(2 * (k:Int)+1) * ((2 * hf:Nat):Int)=(((2 * k+1) * (2 * hf):Nat):Int):=by push_cast;rfl
    rw [← e]
    exact (full_free hp k _).2 ⟨Int.mul_emod_left _ _,Int.le_refl _,by rw [e];omega⟩
  have ha:∀ j s,h.has j s→s.b+2 * s.hf+64≤(2 * k+1) * (2 * hf)∨(2 * k+1) * (2 * hf)+2 * hf+64≤s.b:=fun j s hs=>by
    have:=T.ap s.r ((F.regs _).1 (regsU_mem.2 ⟨j,s,hs,rfl⟩))
    unfold apartE Sb.r at this
    simp only [Bool.or_eq_true,decide_eq_true_iff] at this
    omega
  have Z:=F.Z.load (rep:=rep) hfr.2.1 (reg_iff.2 ⟨hp,T.lo,T.al,T.hi⟩) ha hc hd h1 h2
  have hl:k < h.m.length:=by have:=F.Z.ml;omega
  refine ⟨Z,fun j hj=>?_,fun j s hs=>?_⟩
  · by_cases he:j=k
    · subst he
      exact ⟨_,has_set_same hl _,rfl,rfl⟩
    · obtain ⟨s,hs,e⟩:=F.lo j (by omega)
      exact ⟨s,has_other he hs,e⟩
  · rcases has_cases hs with ⟨rfl,_⟩ | ⟨_,hs2⟩
    · omega
    · have:=F.hi j s hs2;omega
end
theorem rising_one:∀ {l l':List Rg},l.Pairwise (fun a b=>a.1 < b.1)→l'.Pairwise (fun a b=>a.1 < b.1)→(∀ r,r∈l↔r∈l')→l=l'
  | [],[],_,_,_=>rfl
  | [],b :: l',_,_,h=>absurd ((h b).2 (List.mem_cons_self ..)) (by simp)
  | a :: l,[],_,_,h=>absurd ((h a).1 (List.mem_cons_self ..)) (by simp)
  | a :: l,b :: l',p,q,h=>by
    obtain ⟨p1,p2⟩:=List.pairwise_cons.1 p
    obtain ⟨q1,q2⟩:=List.pairwise_cons.1 q
    have e:a=b:=by
      rcases List.mem_cons.1 ((h a).1 (List.mem_cons_self ..)) with e | e
      · exact e
      · rcases List.mem_cons.1 ((h b).2 (List.mem_cons_self ..)) with f | f
        · exact f.symm
        · have:=p1 b f;have:=q1 a e;omega
    subst e
    rw [rising_one p2 q2 (fun r=>⟨fun hr=>?_,fun hr=>?_⟩)]
    · rcases List.mem_cons.1 ((h r).1 (List.mem_cons_of_mem _ hr)) with e | e
      · subst e;exact absurd (p1 _ hr) (by omega)
      · exact e
    · rcases List.mem_cons.1 ((h r).2 (List.mem_cons_of_mem _ hr)) with e | e
      · subst e;exact absurd (q1 _ hr) (by omega)
      · exact e
theorem right_rising {l:List Rg} {n:Int} (h:RightP l n):l.Pairwise (fun a b=>a.1 < b.1):=by
  refine h.ris.imp_of_mem (fun {a b} ha hb hab=>?_)
  have:=powS_pos (reg_iff.1 (h.reg a ha)).1
  unfold Bel64 at hab
  omega
structure RegsL (z:Nat) (h:Ho) (L:List Rg):Prop where
  ri:RightP L ((64 * z:Nat):Int)
  me:∀ r,r∈L↔r∈regsU h
theorem RegsL.one {z:Nat} {h:Ho} {L L':List Rg} (a:RegsL z h L) (b:RegsL z h L'):L=L':=
  rising_one (right_rising a.ri) (right_rising b.ri) (fun r=>(a.me r).trans (b.me r).symm)
structure DocH (z:Nat) (h:Ho) (I:List Bool) (R:List Rg):Prop where
  il:I.length=16
  rl:R.length=16
  is:∀ k,k < 16→(I.getD k false=true↔∃ s,h.has k s)
  at_:∀ k s,h.has k s→R.getD k (0,0)=s.r
def dIn (I:List Bool) (R:List Rg) (q i:Nat):List Rg:=(List.range i).filterMap (fun k=>if I.getD k false && decide ((R.getD k (0,0)).1=((128 * q:Nat):Int)) then some (R.getD k (0,0)) else none)
def dUp (I:List Bool) (R:List Rg) (q:Nat):List Rg:=(List.range q).flatMap (fun j=>dIn I R j 16)
theorem dIn_s (I:List Bool) (R:List Rg) (q i:Nat):dIn I R q (i+1)=dIn I R q i ++ (if I.getD i false && decide ((R.getD i (0,0)).1=((128 * q:Nat):Int)) then [R.getD i (0,0)] else []):=by
  unfold dIn
  rw [List.range_succ,List.filterMap_append]
  congr 1
  by_cases hc:(I.getD i false && decide ((R.getD i (0,0)).1=((128 * q:Nat):Int)))=true
  · rw [if_pos hc,List.filterMap_cons];simp only [if_pos hc,List.filterMap_nil]
  · rw [if_neg hc,List.filterMap_cons];simp only [if_neg hc,List.filterMap_nil]
theorem dUp_s (I:List Bool) (R:List Rg) (q:Nat):dUp I R (q+1)=dUp I R q ++ dIn I R q 16:=by
  unfold dUp
  rw [List.range_succ,List.flatMap_append]
  simp
section
variable {z:Nat} {h:Ho} {I:List Bool} {R:List Rg}
theorem dIn_mem {q i:Nat} {r:Rg}:r∈dIn I R q i↔∃ k,k < i∧I.getD k false=true∧R.getD k (0,0)=r∧r.1=((128 * q:Nat):Int):=by
  unfold dIn
  rw [List.mem_filterMap]
  constructor
  · rintro ⟨k,hk,e⟩
    split at e
    · rename_i hc
      injection e with e
      subst e
      simp only [Bool.and_eq_true,decide_eq_true_iff] at hc
      exact ⟨k,List.mem_range.1 hk,hc.1,rfl,hc.2⟩
    · cases e
  · rintro ⟨k,hk,h1,rfl,h2⟩
    refine ⟨k,List.mem_range.2 hk,?_⟩
    rw [if_pos (by simp only [Bool.and_eq_true,decide_eq_true_iff];exact ⟨h1,h2⟩)]
theorem DocH.mem (D:DocH z h I R) (H:HoZ z h) {q:Nat} (hq:128 * q≥64 * z) (r:Rg):r∈dUp I R q↔r∈regsU h:=by
  unfold dUp
  rw [List.mem_flatMap,regsU_mem]
  constructor
  · rintro ⟨j,hj,hr⟩
    obtain ⟨k,hk,h1,h2,h3⟩:=dIn_mem.1 hr
    obtain ⟨s,hs⟩:=(D.is k hk).1 h1
    exact ⟨k,s,hs,by rw [← D.at_ k s hs,h2]⟩
  · rintro ⟨k,s,hs,rfl⟩
    obtain ⟨q1,q2,q3,q4,q5,q6,q7⟩:=rg_nat (H.rg k s hs)
    have hk:k < 16:=by have:=Ho.has_lt hs;have:=H.ml;omega
    obtain ⟨a1,a2,a3,a4⟩:=reg_iff.1 (H.rg k s hs)
    have hb:s.b % 128=0:=by
      unfold Sb.r at a1 a3
      simp only at a1 a3
      unfold powS at a1
      simp only [Bool.or_eq_true,beq_iff_eq] at a1
      have hc:s.hf=64∨s.hf=128∨s.hf=256∨s.hf=512∨s.hf=1024∨s.hf=2048∨s.hf=4096∨s.hf=8192:=by omega
      rcases hc with e | e | e | e | e | e | e | e <;> rw [e] at a3 <;> omega
    refine ⟨s.b / 128,List.mem_range.2 (by omega),dIn_mem.2 ⟨k,hk,(D.is k hk).2 ⟨s,hs⟩,D.at_ k s hs,?_⟩⟩
    show (s.b:Int)=_
    omega
theorem DocH.ris (D:DocH z h I R) (H:HoZ z h) (q:Nat):(dUp I R q).Pairwise Bel64:=by
  have key:∀ j i (s t:Sb),j≠i→h.has j s→h.has i t→s.r.1≤t.r.1→Bel64 s.r t.r:=fun j i s t hne hs ht hle=>by
    have:=H.ap j i s t hne hs ht
    obtain ⟨q1,_⟩:=rg_nat (H.rg j s hs)
    obtain ⟨p1,_⟩:=rg_nat (H.rg i t ht)
    unfold Bel64 Sb.r at *
    simp only at hle ⊢
    omega
  unfold dUp
  rw [List.pairwise_flatMap]
  refine ⟨fun j hj=>?_,?_⟩
  · unfold dIn
    rw [List.pairwise_filterMap]
    refine List.pairwise_lt_range.imp_of_mem (fun {a b} ha hb hab r hr s hs=>?_)
    have hr2:=dIn_mem (i:=16) (q:=j) (r:=r) (I:=I) (R:=R)
    split at hr
    · rename_i hc
      split at hs
      · rename_i hd
        injection hr with hr
        injection hs with hs
        simp only [Bool.and_eq_true,decide_eq_true_iff] at hc hd
        obtain ⟨u,hu⟩:=(D.is a (List.mem_range.1 ha)).1 hc.1
        obtain ⟨v,hv⟩:=(D.is b (List.mem_range.1 hb)).1 hd.1
        have e1:=D.at_ a u hu
        have e2:=D.at_ b v hv
        rw [← hr,← hs,e1,e2]
        refine key a b u v (by omega) hu hv ?_
        rw [← e1,← e2,hc.2,hd.2]
        exact Int.le_refl _
      · cases hs
    · cases hr
  · refine List.pairwise_lt_range.imp_of_mem (fun {a b} ha hb hab r hr s hs=>?_)
    obtain ⟨j,hj,j1,j2,j3⟩:=dIn_mem.1 hr
    obtain ⟨i,hi,i1,i2,i3⟩:=dIn_mem.1 hs
    obtain ⟨u,hu⟩:=(D.is j hj).1 j1
    obtain ⟨v,hv⟩:=(D.is i hi).1 i1
    have e1:=(D.at_ j u hu).symm.trans j2
    have e2:=(D.at_ i v hv).symm.trans i2
    have hne:j≠i:=fun e=>by
      subst e
      have:=j2.symm.trans i2
      rw [this] at j3
      omega
    rw [← e1,← e2]
    refine key j i u v hne hu hv ?_
    rw [e1,e2,j3,i3]
    omega
theorem DocH.regs (D:DocH z h I R) (H:HoZ z h) (hz:z≤1024) {q:Nat} (hq:128 * q≥64 * z):RegsL z h (dUp I R q):=
  ⟨⟨by omega,by omega,fun r hr=>by
    obtain ⟨k,s,hs,rfl⟩:=regsU_mem.1 ((D.mem H hq r).1 hr)
    exact H.rg k s hs,D.ris H q⟩,D.mem H hq⟩
theorem DocH.new (z:Nat):DocH z (newO z) (List.replicate 16 false) (List.replicate 16 (0,0)):=
  ⟨List.length_replicate,List.length_replicate,fun k hk=>⟨fun e=>by
    rw [List.getD_eq_getElem?_getD,List.getElem?_replicate] at e
    split at e <;> simp at e,fun ⟨s,hs⟩=>absurd hs newO_has⟩,fun k s hs=>absurd hs newO_has⟩
theorem getD_set_self {α:Type} {l:List α} {k:Nat} (hk:k < l.length) (v d:α):(l.set k v).getD k d=v:=by
  rw [List.getD_eq_getElem?_getD,List.getElem?_set_self hk];rfl
theorem getD_set_ne {α:Type} {l:List α} {k j:Nat} (hk:k≠j) (v d:α):(l.set k v).getD j d=l.getD j d:=by
  rw [List.getD_eq_getElem?_getD,List.getElem?_set_ne hk,List.getD_eq_getElem?_getD]
theorem DocH.put (D:DocH z h I R) (H:HoZ z h) {k:Nat} (hk:k < 16) {B:List Int} {T:List Bool} (s:Sb):DocH z ⟨B,T,h.m.set k (some s)⟩ (I.set k true) (R.set k s.r):=by
  have hl:k < h.m.length:=by have:=H.ml;omega
  refine ⟨by rw [List.length_set];exact D.il,by rw [List.length_set];exact D.rl,fun j hj=>?_,fun j t ht=>?_⟩
  · by_cases he:j=k
    · subst he
      rw [getD_set_self (by rw [D.il];omega)]
      exact ⟨fun _=>⟨s,has_set_same hl _⟩,fun _=>rfl⟩
    · rw [getD_set_ne (Ne.symm he),D.is j hj]
      exact ⟨fun ⟨t,ht⟩=>⟨t,has_other he ht⟩,fun ⟨t,ht⟩=>by
        rcases has_cases ht with ⟨e,_⟩ | ⟨_,h2⟩
        · exact absurd e he
        · exact ⟨t,h2⟩⟩
  · rcases has_cases ht with ⟨rfl,e⟩ | ⟨hj,h2⟩
    · injection e with e
      subst e
      exact getD_set_self (by rw [D.rl];omega) _ _
    · rw [getD_set_ne (Ne.symm hj)]
      exact D.at_ j t h2
theorem DocH.kill (D:DocH z h I R) (H:HoZ z h) {k:Nat} (hk:k < 16) {s:Sb}:DocH z (killO h k s) (I.set k false) R:=by
  have hl:k < h.m.length:=by have:=H.ml;omega
  refine ⟨by rw [List.length_set];exact D.il,D.rl,fun j hj=>?_,fun j t ht=>?_⟩
  · by_cases he:j=k
    · subst he
      rw [getD_set_self (by rw [D.il];omega)]
      refine ⟨fun e=>(by cases e),fun ⟨t,ht⟩=>?_⟩
      rcases has_cases ht with ⟨_,e⟩ | ⟨h2,_⟩
      · cases e
      · exact absurd rfl h2
    · rw [getD_set_ne (Ne.symm he),D.is j hj]
      exact ⟨fun ⟨t,ht⟩=>⟨t,has_other he ht⟩,fun ⟨t,ht⟩=>by
        rcases has_cases ht with ⟨e,_⟩ | ⟨_,h2⟩
        · exact absurd e he
        · exact ⟨t,h2⟩⟩
  · rcases has_cases ht with ⟨rfl,e⟩ | ⟨hj,h2⟩
    · cases e
    · exact D.at_ j t h2
theorem DocH.run (D:DocH z h I R) (H:HoZ z h) {k:Nat} {s:Sb} (hs:h.has k s) (n:Nat):DocH z (runO h k s n) I R:=by
  refine ⟨D.il,D.rl,fun j hj=>?_,fun j t ht=>?_⟩
  · rw [D.is j hj]
    refine ⟨fun ⟨t,ht⟩=>?_,fun ⟨t,ht⟩=>?_⟩
    · by_cases he:j=k
      · subst he;exact ⟨_,has_set_same (Ho.has_lt hs) _⟩
      · exact ⟨t,has_other he ht⟩
    · rcases has_cases ht with ⟨rfl,_⟩ | ⟨_,h2⟩
      · exact ⟨s,hs⟩
      · exact ⟨t,h2⟩
  · rcases has_cases ht with ⟨rfl,e⟩ | ⟨hj,h2⟩
    · injection e with e
      subst e
      exact D.at_ _ s hs
    · exact D.at_ j t h2
theorem DocH.free (D:DocH z h I R) (H:HoZ z h) {k:Nat} (hk:k < 16) (h1:I.getD k false=false) (h2:∀ j,j < k→I.getD j false=true):freeO h=some k:=by
  refine free_is H.ml hk ?_ (fun j hj=>(D.is j (by omega)).1 (h2 j hj))
  have hl:=H.ml
  rw [List.getElem?_eq_getElem (by omega)]
  cases he:h.m[k]'(by omega) with
  | none=>rfl
  | some s=>
    have hs:h.has k s:=by unfold Ho.has;rw [List.getElem?_eq_getElem (by omega),he]
    have:=(D.is k hk).2 ⟨s,hs⟩
    rw [h1] at this
    cases this
theorem DocH.full (D:DocH z h I R) (H:HoZ z h) (h2:∀ j,j < 16→I.getD j false=true):freeO h=none:=by
  cases hq:freeO h with
  | none=>rfl
  | some k=>
    obtain ⟨k1,k2,_⟩:=free_some H hq
    obtain ⟨s,hs⟩:=(D.is k k1).1 (h2 k k1)
    unfold Ho.has at hs
    rw [k2] at hs
    cases hs
theorem RegsL.take {L:List Rg} (a:RegsL z h L) {size:Int} (hs:powS size=true):takeV L ((64 * z:Nat):Int) size=takeV (regsU h) ((64 * z:Nat):Int) size:=takeV_mem a.me hs
def thereF (I:List Bool) (R:List Rg) (a:Int):Nat→Bool
  | 0=>false
  | k+1=>thereF I R a k || (I.getD k false && decide ((R.getD k (0,0)).1≤a) && decide (a < (R.getD k (0,0)).1+(R.getD k (0,0)).2))
theorem thereF_iff (a:Int) (n:Nat):thereF I R a n=true↔∃ k,k < n∧I.getD k false=true∧(R.getD k (0,0)).1≤a∧a < (R.getD k (0,0)).1+(R.getD k (0,0)).2:=by
  induction n with
  | zero=>simp [thereF]
  | succ n ih=>
    unfold thereF
    rw [Bool.or_eq_true,ih]
    simp only [Bool.and_eq_true,decide_eq_true_iff]
    constructor
    · rintro (⟨k,k1,k2⟩ | ⟨⟨k1,k2⟩,k3⟩)
      · exact ⟨k,by omega,k2⟩
      · exact ⟨n,by omega,k1,k2,k3⟩
    · rintro ⟨k,k1,k2,k3,k4⟩
      by_cases e:k=n
      · subst e;exact .inr ⟨⟨k2,k3⟩,k4⟩
      · exact .inl ⟨k,by omega,k2,k3,k4⟩
theorem DocH.there (D:DocH z h I R) (H:HoZ z h) (a:Nat) (ha:a < 64 * z):h.T.getD (a / 64) false=thereF I R (a:Int) 16:=by
  rw [Bool.eq_iff_iff,H.zn (a / 64) (by omega),thereF_iff]
  constructor
  · rintro ⟨k,s,hs,h1,h2⟩
    obtain ⟨q1,q2,q3,q4,q5,q6,q7⟩:=rg_nat (H.rg k s hs)
    have hk:k < 16:=by have:=Ho.has_lt hs;have:=H.ml;omega
    refine ⟨k,hk,(D.is k hk).2 ⟨s,hs⟩,?_⟩
    rw [D.at_ k s hs]
    unfold Sb.r
    simp only
    omega
  · rintro ⟨k,hk,h1,h2,h3⟩
    obtain ⟨s,hs⟩:=(D.is k hk).1 h1
    obtain ⟨q1,q2,q3,q4,q5,q6,q7⟩:=rg_nat (H.rg k s hs)
    rw [D.at_ k s hs] at h2 h3
    unfold Sb.r at h2 h3
    simp only at h2 h3
    exact ⟨k,s,hs,by omega,by omega⟩
end
section
variable {z hf k n n0:Nat} {h:Ho}
theorem FullH.row (F:FullH z hf k h) (hz:z≤1024) (hp:powS ((2 * hf:Nat):Int)=true) (hn:k=0∨(2 * k - 1) * (2 * hf)+2 * hf+64≤64 * z):RegsL z h (fullL ((2 * hf:Nat):Int) k):=by
  refine ⟨full_right hp (by omega) (by omega) k ?_,fun r=>(F.regs r).symm⟩
  rcases hn with hn | hn
  · exact .inl hn
  · by_cases h0:k=0
    · exact .inl h0
    · right
      obtain ⟨q,rfl⟩:∃ q,k=q+1:=⟨k - 1,by omega⟩
      have e:(2 * (((q+1:Nat):Int) - 1)+1) * ((2 * hf:Nat):Int)=(((2 * (q+1) - 1) * (2 * hf):Nat):Int):=by
        rw [show 2 * (q+1) - 1=2 * q+1 by omega]
        push_cast
        rw [show (2 * ((q:Int)+1 - 1)+1)=2 * q+1 by omega]
      rw [e]
      omega
theorem FullH.loadE (F:FullH z hf k h) (hk:k < 16) (hp:powS ((2 * hf:Nat):Int)=true) (hn:(2 * k+1) * (2 * hf)+2 * hf+64≤64 * z) (E:Int) (code data:List Int) (h2:data.length≤hf) :
    loadE z h E code data ((2 * hf:Nat):Int)=if E≠0 then E else if code.length+32≤hf then 0 else 4:=by
  unfold Mm.loadE
  have hP:¬ (powS ((2 * hf:Nat):Int)=false):=by rw [hp];decide
  by_cases hE:E=0
  · have hE':¬ (E≠0):=by simp [hE]
    rw [if_neg hE',if_neg hE',if_neg hP,F.free hk,F.take hp hn]
    by_cases hc:code.length+32≤hf
    · have hC:¬ ¬ ((code.length:Int)≤((2 * hf:Nat):Int) / 2 - 32∧(data.length:Int)≤((2 * hf:Nat):Int) / 2):=by omega
      rw [if_pos hc,if_neg hC]
      simp only
      rw [if_neg (by omega)]
    · have hC:¬ ((code.length:Int)≤((2 * hf:Nat):Int) / 2 - 32∧(data.length:Int)≤((2 * hf:Nat):Int) / 2):=by omega
      rw [if_neg hc,if_pos hC]
  · rw [if_pos hE,if_pos hE]
end
structure EntV (es:List MapEntry) (V:Nat→Option Value):Prop where
  to_:∀ e∈es,∃ k:Nat,k < 16∧e.key=.int .i64 (k:Int)∧V k=some e.val
  of_:∀ k v,V k=some v→∃ e∈es,e.key=.int .i64 (k:Int)
theorem ikey {a b:Nat} (h:Value.int .i64 (a:Int)=.int .i64 (b:Int)):a=b:=by injection h with _ h;omega
theorem EntV.val {es:List MapEntry} {V:Nat→Option Value} (h:EntV es V) {e:MapEntry} (he:e∈es) {k:Nat} (hk:e.key=.int .i64 (k:Int)):V k=some e.val∧k < 16:=by
  obtain ⟨j,j1,j2,j3⟩:=h.to_ e he
  rw [hk] at j2
  obtain rfl:=ikey j2
  exact ⟨j3,j1⟩
def MapAt (w:World) (b:Nat) (V:Nat→Option Value):Prop:=∃ es c,w.heap[b]?=some (.map es c)∧MapKept.Stamped es c∧EntV es.toList V
theorem MapAt.made (w:World):MapAt (w.alloc (.map #[] 0)) w.heap.size (fun _=>none):=
  ⟨#[],0,(MapKept.heap_alloc w _).1,⟨fun x hx=>by simp at hx,List.nodup_nil,List.nodup_nil⟩,fun e he=>by simp at he,fun k v h=>by cases h⟩
theorem MapAt.lt {w:World} {b:Nat} {V:Nat→Option Value} (h:MapAt w b V):b < w.heap.size:=by
  obtain ⟨es,c,hb,_⟩:=h
  exact (Array.getElem?_eq_some_iff.1 hb).1
theorem MapAt.keep {w w':World} {b:Nat} {V:Nat→Option Value} (h:MapAt w b V) (hb:w'.heap[b]?=w.heap[b]?):MapAt w' b V:=by
  obtain ⟨es,c,h1,h2⟩:=h
  exact ⟨es,c,hb.trans h1,h2⟩
theorem MapAt.below {w w':World} {b:Nat} {V:Nat→Option Value} (h:MapAt w b V) (hb:Below w.heap.size w w'):MapAt w' b V:=h.keep (hb.block b h.lt)
theorem ent_find:∀ (es:List MapEntry) (V:Nat→Option Value) (i:Nat) (q:Int),(∀ e∈es,∃ k:Nat,e.key=.int .i64 (k:Int)) →
    (∃ j e,es[j]?=some e∧e.key=.int .i64 q∧Instr.findNow (.int .i64) (.int .i64 q) es i=some (some (i+j,e.val)))∨((∀ e∈es,e.key≠.int .i64 q)∧Instr.findNow (.int .i64) (.int .i64 q) es i=some none):=by
  intro es
  induction es with
  | nil=>intro V i q _;exact .inr ⟨fun e he=>(by cases he),rfl⟩
  | cons e es ih=>
    intro V i q h
    obtain ⟨k,hk⟩:=h e (List.mem_cons_self ..)
    have hs:Instr.sameNow (.int .i64) (.int .i64 q) e.key=some (q == (k:Int)):=by rw [hk];rfl
    by_cases hq:q=(k:Int)
    · left
      refine ⟨0,e,rfl,by rw [hk,hq],?_⟩
      unfold Instr.findNow
      rw [hs,show (q == (k:Int))=true from beq_iff_eq.2 hq]
      rfl
    · have hf:Instr.findNow (.int .i64) (.int .i64 q) (e :: es) i=Instr.findNow (.int .i64) (.int .i64 q) es (i+1):=by
        conv=>lhs;unfold Instr.findNow
        rw [hs,show (q == (k:Int))=false from beq_eq_false_iff_ne.2 hq]
      rw [hf]
      rcases ih V (i+1) q (fun x hx=>h x (List.mem_cons_of_mem _ hx)) with ⟨j,x,h1,h2,h3⟩ | ⟨h1,h2⟩
      · exact .inl ⟨j+1,x,by simpa using h1,h2,by rw [h3,show i+1+j=i+(j+1) by omega]⟩
      · refine .inr ⟨fun x hx=>?_,h2⟩
        rcases List.mem_cons.1 hx with rfl | hx
        · rw [hk];intro he;injection he with _ he;exact hq he.symm
        · exact h1 x hx
theorem EntV.keys {es:List MapEntry} {V:Nat→Option Value} (h:EntV es V):∀ e∈es,∃ k:Nat,e.key=.int .i64 (k:Int):=fun e he=>by
  obtain ⟨k,_,hk,_⟩:=h.to_ e he
  exact ⟨k,hk⟩
def atI (V:Nat→Option Value) (q:Int):Option Value:=if 0≤q then V q.toNat else none
theorem atI_nat (V:Nat→Option Value) (k:Nat):atI V (k:Int)=V k:=by unfold atI;rw [if_pos (by omega)];simp
section
variable {P:Program} {mt kt et:TypeId}
theorem MapAt.look {w:World} {b:Nat} {V:Nat→Option Value} (h:MapAt w b V) (hm:P.underlying mt=some (.map kt et)) (hk:P.underlying kt=some (.int .i64)) {z:Value} (hz:(zeroValue et).run P w=.ok z w) (q:Int) (ok:Bool) :
    (Instr.lookup mt (.map (some b)) (.int .i64 q) ok).run P w=.ok (match atI V q with | some v=>if ok then .tuple #[v,.bool true] else v | none=>if ok then .tuple #[z,.bool false] else z) w:=by
  obtain ⟨es,c,h1,h2,h3⟩:=h
  have hkey:MapKept.IsKey (.int .i64) (.int .i64 q):=rfl
  rcases ent_find es.toList V 0 q h3.keys with ⟨j,e,f1,f2,hf⟩ | ⟨f1,hf⟩
  · have hv:atI V q=some e.val:=by
      obtain ⟨k,_,hk2,hk3⟩:=h3.to_ e (List.mem_of_getElem? f1)
      rw [f2] at hk2
      injection hk2 with _ hk2
      subst hk2
      rw [atI_nat];exact hk3
    rw [hv]
    cases ok <;> simp [Instr.lookup,run_underlying hm,MapKept.run_getObj_map h1,MapKept.run_checkKey hk hkey,MapKept.run_findKey hk hf,Result.andThen]
  · have hv:atI V q=none:=by
      unfold atI
      split
      · rename_i h0
        cases hc:V q.toNat with
        | none=>rfl
        | some v=>
          obtain ⟨e,he,hke⟩:=h3.of_ _ v hc
          exact absurd (by rw [hke,show ((q.toNat:Nat):Int)=q by omega]) (f1 e he)
      · rfl
    rw [hv]
    cases ok <;> simp [Instr.lookup,run_underlying hm,MapKept.run_getObj_map h1,MapKept.run_checkKey hk hkey,MapKept.run_findKey hk hf,Result.andThen,hz]
theorem MapAt.put {w:World} {b:Nat} {V:Nat→Option Value} (h:MapAt w b V) (hm:P.underlying mt=some (.map kt et)) (hk:P.underlying kt=some (.int .i64)) (k:Nat) (hk16:k < 16) (v:Value) :
    ∃ w',(Instr.mapUpdate mt (.map (some b)) (.int .i64 k) v).run P w=.ok () w'∧MapAt w' b (fun j=>if j=k then some v else V j)∧w.grownBy w' (some b)∧w'.heap.size=w.heap.size:=by
  obtain ⟨es,c,h1,h2,h3⟩:=h
  have hkey:MapKept.IsKey (.int .i64) (.int .i64 (k:Int)):=rfl
  obtain ⟨s1,s2,s3⟩:=(MapKept.stamped_iff es c).1 h2
  rcases ent_find es.toList V 0 k h3.keys with ⟨j,e,f1,f2,hf⟩ | ⟨f1,hf⟩
  · have hjl:j < es.toList.length:=(List.getElem?_eq_some_iff.1 f1).1
    have hjs:j < es.size:=by simpa using hjl
    have f1':es[j]?=some e:=by simpa using f1
    have hmod:(es.modify j fun x=>{ x with key:=Value.int .i64 (k:Int),val:=v }).toList=es.toList.set j { e with key:=Value.int .i64 (k:Int),val:=v }:=by
      apply List.ext_getElem?
      intro i
      by_cases hi:i=j
      · subst hi
        rw [List.getElem?_set_self hjl]
        simp [Array.getElem?_toList,f1']
      · rw [List.getElem?_set_ne (Ne.symm hi)]
        simp [Array.getElem?_toList,Ne.symm hi]
    have hmem:∀ x,x∈es.toList.set j { e with key:=Value.int .i64 (k:Int),val:=v }→(x={ e with key:=Value.int .i64 (k:Int),val:=v })∨(x∈es.toList∧x.key≠.int .i64 (k:Int)):=by
      intro x hx
      obtain ⟨i,hi⟩:=List.mem_iff_getElem?.1 hx
      by_cases hij:i=j
      · subst hij
        rw [List.getElem?_set_self hjl] at hi
        injection hi with hi
        exact .inl hi.symm
      · rw [List.getElem?_set_ne (Ne.symm hij)] at hi
        refine .inr ⟨List.mem_of_getElem? hi,fun hxk=>?_⟩
        have hil:i < es.toList.length:=(List.getElem?_eq_some_iff.1 hi).1
        have e1:es.toList[i]=x:=by rw [List.getElem?_eq_getElem hil] at hi;injection hi
        have e2:es.toList[j]=e:=by rw [List.getElem?_eq_getElem hjl] at f1;injection f1
        have hp:=List.pairwise_iff_getElem.1 s3
        rcases Nat.lt_or_ge i j with hlt | hge
        · have:=hp i j hil hjl hlt
          rw [e1,e2,hxk,f2] at this
          exact this rfl
        · have:=hp j i hjl hil (by omega)
          rw [e1,e2,hxk,f2] at this
          exact this rfl
    have hkeys:(es.toList.set j { e with key:=Value.int .i64 (k:Int),val:=v }).map (·.key)=es.toList.map (·.key):=by
      rw [List.map_set]
      apply List.ext_getElem?
      intro i
      by_cases hi:i=j
      · subst hi
        rw [List.getElem?_set_self (by simpa using hjl),List.getElem?_map,f1]
        simp [f2]
      · rw [List.getElem?_set_ne (Ne.symm hi)]
    have hborn:(es.toList.set j { e with key:=Value.int .i64 (k:Int),val:=v }).map (·.born)=es.toList.map (·.born):=by
      rw [List.map_set]
      apply List.ext_getElem?
      intro i
      by_cases hi:i=j
      · subst hi
        rw [List.getElem?_set_self (by simpa using hjl),List.getElem?_map,f1]
        simp
      · rw [List.getElem?_set_ne (Ne.symm hi)]
    refine ⟨{ w with heap:=w.heap.setIfInBounds b (.map (es.modify j fun x=>{ x with key:=Value.int .i64 (k:Int),val:=v }) c) },?_,⟨_,c,(MapKept.heap_set h1).1,?_,?_,?_⟩,?_,by simp⟩
    · have hf':Instr.findNow (.int .i64) (.int .i64 (k:Int)) es.toList 0=some (some (j,e.val)):=by simpa using hf
      have hst:(Instr.keyThatStays (Value.int .i64 (k:Int)) (Value.int .i64 (k:Int))).run P w=.ok (Value.int .i64 (k:Int)) w:=by
        have hsb:Instr.sameBits 10000 (Value.int .i64 (k:Int)) (Value.int .i64 (k:Int))=true:=by simp [Instr.sameBits]
        simp [Instr.keyThatStays,hsb]
      simp [Instr.mapUpdate,run_underlying hm,MapKept.run_getObj_map h1,MapKept.run_checkKey hk hkey,MapKept.run_findKey hk hf',Result.andThen,f1',f2,hst,MapKept.run_setObj_map _ h1]
    · rw [MapKept.stamped_iff,hmod,hborn]
      refine ⟨fun x hx=>?_,s2,?_⟩
      · rcases hmem x hx with rfl | ⟨hx,_⟩
        · exact s1 e (List.mem_of_getElem? f1)
        · exact s1 x hx
      · have:=List.pairwise_map.2 s3
        rw [← hkeys] at this
        exact List.pairwise_map.1 this
    · rw [hmod]
      intro x hx
      rcases hmem x hx with rfl | ⟨hx,hne⟩
      · exact ⟨k,hk16,rfl,by simp⟩
      · obtain ⟨i,i1,i2,i3⟩:=h3.to_ x hx
        refine ⟨i,i1,i2,?_⟩
        have:i≠k:=fun hik=>hne (by rw [i2,hik])
        simp only [if_neg this]
        exact i3
    · rw [hmod]
      intro i u hu
      by_cases hik:i=k
      · subst hik
        exact ⟨_,List.mem_of_getElem? (List.getElem?_set_self hjl),rfl⟩
      · simp only [if_neg hik] at hu
        obtain ⟨x,hx,hxk⟩:=h3.of_ i u hu
        have:Value.int .i64 (i:Int)∈(es.toList.set j { e with key:=Value.int .i64 (k:Int),val:=v }).map (·.key):=by
          rw [hkeys]
          exact List.mem_map.2 ⟨x,hx,hxk⟩
        obtain ⟨y,hy,hyk⟩:=List.mem_map.1 this
        exact ⟨y,hy,hyk⟩
    · exact ⟨rfl,rfl,rfl,by simp,fun i _ hne=>(MapKept.heap_set h1).2 i (fun e=>hne (by rw [e]))⟩
  · refine ⟨{ w with heap:=w.heap.setIfInBounds b (.map (es.push { key:=.int .i64 k,val:=v,born:=c }) (c+1)) },?_,⟨_,c+1,(MapKept.heap_set h1).1,MapKept.stamped_push h2 f1,?_,?_⟩,?_,by simp⟩
    · simp [Instr.mapUpdate,run_underlying hm,MapKept.run_getObj_map h1,MapKept.run_checkKey hk hkey,MapKept.run_findKey hk hf,MapKept.run_setObj_map _ h1,Result.andThen]
    · intro x hx
      rw [Array.toList_push] at hx
      rcases List.mem_append.1 hx with hx | hx
      · obtain ⟨i,i1,i2,i3⟩:=h3.to_ x hx
        refine ⟨i,i1,i2,?_⟩
        have:i≠k:=fun hik=>f1 x hx (by rw [i2,hik])
        simp only [if_neg this]
        exact i3
      · obtain rfl:=List.mem_singleton.1 hx
        exact ⟨k,hk16,rfl,by simp⟩
    · intro i u hu
      rw [Array.toList_push]
      by_cases hik:i=k
      · subst hik
        exact ⟨_,List.mem_append.2 (.inr (List.mem_singleton.2 rfl)),rfl⟩
      · simp only [if_neg hik] at hu
        obtain ⟨x,hx,hxk⟩:=h3.of_ i u hu
        exact ⟨x,List.mem_append.2 (.inl hx),hxk⟩
    · exact ⟨rfl,rfl,rfl,by simp,fun i _ hne=>(MapKept.heap_set h1).2 i (fun e=>hne (by rw [e]))⟩
theorem MapAt.del {w:World} {b:Nat} {V:Nat→Option Value} (h:MapAt w b V) (hm:P.underlying mt=some (.map kt et)) (hk:P.underlying kt=some (.int .i64)) (k:Nat) (ty:TypeId) :
    ∃ w',(Builtin.delete_ #[mt,kt] ty #[.map (some b),.int .i64 k]).run P w=.ok (.tuple #[]) w'∧MapAt w' b (fun j=>if j=k then none else V j)∧w.grownBy w' (some b)∧w'.heap.size=w.heap.size:=by
  obtain ⟨es,c,h1,h2,h3⟩:=h
  have hkey:MapKept.IsKey (.int .i64) (.int .i64 (k:Int)):=rfl
  obtain ⟨s1,s2,s3⟩:=(MapKept.stamped_iff es c).1 h2
  rcases ent_find es.toList V 0 k h3.keys with ⟨j,e,f1,f2,hf⟩ | ⟨f1,hf⟩
  · have hjl:j < es.toList.length:=(List.getElem?_eq_some_iff.1 f1).1
    have hjs:j < es.size:=by simpa using hjl
    have hsub:(es.eraseIdxIfInBounds j).toList=es.toList.eraseIdx j:=by
      unfold Array.eraseIdxIfInBounds
      rw [dif_pos hjs]
      simp
    have e2:es.toList[j]=e:=by rw [List.getElem?_eq_getElem hjl] at f1;injection f1
    have hp:=List.pairwise_iff_getElem.1 s3
    have hmem:∀ x,x∈es.toList.eraseIdx j↔x∈es.toList∧x.key≠.int .i64 (k:Int):=by
      intro x
      rw [List.mem_eraseIdx_iff_getElem?]
      constructor
      · rintro ⟨i,hne,hi⟩
        refine ⟨List.mem_of_getElem? hi,fun hxk=>?_⟩
        have hil:i < es.toList.length:=(List.getElem?_eq_some_iff.1 hi).1
        have e1:es.toList[i]=x:=by rw [List.getElem?_eq_getElem hil] at hi;injection hi
        rcases Nat.lt_or_ge i j with hlt | hge
        · have:=hp i j hil hjl hlt
          rw [e1,e2,hxk,f2] at this
          exact this rfl
        · have:=hp j i hjl hil (by omega)
          rw [e1,e2,hxk,f2] at this
          exact this rfl
      · rintro ⟨hx,hne⟩
        obtain ⟨i,hi⟩:=List.getElem?_of_mem hx
        refine ⟨i,fun e1=>hne ?_,hi⟩
        rw [e1,f1] at hi
        injection hi with hi
        rw [← hi];exact f2
    refine ⟨{ w with heap:=w.heap.setIfInBounds b (.map (es.eraseIdxIfInBounds j) c) },?_,⟨_,c,(MapKept.heap_set h1).1,MapKept.stamped_erase h2 j,?_,?_⟩,?_,by simp⟩
    · have hf':Instr.findNow (.int .i64) (.int .i64 (k:Int)) es.toList 0=some (some (j,e.val)):=by simpa using hf
      simp [Builtin.delete_,run_underlying hm,MapKept.run_getObj_map h1,MapKept.run_checkKey hk hkey,MapKept.run_findKey hk hf',MapKept.run_setObj_map _ h1,Result.andThen]
    · rw [hsub]
      intro x hx
      obtain ⟨hx1,hx2⟩:=(hmem x).1 hx
      obtain ⟨i,i1,i2,i3⟩:=h3.to_ x hx1
      refine ⟨i,i1,i2,?_⟩
      have:i≠k:=fun hik=>hx2 (by rw [i2,hik])
      simp only [if_neg this]
      exact i3
    · rw [hsub]
      intro i u hu
      by_cases hik:i=k
      · simp [hik] at hu
      · simp only [if_neg hik] at hu
        obtain ⟨x,hx,hxk⟩:=h3.of_ i u hu
        exact ⟨x,(hmem x).2 ⟨hx,by rw [hxk];exact fun e=>hik (ikey e)⟩,hxk⟩
    · exact ⟨rfl,rfl,rfl,by simp,fun i _ hne=>(MapKept.heap_set h1).2 i (fun e=>hne (by rw [e]))⟩
  · refine ⟨{ w with heap:=w.heap.setIfInBounds b (.map es c) },?_,⟨_,c,(MapKept.heap_set h1).1,h2,?_,?_⟩,?_,by simp⟩
    · simp [Builtin.delete_,run_underlying hm,MapKept.run_getObj_map h1,MapKept.run_checkKey hk hkey,MapKept.run_findKey hk hf,MapKept.run_setObj_map _ h1,Result.andThen]
    · intro x hx
      obtain ⟨i,i1,i2,i3⟩:=h3.to_ x hx
      refine ⟨i,i1,i2,?_⟩
      have:i≠k:=fun hik=>f1 x hx (by rw [i2,hik])
      simp only [if_neg this]
      exact i3
    · intro i u hu
      by_cases hik:i=k
      · simp [hik] at hu
      · simp only [if_neg hik] at hu
        exact h3.of_ i u hu
    · exact ⟨rfl,rfl,rfl,by simp,fun i _ hne=>(MapKept.heap_set h1).2 i (fun e=>hne (by rw [e]))⟩
end
theorem nodup_le:∀ (n:Nat) (K:List Nat),K.Nodup→(∀ k∈K,k < n)→K.length≤n:=by
  intro n
  induction n with
  | zero=>
    intro K _ h
    cases K with
    | nil=>simp
    | cons k t=>exact absurd (h k (List.mem_cons_self ..)) (by omega)
  | succ n ih=>
    intro K hn h
    have h1:=ih (K.erase n) (hn.erase n) (fun k hk=>by
      have h2:=(hn.mem_erase_iff.1 hk)
      have:=h k h2.2
      omega)
    have:=List.length_erase_le (a:=n) (l:=K)
    have h3:K.length≤(K.erase n).length+1:=by
      by_cases hm:n∈K
      · rw [List.length_erase_of_mem hm];omega
      · rw [List.erase_of_not_mem hm];omega
    omega
theorem full_ge:∀ (n:Nat) (K:List Nat),K.Nodup→(∀ k,k < n→k∈K)→n≤K.length:=by
  intro n
  induction n with
  | zero=>intro K _ _;omega
  | succ n ih=>
    intro K hn h
    have h1:=ih (K.erase n) (hn.erase n) (fun k hk=>by rw [hn.mem_erase_iff];exact ⟨by omega,h k (by omega)⟩)
    rw [List.length_erase_of_mem (h n (by omega))] at h1
    have:0 < K.length:=List.length_pos_of_mem (h n (by omega))
    omega
theorem ent_size {es:Array MapEntry} {c:Nat} {V:Nat→Option Value} (h2:MapKept.Stamped es c) (h3:EntV es.toList V):es.size≤16∧(es.size=16↔∀ k,k < 16→(V k).isSome=true):=by
  obtain ⟨s1,s2,s3⟩:=(MapKept.stamped_iff es c).1 h2
  have key:∀ e:MapEntry,∃ k:Nat,e∈es.toList→e.key=.int .i64 (k:Int)∧k < 16:=fun e=>by
    by_cases he:e∈es.toList
    · obtain ⟨k,k1,k2,_⟩:=h3.to_ e he
      exact ⟨k,fun _=>⟨k2,k1⟩⟩
    · exact ⟨0,fun h=>absurd h he⟩
  obtain ⟨f,hf⟩:∃ f:MapEntry→Nat,∀ e,e∈es.toList→e.key=.int .i64 (f e:Int)∧f e < 16:=⟨fun e=>Classical.choose (key e),fun e=>Classical.choose_spec (key e)⟩
  have hnd:(es.toList.map f).Nodup:=by
    unfold List.Nodup
    rw [List.pairwise_map]
    refine s3.imp_of_mem (fun {x y} hx hy hxy e=>hxy ?_)
    rw [(hf x hx).1,(hf y hy).1,e]
  have hlt:∀ k∈es.toList.map f,k < 16:=fun k hk=>by
    obtain ⟨e,he,rfl⟩:=List.mem_map.1 hk
    exact (hf e he).2
  have hl:(es.toList.map f).length=es.size:=by simp
  have hmem:∀ k,k∈es.toList.map f↔∃ v,V k=some v:=fun k=>by
    constructor
    · intro hk
      obtain ⟨e,he,rfl⟩:=List.mem_map.1 hk
      exact ⟨_,(h3.val he (hf e he).1).1⟩
    · rintro ⟨v,hv⟩
      obtain ⟨e,he,hk⟩:=h3.of_ k v hv
      refine List.mem_map.2 ⟨e,he,?_⟩
      have:=(hf e he).1
      rw [hk] at this
      exact (ikey this).symm
  refine ⟨?_,?_⟩
  · rw [← hl];exact nodup_le 16 _ hnd hlt
  · constructor
    · intro hn k hk
      rw [Option.isSome_iff_exists]
      refine (hmem k).1 (Classical.byContradiction fun hk2=>?_)
      have h4:=nodup_le 16 (k :: es.toList.map f) (List.nodup_cons.2 ⟨hk2,hnd⟩) (fun j hj=>by
        rcases List.mem_cons.1 hj with rfl | hj
        · exact hk
        · exact hlt j hj)
      rw [List.length_cons,hl] at h4
      omega
    · intro h
      have h4:=full_ge 16 _ hnd (fun k hk=>(hmem k).2 (Option.isSome_iff_exists.1 (h k hk)))
      have h5:=nodup_le 16 _ hnd hlt
      omega
theorem MapAt.size {w:World} {b:Nat} {V:Nat→Option Value} (h:MapAt w b V):∃ n:Nat,(∀ (P:Program) (mt kt et ty:TypeId),P.underlying mt=some (.map kt et)→(Builtin.len_ #[mt] ty #[.map (some b)]).run P w=.ok (.int .i64 n) w)∧n≤16∧(n=16↔∀ k,k < 16→(V k).isSome=true):=by
  obtain ⟨es,c,h1,h2,h3⟩:=h
  exact ⟨es.size,fun P mt kt et ty hm=>by simp [Builtin.len_,run_underlying hm,MapKept.run_getObj_map h1,goInt,Result.andThen],ent_size h2 h3⟩
def MapRg (w:World) (b r:Nat) (V:Nat→Option Value) (D:Nat→Bool) (cnt:Nat):Prop:=
  ∃ es c since seen c0,w.heap[b]?=some (.map es c)∧MapKept.Stamped es c∧EntV es.toList V∧w.heap[r]?=some (.mapIter (some b) since seen c0)∧(∀ x∈es.toList,x.born < since)∧(leftOf es seen).size=cnt ∧
    (∀ x∈es.toList,∀ k:Nat,x.key=.int .i64 (k:Int)→D k=seen.contains x.born)∧since≤c0∧since≤c
theorem MapRg.at_ {w:World} {b r:Nat} {V:Nat→Option Value} {D:Nat→Bool} {cnt:Nat} (h:MapRg w b r V D cnt):MapAt w b V:=by
  obtain ⟨es,c,since,seen,c0,h1,h2,h3,_⟩:=h
  exact ⟨es,c,h1,h2,h3⟩
theorem MapRg.lt {w:World} {b r:Nat} {V:Nat→Option Value} {D:Nat→Bool} {cnt:Nat} (h:MapRg w b r V D cnt):r < w.heap.size:=by
  obtain ⟨es,c,since,seen,c0,h1,h2,h3,h4,_⟩:=h
  exact (Array.getElem?_eq_some_iff.1 h4).1
theorem MapRg.ne {w:World} {b r:Nat} {V:Nat→Option Value} {D:Nat→Bool} {cnt:Nat} (h:MapRg w b r V D cnt):r≠b:=by
  obtain ⟨es,c,since,seen,c0,h1,h2,h3,h4,_⟩:=h
  intro e
  rw [e,h1] at h4
  cases h4
theorem MapRg.keep {w w':World} {b r:Nat} {V:Nat→Option Value} {D:Nat→Bool} {cnt:Nat} (h:MapRg w b r V D cnt) (hb:w'.heap[b]?=w.heap[b]?) (hr:w'.heap[r]?=w.heap[r]?):MapRg w' b r V D cnt:=by
  obtain ⟨es,c,since,seen,c0,h1,h2,h3,h4,h5⟩:=h
  exact ⟨es,c,since,seen,c0,hb.trans h1,h2,h3,hr.trans h4,h5⟩
theorem MapRg.below {w w':World} {b r:Nat} {V:Nat→Option Value} {D:Nat→Bool} {cnt:Nat} (h:MapRg w b r V D cnt) (hb:Below w.heap.size w w'):MapRg w' b r V D cnt:=h.keep (hb.block b h.at_.lt) (hb.block r h.lt)
theorem MapRg.left_eq {w:World} {b r:Nat} {V:Nat→Option Value} {D:Nat→Bool} {cnt:Nat} (h:MapRg w b r V D cnt):w.rangeLeft b r=cnt:=by
  obtain ⟨es,c,since,seen,c0,h1,h2,h3,h4,h5,h6,_⟩:=h
  simp only [World.rangeLeft,h1,h4]
  exact h6
theorem MapAt.range {P:Program} {mt kt et:TypeId} {w:World} {b:Nat} {V:Nat→Option Value} (h:MapAt w b V) (hm:P.underlying mt=some (.map kt et)) :
    ∃ w',(Instr.range mt (.map (some b))).run P w=.ok (.pointer (some ⟨w.heap.size,0,none⟩)) w'∧(∃ cnt,cnt≤16∧MapRg w' b w.heap.size V (fun _=>false) cnt)∧Below w.heap.size w w'∧w'.heap.size=w.heap.size+1:=by
  have hlt:=h.lt
  obtain ⟨es,c,h1,h2,h3⟩:=h
  obtain ⟨s1,s2,s3⟩:=(MapKept.stamped_iff es c).1 h2
  exact ⟨_,run_range_map w mt kt et b es c hm h1,⟨_,Nat.le_trans (Array.size_filter_le ..) (ent_size h2 h3).1,es,c,c,#[],c,((MapKept.heap_alloc w _).2 b hlt).trans h1,h2,h3,(MapKept.heap_alloc w _).1,s1,rfl,fun x hx k hk=>by simp,Nat.le_refl _,Nat.le_refl _⟩,(Below.refl _ _).alloc (Nat.le_refl _) _,by simp⟩
theorem MapRg.next {P:Program} {w:World} {b r:Nat} {V:Nat→Option Value} {D:Nat→Bool} {cnt:Nat} (h:MapRg w b r V D cnt) (ty:TypeId) :
    ((∀ k v,V k=some v→D k=true)∧(Instr.next (.pointer (some ⟨r,0,none⟩)) false ty).run P w=.ok (.tuple #[.bool false]) w) ∨
    ∃ (k:Nat) (v:Value) (w':World) (cnt':Nat),k < 16∧V k=some v∧D k=false∧(Instr.next (.pointer (some ⟨r,0,none⟩)) false ty).run P w=.ok (.tuple #[.bool true,.int .i64 (k:Int),v]) w' ∧
      MapRg w' b r V (fun j=>D j || j == k) cnt'∧cnt' < cnt∧w.grownBy w' (some r)∧w'.heap.size=w.heap.size∧(Instr.entry (.pointer (some ⟨r,0,none⟩))).run P w'=.ok (.tuple #[.int .i64 (k:Int),v]) w':=by
  have hne:=h.ne
  obtain ⟨es,c,since,seen,c0,hb,F,E,hr,hold,rfl,hl1,hsc,hsk⟩:=h
  obtain ⟨s1,s2,s3⟩:=(MapKept.stamped_iff es c).1 F
  rcases run_next_at (P:=P) w ty r b since c0 seen es c hr hb hold hsc with ⟨h0,hrun⟩ | ⟨e,he,w1,hal,hrun⟩
  · refine Or.inl ⟨fun k v hv=>?_,hrun⟩
    obtain ⟨x,hx,hk⟩:=E.of_ k v hv
    rw [hl1 x hx k hk]
    exact all_seen es seen h0 x hx
  · obtain ⟨hem,hes⟩:=mem_left he
    obtain ⟨k,k1,k2,k3⟩:=E.to_ e hem
    have hr1:w1.heap[r]?=some (.mapIter (some b) since seen c0):=by rcases hal with rfl | rfl <;> exact hr
    have hb1:w1.heap[b]?=some (.map es c):=by rcases hal with rfl | rfl <;> exact hb
    have hset:=MapKept.heap_set (o':=.mapIter (some b) since (seen.push e.born) c) hr1
    have hb':(setBlock w1 r (.mapIter (some b) since (seen.push e.born) c)).heap[b]?=some (.map es c):=(hset.2 b (fun e1=>hne e1.symm)).trans hb1
    refine Or.inr ⟨k,e.val,_,_,k1,k3,by rw [hl1 e hem k k2];exact hes,by rw [← k2];exact hrun,
      ⟨es,c,since,seen.push e.born,c,hb',F,E,hset.1,hold,rfl,fun x hx j hj=>?_,hsk,hsk⟩,left_shrinks es seen e he,?_,?_,
      by rw [← k2];exact run_entry_at _ r b since seen es c e hset.1 hb' hem s2⟩
    · show (D j || j == k)=_
      rw [hl1 x hx j hj,contains_push]
      congr 1
      by_cases hjk:j=k
      · subst hjk
        have:x=e:=entry_eq_of_key s3 hx hem (by rw [hj,k2])
        rw [this]
        simp
      · have h1:(j == k)=false:=by simp [hjk]
        have h2:(x.born == e.born)=false:=by
          cases hc:x.born == e.born
          · rfl
          · exfalso
            have:=born_inj s2 hx hem (by simpa using hc)
            rw [this,k2] at hj
            exact hjk (ikey hj).symm
        rw [h1,h2]
    · rcases hal with rfl | rfl <;> exact ⟨rfl,rfl,rfl,by simp [setBlock],fun i _ hi=>hset.2 i (fun e1=>hi (by rw [e1]))⟩
    · rcases hal with rfl | rfl <;> simp [setBlock]
section
variable {P:Program} {w:World} {ops:Array Oper} {rest:List Oper} {o:Oper} {a:Act} {Q:Exit→Act→World→Prop}
theorem wpList_range_m (hg:o.guard=none) (m:Operand) (t k e:TypeId) (hop:o.op=Op.range t m) (ht:P.underlying t=some (.map k e)) (b:Nat) (V:Nat→Option Value) (hm:a.eval m=.map (some b)) (h:MapAt w b V)
    (hK:∀ w' cnt,cnt≤16→MapRg w' b w.heap.size V (fun _=>false) cnt→Below w.heap.size w w'→wpList P ops Q rest (a.put o.dst (.pointer (some ⟨w.heap.size,0,none⟩))) w'):wpList P ops Q (o :: rest) a w:=by
  refine wpList_plain hg fun K' hK'=>?_
  obtain ⟨w',hrun,⟨cnt,r0,r1⟩,r2,r3⟩:=h.range ht
  unfold Oper.wp
  simp [execOp,hop,hm,hrun,Result.andThen]
  exact hK' _ _ (hK w' cnt r0 r1 r2)
theorem wpList_next_m (hg:o.guard=none) (it:Operand) (hop:o.op=Op.next it false) (b r:Nat) (V:Nat→Option Value) (D:Nat→Bool) (cnt:Nat) (hit:a.eval it=.pointer (some ⟨r,0,none⟩)) (h:MapRg w b r V D cnt)
    (hDone:(∀ k v,V k=some v→D k=true)→wpList P ops Q rest (a.put o.dst (.tuple #[.bool false])) w)
    (hMore:∀ (k:Nat) (v:Value) (w':World) (cnt':Nat),k < 16→V k=some v→D k=false→MapRg w' b r V (fun j=>D j || j == k) cnt'→cnt' < cnt→w.grownBy w' (some r)→w'.heap.size=w.heap.size →
      (Instr.entry (.pointer (some ⟨r,0,none⟩))).run P w'=.ok (.tuple #[.int .i64 (k:Int),v]) w'→wpList P ops Q rest (a.put o.dst (.tuple #[.bool true,.int .i64 (k:Int),v])) w'):wpList P ops Q (o :: rest) a w:=by
  refine wpList_plain hg fun K' hK'=>?_
  unfold Oper.wp
  rcases h.next (P:=P) o.type with ⟨h0,hrun⟩ | ⟨k,v,w',cnt',h1,h2,h3,hrun,h4,h5,h6,h7,h8⟩
  · simp [execOp,hop,hit,hrun,Result.andThen]
    exact hK' _ _ (hDone h0)
  · simp [execOp,hop,hit,hrun,Result.andThen]
    exact hK' _ _ (hMore k v w' cnt' h1 h2 h3 h4 h5 h6 h7 h8)
end
structure ChF (F:Nat→Prop) (w w':World):Prop where
  os:w'.os=w.os
  tape:w'.tape=w.tape
  output:w'.output=w.output
  size:w.heap.size≤w'.heap.size
  block:∀ k,k < w.heap.size→¬ F k→w'.heap[k]?=w.heap[k]?
theorem ChF.of {F:Nat→Prop} {w w':World} (b:Below w.heap.size w w'):ChF F w w':=⟨b.os,b.tape,b.output,b.size,fun k hk _=>b.block k hk⟩
def SubF (w:World) (F F':Nat→Prop):Prop:=∀ i,F' i→F i∨w.heap.size≤i
theorem ChF.below {F:Nat→Prop} {base:Nat} {w w':World} (c:ChF F w w') (hF:∀ i,F i→base≤i) (hb:base≤w.heap.size):Below base w w':=
  ⟨c.os,c.tape,c.output,c.size,fun k hk=>c.block k (Nat.lt_of_lt_of_le hk hb) (fun h=>by have:=hF k h;omega)⟩
theorem cell_same {w w':World} {p:Addr} (h:w'.heap[p.block]?=w.heap[p.block]?):w'.cell? p=w.cell? p:=by
  unfold World.cell?
  rw [h]
theorem KRow.same {k:IntKind} {w w':World} {A:Option Addr} {cap:Nat} {l:List Int} (r:KRow k w A cap l) (hs:w.heap.size≤w'.heap.size) (h:l=[]∨∀ a,A=some a→w'.heap[a.block]?=w.heap[a.block]?):KRow k w' A cap l:=by
  obtain ⟨r1,r2,r3,r4⟩:=r
  refine ⟨r1,r2,r3,fun hn=>?_⟩
  obtain ⟨p,hp,hb,hc⟩:=r4 hn
  exact ⟨p,hp,Nat.lt_of_lt_of_le hb hs,fun i hi=>(cell_same (by rw [block_add];exact (h.resolve_left hn) p hp)).trans (hc i hi)⟩
theorem RowAt.same {w w':World} {A:Option Addr} {cap:Nat} {l:List Int} (r:RowAt w A cap l) (hs:w.heap.size≤w'.heap.size) (h:l=[]∨∀ a,A=some a→w'.heap[a.block]?=w.heap[a.block]?):RowAt w' A cap l:=by
  obtain ⟨r1,r2,r3,r4⟩:=r
  refine ⟨r1,r2,r3,fun hn=>?_⟩
  obtain ⟨p,hp,hb,hc⟩:=r4 hn
  exact ⟨p,hp,Nat.lt_of_lt_of_le hb hs,fun i hi=>(cell_same (by rw [block_add];exact (h.resolve_left hn) p hp)).trans (hc i hi)⟩
theorem EvRow.same {w w':World} {A:Option Addr} {cap:Nat} {l:List Ev} (r:EvRow w A cap l) (hs:w.heap.size≤w'.heap.size) (h:l=[]∨∀ a,A=some a→w'.heap[a.block]?=w.heap[a.block]?):EvRow w' A cap l:=by
  obtain ⟨r1,r2,r3,r4⟩:=r
  refine ⟨r1,r2,r3,fun hn=>?_⟩
  obtain ⟨p,hp,hb,hc⟩:=r4 hn
  have hk:=(h.resolve_left hn) p hp
  exact ⟨p,hp,Nat.lt_of_lt_of_le hb hs,fun i hi=>⟨(cell_same (by rw [block_add];exact hk)).trans (hc i hi).c0,(cell_same (p:=⟨(p.add (i * 2)).block,(p.add (i * 2)).off+1,none⟩) (by show w'.heap[(p.add (i * 2)).block]?=_;rw [block_add];exact hk)).trans (hc i hi).c1⟩⟩
structure TrO (w:World) (A:Option Addr) (cap:Nat) (L:List Ev):Prop where
  row:EvRow w A cap L
  own:(A=none∧cap=0)∨∃ g,A=some ⟨g,0,none⟩∧w.ownsRow 0 119 2 (.slice A L.length cap) L.length (L.flatMap evC)
theorem TrO.nil (w:World):TrO w none 0 []:=⟨evRow_nil w,.inl ⟨rfl,rfl⟩⟩
theorem TrO.same {w w':World} {A:Option Addr} {cap:Nat} {L:List Ev} (t:TrO w A cap L) (hs:w.heap.size≤w'.heap.size) (h:∀ a,A=some a→w'.heap[a.block]?=w.heap[a.block]?):TrO w' A cap L:=by
  refine ⟨t.row.same hs (.inr h),t.own.imp id ?_⟩
  rintro ⟨g,rfl,h1,h2⟩
  refine ⟨g,rfl,h1,h2.imp id ?_⟩
  rintro ⟨g',c,cur,e,e1,e2,e3⟩
  injection e with e
  injection e with e
  injection e with e
  subst e
  exact ⟨g,c,cur,by simp_all,e1,(h _ rfl).trans e2,e3⟩
def valO (h:Ho) (RA TA:Nat→Option Addr) (rc tc:Nat→Nat) (k:Nat):Option Value:=(h.m.getD k none).map (fun s=>s.x.val (RA k) (rc k) (TA k) (tc k))
theorem valO_has {h:Ho} {RA TA:Nat→Option Addr} {rc tc:Nat→Nat} {k:Nat} {s:Sb} (hs:h.has k s):valO h RA TA rc tc k=some (s.x.val (RA k) (rc k) (TA k) (tc k)):=by
  unfold Ho.has at hs
  unfold valO
  rw [List.getD_eq_getElem?_getD,hs]
  rfl
theorem valO_some {h:Ho} {RA TA:Nat→Option Addr} {rc tc:Nat→Nat} {k:Nat} {v:Value} (hv:valO h RA TA rc tc k=some v):∃ s,h.has k s∧v=s.x.val (RA k) (rc k) (TA k) (tc k):=by
  unfold valO at hv
  rw [List.getD_eq_getElem?_getD] at hv
  cases hk:h.m[k]? with
  | none=>rw [hk] at hv;simp at hv
  | some o=>
    cases o with
    | none=>rw [hk] at hv;simp at hv
    | some s=>
      rw [hk] at hv
      refine ⟨s,hk,?_⟩
      simpa using hv.symm
theorem valO_none {h:Ho} {RA TA:Nat→Option Addr} {rc tc:Nat→Nat} {k:Nat} (hv:∀ s,¬ h.has k s):valO h RA TA rc tc k=none:=by
  cases hc:valO h RA TA rc tc k with
  | none=>rfl
  | some v=>
    obtain ⟨s,hs,_⟩:=valO_some hc
    exact absurd hs (hv s)
structure RowsF (hb p g y mb:Nat) (RA TA:Nat→Option Addr) (h:Ho) (F:Nat→Prop):Prop where
  inF:∀ i,(i=hb∨i=p∨i=g∨i=y∨i=mb)→F i
  rep:∀ k s,h.has k s→s.x.W.rep=[]∨∀ a,RA k=some a→F a.block
  tr:∀ k s,h.has k s→∀ a,TA k=some a→F a.block∧(a.block≠hb∧a.block≠p∧a.block≠g∧a.block≠y∧a.block≠mb)∧(∀ j t,h.has j t→(t.x.W.rep=[]∨Off (RA j) a.block))∧(∀ j t,j≠k→h.has j t→Off (TA j) a.block)
structure HIn (w:World) (hb p g y mb:Nat) (RA TA:Nat→Option Addr) (rc tc:Nat→Nat) (h:Ho) (F:Nat→Prop):Prop where
  own:HasB w hb 69 [.pointer (some ⟨p,0,none⟩),.map (some mb)]
  mem:MemAt w p g y h.B h.T
  map:MapAt w mb (valO h RA TA rc tc)
  sx:∀ k s,h.has k s→s.x.Ok∧s.x.c.b=s.b∧s.x.c.s=((2 * s.hf:Nat):Int)
  rep:∀ k s,h.has k s→KRow .u32 w (RA k) (rc k) s.x.W.rep
  tr:∀ k s,h.has k s→TrO w (TA k) (tc k) s.x.W.tr
  rows:RowsF hb p g y mb RA TA h F
  lim:∀ i,F i→i < w.heap.size
theorem HIn.same {w w':World} {hb p g y mb:Nat} {RA TA:Nat→Option Addr} {rc tc:Nat→Nat} {h:Ho} {F:Nat→Prop} (I:HIn w hb p g y mb RA TA rc tc h F) (hs:w.heap.size≤w'.heap.size) (hk:∀ i,F i→w'.heap[i]?=w.heap[i]?):HIn w' hb p g y mb RA TA rc tc h F:=by
  have hF:=I.rows.inF
  exact ⟨(hk hb (hF _ (.inl rfl))).trans I.own,⟨(hk p (hF _ (by simp))).trans I.mem.own,(hk g (hF _ (by simp))).trans I.mem.bytes,(hk y (hF _ (by simp))).trans I.mem.zones,I.mem.len,I.mem.pos,I.mem.top,I.mem.byte⟩,I.map.keep (hk mb (hF _ (by simp))),I.sx,
    fun k s h1=>(I.rep k s h1).same hs ((I.rows.rep k s h1).imp id (fun h a ha=>hk _ (h a ha))),fun k s h1=>(I.tr k s h1).same hs (fun a ha=>hk _ (I.rows.tr k s h1 a ha).1),I.rows,fun i hi=>Nat.lt_of_lt_of_le (I.lim i hi) hs⟩
def HAt (w:World) (hb:Nat) (h:Ho) (F:Nat→Prop):Prop:=∃ (p g y mb:Nat) (RA TA:Nat→Option Addr) (rc tc:Nat→Nat),HIn w hb p g y mb RA TA rc tc h F
theorem HAt.same {w w':World} {hb:Nat} {h:Ho} {F:Nat→Prop} (A:HAt w hb h F) (hs:w.heap.size≤w'.heap.size) (hk:∀ i,F i→w'.heap[i]?=w.heap[i]?):HAt w' hb h F:=by
  obtain ⟨p,g,y,mb,RA,TA,rc,tc,I⟩:=A
  exact ⟨p,g,y,mb,RA,TA,rc,tc,I.same hs hk⟩
theorem HAt.lim {w:World} {hb:Nat} {h:Ho} {F:Nat→Prop} (A:HAt w hb h F):∀ i,F i→i < w.heap.size:=by
  obtain ⟨p,g,y,mb,RA,TA,rc,tc,I⟩:=A
  exact I.lim
theorem HAt.below {w w':World} {hb:Nat} {h:Ho} {F:Nat→Prop} (A:HAt w hb h F) (b:Below w.heap.size w w'):HAt w' hb h F:=A.same b.size (fun i hi=>b.block i (A.lim i hi))
theorem RowAt.chF {F:Nat→Prop} {w w':World} {A:Option Addr} {cap:Nat} {l:List Int} (r:RowAt w A cap l) (c:ChF F w w') (h:l=[]∨∀ a,A=some a→¬ F a.block):RowAt w' A cap l:=by
  by_cases hl:l=[]
  · exact r.same c.size (.inl hl)
  · obtain ⟨p,hp,hb,_⟩:=r.2.2.2 hl
    exact r.same c.size (.inr (fun a ha=>c.block _ (by rw [hp] at ha;cases ha;exact hb) ((h.resolve_left hl) a ha)))
def HNewC:Prop:=∀ (z:Nat),1≤z→z≤1024→∀ w:World,Calls Tryz.prog 7 #[.int .i64 ((64 * z:Nat):Int)] w fun e w'=>
  ∃ hb F,e=.returned (.tuple #[.pointer (some ⟨hb,0,none⟩),.int .i64 0])∧HAt w' hb (newO z) F∧(∀ i,F i→w.heap.size≤i)∧Below w.heap.size w w'
def HLoadP (w:World) (hb z:Nat) (h:Ho) (F:Nat→Prop) (l:List Int) (size:Int) (rep:List Int) (e:Ending) (w':World):Prop:=
  (loadE z h (imgE l) (codeI l) (dataL l) size≠0∧e=.returned (.tuple #[.int .i64 0,.int .i64 (loadE z h (imgE l) (codeI l) (dataL l) size)])∧HAt w' hb h F∧Below w.heap.size w w') ∨
  (loadE z h (imgE l) (codeI l) (dataL l) size=0∧∃ k b hf:Nat,freeO h=some k∧size=((2 * hf:Nat):Int)∧takeV (regsU h) ((64 * z:Nat):Int) size=(b:Int)∧e=.returned (.tuple #[.int .i64 (k:Int),.int .i64 0]) ∧
    ∃ F',HAt w' hb (loadO h k b hf (codeI l) (dataL l) rep) F'∧ChF F w w'∧SubF w F F')
def HLoadC:Prop:=∀ (w:World) (hb z:Nat) (h:Ho) (F:Nat→Prop) (A:Option Addr) (cap n:Nat) (l:List Int) (size:Int) (RA:Option Addr) (rc rn:Nat) (rep:List Int),
  HAt w hb h F→HoZ z h→1≤z→z≤1024→RowAt w A cap l→l.length=n→n≤4200→powS size=true→KRow .u32 w RA rc rep→rep.length=rn→rn≤1000 →
  Calls Tryz.prog 9 #[.pointer (some ⟨hb,0,none⟩),.slice A n cap,.int .i64 size,.slice RA rn rc] w (HLoadP w hb z h F l size rep)
def I64i (n:Int):Prop:=-9223372036854775808≤n∧n≤9223372036854775807
def HRunP (w:World) (hb:Nat) (h:Ho) (F:Nat→Prop) (id:Int) (n:Nat) (e:Ending) (w':World):Prop:=
  (∃ (k:Nat) (s:Sb),id=(k:Int)∧h.has k s∧e=.returned (.tuple #[.int .i64 ((slF h.T n s.x h.B).2.2:Nat),.int .i64 0])∧∃ F',HAt w' hb (runO h k s n) F'∧ChF F w w'∧SubF w F F') ∨
  ((∀ (k:Nat) s,id=(k:Int)→¬ h.has k s)∧e=.returned (.tuple #[.int .i64 0,.int .i64 8])∧HAt w' hb h F∧Below w.heap.size w w')
def HRunC:Prop:=∀ (w:World) (hb z n0:Nat) (h:Ho) (F:Nat→Prop) (id:Int) (n:Nat),HAt w hb h F→HoI z n0 h→n0≤40000→I64i id→n≤20000 →
  Calls Tryz.prog 12 #[.pointer (some ⟨hb,0,none⟩),.int .i64 id,.int .i64 (n:Int)] w (HRunP w hb h F id n)
def HKillP (w:World) (hb:Nat) (h:Ho) (F:Nat→Prop) (id:Int) (e:Ending) (w':World):Prop:=
  (∃ (k:Nat) (s:Sb),id=(k:Int)∧h.has k s∧e=.returned (.int .i64 0)∧HAt w' hb (killO h k s) F∧ChF F w w') ∨
  ((∀ (k:Nat) s,id=(k:Int)→¬ h.has k s)∧e=.returned (.int .i64 8)∧HAt w' hb h F∧Below w.heap.size w w')
def HKillC:Prop:=∀ (w:World) (hb z:Nat) (h:Ho) (F:Nat→Prop) (id:Int),HAt w hb h F→HoZ z h→I64i id →
  Calls Tryz.prog 11 #[.pointer (some ⟨hb,0,none⟩),.int .i64 id] w (HKillP w hb h F id)
def HRegsC:Prop:=∀ (w:World) (hb z:Nat) (h:Ho) (F:Nat→Prop),HAt w hb h F→HoZ z h→z≤1024 →
  Calls Tryz.prog 13 #[.pointer (some ⟨hb,0,none⟩)] w fun e w'=>∃ A cap L,e=.returned (.slice A L.length cap)∧RegsL z h L∧RgRow w' A cap L∧(∀ a,A=some a→w.heap.size≤a.block)∧Below w.heap.size w w'
def HThereC:Prop:=∀ (w:World) (hb:Nat) (h:Ho) (F:Nat→Prop) (a:Int),HAt w hb h F→a≤9223372036854775807 →
  Calls Tryz.prog 16 #[.pointer (some ⟨hb,0,none⟩),.int .i64 a] w fun e w'=>e=.returned (.bool (wholeB h.T a 1))∧w=w'
def Bx.app (L:List Ev) (x:Bx):Bx:=⟨x.c,{ x.W with tr:=L ++ x.W.tr },x.is,x.wh⟩
def Bx.tr0 (x:Bx):Bx:=⟨x.c,{ x.W with tr:=[] },x.is,x.wh⟩
theorem Bx.app0 (x:Bx):x.tr0.app x.W.tr=x:=by
  obtain ⟨c,⟨rep,tk,tr,ov,cd⟩,is,wh⟩:=x
  unfold Bx.app Bx.tr0
  simp
theorem gateS_app (L:List Ev) (c:Cp) (s:Int) (W:Wd) (n:Int):gateS c s { W with tr:=L ++ W.tr } n=((gateS c s W n).1,{ (gateS c s W n).2 with tr:=L ++ (gateS c s W n).2.tr }):=by
  rw [gateS_tr c s { W with tr:=L ++ W.tr } n,gateS_tr c s W n]
  simp
theorem bxS_app (T:List Bool) (L:List Ev) (x:Bx) (B:List Int):bxS T (x.app L) B=((bxS T x B).1.app L,(bxS T x B).2):=by
  have e:(x.app L).c=x.c:=rfl
  have eW:(x.app L).W={ x.W with tr:=L ++ x.W.tr }:=rfl
  unfold bxS
  simp only [e,eW,gateS_app]
  split
  · rfl
  · split
    · rfl
    · rfl
theorem slF_app (T:List Bool) (L:List Ev) (n:Nat):∀ (x:Bx) (B:List Int),slF T n (x.app L) B=((slF T n x B).1.app L,(slF T n x B).2):=by
  induction n with
  | zero=>intro x B;rfl
  | succ n ih=>
    intro x B
    have ey:yldB T (x.app L) B=yldB T x B:=rfl
    have e:=bxS_app T L x B
    by_cases hx:x.is=0
    · have hx':(x.app L).is=0:=hx
      cases hy:yldB T x B
      · rw [slF_step n hx' (ey.trans hy),slF_step n hx hy,e]
        simp only
        rw [ih]
      · rw [slF_yld n hx' (ey.trans hy),slF_yld n hx hy,e]
    · have hx':(x.app L).is≠0:=hx
      rw [slF_over _ hx',slF_over _ hx]
theorem slF_tr0 (T:List Bool) (n:Nat) (x:Bx) (B:List Int):slF T n x B=((slF T n x.tr0 B).1.app x.W.tr,(slF T n x.tr0 B).2):=by
  have:=slF_app T x.W.tr n x.tr0 B
  rw [Bx.app0] at this
  exact this
theorem tr0_ok {x:Bx} (o:x.Ok):x.tr0.Ok:=⟨o.c,o.rep,o.tk,o.repu,o.cd,o.ov,o.is,o.wh,o.wh0⟩
theorem run_tro {w:World} (ty:TypeId) {A:Option Addr} {cap n:Nat} {L:List Ev} (hl:L.length=n) (R:TrO w A cap L) (X:Option Addr) (xc m:Nat) (M:List Ev) (hm:M.length=m) (RM:EvRow w X xc M) (hlen:n+m≤100000) :
    ∃ A' cap' w',(Builtin.append_ #[78,78] ty #[.slice A n cap,.slice X m xc]).run Tryz.prog w=.ok (.slice A' (n+m) cap') w'∧TrO w' A' cap' (L ++ M)∧w.grownBy w' (A.map (·.block)) ∧
      (∀ y,A'=some y→(∃ x,A=some x∧x.block=y.block)∨w.heap.size≤y.block):=by
  obtain ⟨u0,hu0,hz0,hz1,hz2⟩:=info_parts ev_info
  by_cases hM:M=[]
  · subst hM
    simp at hm
    subst hm
    have hrun:=run_append_nothing (P:=Tryz.prog) w 78 78 ty 119 u0 Tryz.underlying78 hu0 A n cap (by rw [← hl];exact R.row.1) (.slice X 0 xc)
      (by cases X with
        | none=>exact Src.ofNil w Tryz.underlying78 xc
        | some q=>exact Src.ofSlice w Tryz.underlying78 q 0 xc [] (by simp) (fun j u h=>by simp at h) (fun u h=>by cases h))
    exact ⟨A,cap,w,hrun,by rw [List.append_nil];exact R,⟨rfl,rfl,rfl,Nat.le_refl _,fun _ _ _=>rfl⟩,fun y hy=>.inl ⟨y,hy,rfl⟩⟩
  · obtain ⟨q,hq,_,_⟩:=RM.2.2.2 hM
    subst hq
    have hlo:(L.flatMap evC).length=n * 2:=by rw [flatV_len,hl]
    have hlm:(M.flatMap evC).length=m * 2:=by rw [flatV_len,hm]
    have h1:∀ u∈M.flatMap evC,u.oneCell'=true:=fun u hu=>by
      obtain ⟨y,_,hy⟩:=List.mem_flatMap.1 hu
      exact evC_one y u hy
    have hW:∀ z∈L ++ M,evWf z:=fun z hz=>by
      rcases List.mem_append.1 hz with k | k
      · exact R.row.2.2.1 z k
      · exact RM.2.2.1 z k
    have hnm:(L ++ M).length=n+m:=by rw [List.length_append,hl,hm]
    have hm0:0 < m:=by rw [← hm];exact List.length_pos_iff.2 hM
    have fin:∀ (base:Nat) (v':Value) (w':World),w'.ownsRow base 119 2 v' (n+m) (L.flatMap evC ++ M.flatMap evC)→∃ g c,v'=.slice (some ⟨g,0,none⟩) (n+m) c∧base≤g∧TrO w' (some ⟨g,0,none⟩) c (L ++ M):=by
      intro base v' w' hown
      have hown0:w'.ownsRow 0 119 2 v' (n+m) ((L ++ M).flatMap evC):=by
        rw [flatV_app]
        refine ⟨hown.1,hown.2.imp id ?_⟩
        rintro ⟨g,c,cur,e1,e2,e3⟩
        exact ⟨g,c,cur,e1,Nat.zero_le _,e3⟩
      obtain ⟨A',c',e0,hn,hrow⟩:=ev_of_own hown0 hW
      rcases hown.2 with ⟨rfl,h0⟩ | ⟨g,c,cur,rfl,e2,e3⟩
      · omega
      · injection e0 with a1 a2 a3
        subst a1 a3
        exact ⟨g,c,rfl,e2,hrow,.inr ⟨g,rfl,by rw [hnm];exact hown0⟩⟩
    rcases R.own with ⟨rfl,rfl⟩ | ⟨g,rfl,hown⟩
    · have hL:L=[]:=by
        by_cases h:L=[]
        · exact h
        · obtain ⟨p,hp,_⟩:=R.row.2.2.2 h
          cases hp
      subst hL
      simp at hl
      subst hl
      obtain ⟨v',w',hrun,r1,r2,_⟩:=run_append_own (P:=Tryz.prog) w w.heap.size 78 ty 119 u0 _ 2 16 Tryz.underlying78 hu0 hz0 hz1 hz2 rfl (by decide) (.slice none 0 0) 0 [] (World.ownsRow_nil w _ _ _) q m xc _ hlm
        (ev_cells RM) h1 (by unfold maxLen;omega) (by omega) (Nat.le_refl _)
      obtain ⟨g,c,rfl,h2,h3⟩:=fin _ v' w' r1
      exact ⟨_,c,w',hrun,h3,r2,fun y hy=>.inr (by cases hy;exact h2)⟩
    · rw [hl] at hown
      have hg0:=hown.2
      rcases hg0 with ⟨e,_⟩ | ⟨g',c,cur,e,_,hh,hnc,hcm,hcs,_⟩
      · cases e
      · injection e with e1 e2 e3
        injection e1 with e1
        injection e1 with e1
        subst e1 e3
        by_cases hroom:n+m≤cap
        · have hr:=run_append_room (P:=Tryz.prog) w 78 ty 119 u0 Tryz.underlying78 hu0 g n cap cur hh q m xc _ (by rw [hz1];exact hlm) (ev_cells RM) h1 hroom (by rw [hz1,hcs,hlm];omega)
          obtain ⟨v',w',hrun,r1,r2,_⟩:=run_append_own (P:=Tryz.prog) w 0 78 ty 119 u0 _ 2 16 Tryz.underlying78 hu0 hz0 hz1 hz2 rfl (by decide) (.slice (some ⟨g,0,none⟩) n cap) n _ hown q m xc _ hlm
            (ev_cells RM) h1 (by unfold maxLen;omega) (by omega) (Nat.zero_le _)
          have ev:v'=.slice (some ⟨g,0,none⟩) (n+m) cap:=by
            rw [hrun] at hr
            injection hr
          subst ev
          obtain ⟨g2,c2,e,h2,h3⟩:=fin _ _ w' r1
          injection e with a1 a2 a3
          injection a1 with a1
          injection a1 with a1
          subst a1 a3
          exact ⟨_,cap,w',hrun,h3,r2,fun y hy=>.inl ⟨_,rfl,by cases hy;rfl⟩⟩
        · obtain ⟨v',w',hrun,r1,r2⟩:=run_append_arg_grows (P:=Tryz.prog) w 78 ty 119 u0 _ 2 16 Tryz.underlying78 hu0 hz0 hz1 hz2 rfl (by decide) ⟨g,0,none⟩ n cap _ hlo (hown.cells (g:=g) rfl) q m xc _ hlm
            (ev_cells RM) (by omega) (by unfold maxLen;omega) (by omega)
          obtain ⟨g2,c2,rfl,h2,h3⟩:=fin _ _ w' r1
          exact ⟨_,c2,w',hrun,h3,⟨r2.os,r2.tape,r2.output,r2.size,fun i hi _=>r2.block i hi (by simp)⟩,fun y hy=>.inr (by cases hy;exact h2)⟩
theorem app_tro {w:World} {ops:Array Oper} {rest:List Oper} {o:Oper} {a:Act} {Q:Exit→Act→World→Prop} (hgd:o.guard=none) (s x:Operand)
    (ho:o.op=.call { callee:=.builtin .append,args:=#[s,x],argTypes:=#[78,78] })
    (A:Option Addr) (cap n:Nat) (L:List Ev) (hl:L.length=n) (hs:a.eval s=.slice A n cap) (R:TrO w A cap L) (X:Option Addr) (xc m:Nat) (M:List Ev) (hm:M.length=m) (hx:a.eval x=.slice X m xc) (RM:EvRow w X xc M) (hlen:n+m≤100000)
    (h:∀ A' cap' w',TrO w' A' cap' (L ++ M)→w.grownBy w' (A.map (·.block))→(∀ y,A'=some y→(∃ x,A=some x∧x.block=y.block)∨w.heap.size≤y.block)→wpList Tryz.prog ops Q rest (a.put o.dst (.slice A' (n+m) cap')) w'):wpList Tryz.prog ops Q (o :: rest) a w:=
  wpList_plain hgd fun _ hK=>by
    obtain ⟨A',cap',w',hrun,h1,h2,h3⟩:=run_tro o.type hl R X xc m M hm RM hlen
    unfold Oper.wp
    simp [execOp,ho,resolve,invoke,builtin,hs,hx,hrun,Result.andThen]
    exact hK _ _ (h A' cap' w' h1 h2 h3)
def upd {α:Type} (f:Nat→α) (k:Nat) (v:α) (j:Nat):α:=if j=k then v else f j
theorem upd_same {α:Type} (f:Nat→α) (k:Nat) (v:α):upd f k v k=v:=by unfold upd;rw [if_pos rfl]
theorem upd_ne {α:Type} (f:Nat→α) {k j:Nat} (v:α) (h:j≠k):upd f k v j=f j:=by unfold upd;rw [if_neg h]
structure HMp (w:World) (hb p mb:Nat) (RA TA:Nat→Option Addr) (rc tc:Nat→Nat) (h:Ho):Prop where
  own:HasB w hb 69 [.pointer (some ⟨p,0,none⟩),.map (some mb)]
  map:MapAt w mb (valO h RA TA rc tc)
  sx:∀ k s,h.has k s→s.x.Ok∧s.x.c.b=s.b∧s.x.c.s=((2 * s.hf:Nat):Int)
theorem HIn.mp {w:World} {hb p g y mb:Nat} {RA TA:Nat→Option Addr} {rc tc:Nat→Nat} {h:Ho} {F:Nat→Prop} (I:HIn w hb p g y mb RA TA rc tc h F):HMp w hb p mb RA TA rc tc h:=⟨I.own,I.map,I.sx⟩
theorem HMp.below {w w':World} {hb p mb:Nat} {RA TA:Nat→Option Addr} {rc tc:Nat→Nat} {h:Ho} (I:HMp w hb p mb RA TA rc tc h) (b:Below w.heap.size w w'):HMp w' hb p mb RA TA rc tc h:=⟨I.own.below b,I.map.below b,I.sx⟩
theorem HMp.keep {w w':World} {hb p mb:Nat} {RA TA:Nat→Option Addr} {rc tc:Nat→Nat} {h:Ho} (I:HMp w hb p mb RA TA rc tc h) (h1:w'.heap[hb]?=w.heap[hb]?) (h2:w'.heap[mb]?=w.heap[mb]?):HMp w' hb p mb RA TA rc tc h:=⟨h1.trans I.own,I.map.keep h2,I.sx⟩
theorem map_ne {w:World} {b j:Nat} {V:Nat→Option Value} {t:TypeId} {cs:List Value} (m:MapAt w b V) (h:HasB w j t cs):b≠j:=fun e=>by
  subst e
  obtain ⟨es,c,hb,_⟩:=m
  unfold HasB at h
  rw [hb] at h
  cases h
theorem HIn.apart {w:World} {hb p g y mb:Nat} {RA TA:Nat→Option Addr} {rc tc:Nat→Nat} {h:Ho} {F:Nat→Prop} (I:HIn w hb p g y mb RA TA rc tc h F):(hb≠p∧hb≠g∧hb≠y∧hb≠mb)∧(mb≠p∧mb≠g∧mb≠y)∧(p≠g∧p≠y∧g≠y):=
  ⟨⟨I.own.ne I.mem.own (by decide),I.own.ne I.mem.bytes (by decide),I.own.ne I.mem.zones (by decide),fun e=>map_ne I.map I.own e.symm⟩,⟨map_ne I.map I.mem.own,map_ne I.map I.mem.bytes,map_ne I.map I.mem.zones⟩,I.mem.pg,I.mem.ph,I.mem.gh⟩
theorem HIn.repOff {w:World} {hb p g y mb:Nat} {RA TA:Nat→Option Addr} {rc tc:Nat→Nat} {h:Ho} {F:Nat→Prop} (I:HIn w hb p g y mb RA TA rc tc h F) {k:Nat} {s:Sb} (hs:h.has k s):s.x.W.rep=[]∨(Off (RA k) g∧Off (RA k) y∧Off (RA k) mb):=by
  have r:=I.rep k s hs
  by_cases hn:s.x.W.rep=[]
  · exact .inl hn
  · have h1:=(krow_off r I.mem.bytes (u8_nou32 _)).resolve_left hn
    have h2:=(krow_off r I.mem.zones (bl_nou32 _)).resolve_left hn
    refine .inr ⟨h1,h2,fun x hx e=>?_⟩
    obtain ⟨q,hq,_,hc⟩:=r.2.2.2 hn
    rw [hx] at hq
    cases hq
    have h0:=hc 0 (List.length_pos_iff.2 hn)
    obtain ⟨es,c,hb,_⟩:=I.map
    unfold World.cell? at h0
    rw [block_add,e,hb] at h0
    cases h0
theorem HIn.put {w w':World} {hb p g y mb:Nat} {RA TA:Nat→Option Addr} {rc tc:Nat→Nat} {h:Ho} {F:Nat→Prop} (I:HIn w hb p g y mb RA TA rc tc h F) {k:Nat} (hk:k < h.m.length) {B':List Int} {T':List Bool} {s':Sb} {RAk TAk:Option Addr} {rck tck:Nat}
    (hs:w.heap.size≤w'.heap.size) (own':HasB w' hb 69 [.pointer (some ⟨p,0,none⟩),.map (some mb)]) (mem':MemAt w' p g y B' T') (map':MapAt w' mb (fun j=>if j=k then some (s'.x.val RAk rck TAk tck) else valO h RA TA rc tc j))
    (sx':s'.x.Ok∧s'.x.c.b=s'.b∧s'.x.c.s=((2 * s'.hf:Nat):Int)) (rep':KRow .u32 w' RAk rck s'.x.W.rep) (tr':TrO w' TAk tck s'.x.W.tr)
    (same:∀ j t,j≠k→h.has j t→(t.x.W.rep=[]∨∀ a,RA j=some a→w'.heap[a.block]?=w.heap[a.block]?)∧(∀ a,TA j=some a→w'.heap[a.block]?=w.heap[a.block]?))
    (repF:s'.x.W.rep=[]∨∀ a,RAk=some a→F a.block∨(w.heap.size≤a.block∧a.block < w'.heap.size))
    (trF:∀ a,TAk=some a→(F a.block∨(w.heap.size≤a.block∧a.block < w'.heap.size))∧(a.block≠hb∧a.block≠p∧a.block≠g∧a.block≠y∧a.block≠mb)∧(s'.x.W.rep=[]∨Off RAk a.block)∧(∀ j t,j≠k→h.has j t→(t.x.W.rep=[]∨Off (RA j) a.block)∧Off (TA j) a.block))
    (oth:∀ j t,j≠k→h.has j t→∀ a,TA j=some a→(s'.x.W.rep=[]∨Off RAk a.block)∧Off TAk a.block) :
    HIn w' hb p g y mb (upd RA k RAk) (upd TA k TAk) (upd rc k rck) (upd tc k tck) ⟨B',T',h.m.set k (some s')⟩ (fun i=>F i∨(w.heap.size≤i∧i < w'.heap.size)):=by
  have hv:valO ⟨B',T',h.m.set k (some s')⟩ (upd RA k RAk) (upd TA k TAk) (upd rc k rck) (upd tc k tck)=fun j=>if j=k then some (s'.x.val RAk rck TAk tck) else valO h RA TA rc tc j:=by
    funext j
    unfold valO
    by_cases hj:j=k
    · subst hj
      simp [upd,List.getD_eq_getElem?_getD,List.getElem?_set_self hk]
    · simp [upd,hj,List.getD_eq_getElem?_getD,List.getElem?_set_ne (Ne.symm hj)]
  refine ⟨own',mem',by rw [hv];exact map',fun j t ht=>?_,fun j t ht=>?_,fun j t ht=>?_,⟨fun i hi=>.inl (I.rows.inF i hi),fun j t ht=>?_,fun j t ht a ha=>?_⟩,fun i hi=>?_⟩
  · rcases has_cases ht with ⟨rfl,e⟩ | ⟨hj,h2⟩
    · injection e with e;subst e;exact sx'
    · exact I.sx j t h2
  · rcases has_cases ht with ⟨rfl,e⟩ | ⟨hj,h2⟩
    · injection e with e;subst e;rw [upd_same,upd_same];exact rep'
    · rw [upd_ne _ _ hj,upd_ne _ _ hj];exact (I.rep j t h2).same hs (same j t hj h2).1
  · rcases has_cases ht with ⟨rfl,e⟩ | ⟨hj,h2⟩
    · injection e with e;subst e;rw [upd_same,upd_same];exact tr'
    · rw [upd_ne _ _ hj,upd_ne _ _ hj];exact (I.tr j t h2).same hs (same j t hj h2).2
  · rcases has_cases ht with ⟨rfl,e⟩ | ⟨hj,h2⟩
    · injection e with e;subst e;rw [upd_same];exact repF
    · rw [upd_ne _ _ hj];exact (I.rows.rep j t h2).imp id (fun h a ha=>.inl (h a ha))
  · rcases has_cases ht with ⟨rfl,e⟩ | ⟨hj,h2⟩
    · injection e with e;subst e
      rw [upd_same] at ha
      obtain ⟨t1,t2,t3,t4⟩:=trF a ha
      refine ⟨t1,t2,fun i u hu=>?_,fun i u hi hu=>?_⟩
      · rcases has_cases hu with ⟨rfl,e⟩ | ⟨hi,h3⟩
        · injection e with e;subst e;rw [upd_same];exact t3
        · rw [upd_ne _ _ hi];exact (t4 i u hi h3).1
      · rcases has_cases hu with ⟨rfl,e⟩ | ⟨hi2,h3⟩
        · exact absurd rfl hi
        · rw [upd_ne _ _ hi];exact (t4 i u hi h3).2
    · rw [upd_ne _ _ hj] at ha
      obtain ⟨t1,t2,t3,t4⟩:=I.rows.tr j t h2 a ha
      refine ⟨.inl t1,t2,fun i u hu=>?_,fun i u hi hu=>?_⟩
      · rcases has_cases hu with ⟨rfl,e⟩ | ⟨hi,h3⟩
        · injection e with e;subst e;rw [upd_same];exact (oth j t hj h2 a ha).1
        · rw [upd_ne _ _ hi];exact t3 i u h3
      · rcases has_cases hu with ⟨rfl,e⟩ | ⟨hi2,h3⟩
        · rw [upd_same];exact (oth j t hj h2 a ha).2
        · rw [upd_ne _ _ hi2];exact t4 i u hi h3
  · rcases hi with hi | hi
    · exact Nat.lt_of_lt_of_le (I.lim i hi) hs
    · exact hi.2
theorem HIn.del {w w':World} {hb p g y mb:Nat} {RA TA:Nat→Option Addr} {rc tc:Nat→Nat} {h:Ho} {F:Nat→Prop} (I:HIn w hb p g y mb RA TA rc tc h F) {k:Nat} (hk:k < h.m.length) {B':List Int} {T':List Bool}
    (hs:w.heap.size≤w'.heap.size) (own':HasB w' hb 69 [.pointer (some ⟨p,0,none⟩),.map (some mb)]) (mem':MemAt w' p g y B' T') (map':MapAt w' mb (fun j=>if j=k then none else valO h RA TA rc tc j))
    (same:∀ j t,j≠k→h.has j t→(t.x.W.rep=[]∨∀ a,RA j=some a→w'.heap[a.block]?=w.heap[a.block]?)∧(∀ a,TA j=some a→w'.heap[a.block]?=w.heap[a.block]?)) :
    HIn w' hb p g y mb RA TA rc tc ⟨B',T',h.m.set k none⟩ F:=by
  have hv:valO ⟨B',T',h.m.set k none⟩ RA TA rc tc=fun j=>if j=k then none else valO h RA TA rc tc j:=by
    funext j
    unfold valO
    by_cases hj:j=k
    · subst hj
      simp [List.getD_eq_getElem?_getD,List.getElem?_set_self hk]
    · simp [hj,List.getD_eq_getElem?_getD,List.getElem?_set_ne (Ne.symm hj)]
  have ho:∀ j t,(⟨B',T',h.m.set k none⟩:Ho).has j t→j≠k∧h.has j t:=fun j t ht=>by
    rcases has_cases ht with ⟨rfl,e⟩ | h2
    · cases e
    · exact h2
  refine ⟨own',mem',by rw [hv];exact map',fun j t ht=>I.sx j t (ho j t ht).2,fun j t ht=>(I.rep j t (ho j t ht).2).same hs (same j t (ho j t ht).1 (ho j t ht).2).1,fun j t ht=>(I.tr j t (ho j t ht).2).same hs (same j t (ho j t ht).1 (ho j t ht).2).2,
    ⟨I.rows.inF,fun j t ht=>I.rows.rep j t (ho j t ht).2,fun j t ht a ha=>?_⟩,fun i hi=>Nat.lt_of_lt_of_le (I.lim i hi) hs⟩
  obtain ⟨t1,t2,t3,t4⟩:=I.rows.tr j t (ho j t ht).2 a ha
  exact ⟨t1,t2,fun i u hu=>t3 i u (ho i u hu).2,fun i u hi hu=>t4 i u hi (ho i u hu).2⟩
end Go.Proofs.YteefmjhemhlapaaGreat.Mm
