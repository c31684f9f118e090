/- Slice's contract, with where the rows that it hands out may lie; rows over changes of other blocks; the ways of a step. -/
import Derived.Test.YteefmjhemhlapaaGreatVGaA
import Derived.Test.YteefmjhemhlapaaGreatVStD
import Derived.Test.YteefmjhemhlapaaGreatVStepFewMath
import Derived.Test.YteefmjhemhlapaaGreatVSvM
import Derived.Deep.WholeRow
namespace Go.Proofs.YteefmjhemhlapaaGreat.Mm
open Go.RowKit
set_option linter.unusedVariables false
open Go.ChangeShapes Go.WideShapes Go.ChangeAt Go.RowKit

noncomputable def stF (c:Cp) (B:List Int) (T:List Bool):Ou:=Classical.choose (step_or c B T)
theorem stF_is (c:Cp) (B:List Int) (T:List Bool):StepIs c B T (stF c B T):=Classical.choose_spec (step_or c B T)
theorem stF_eq {c:Cp} {B:List Int} {T:List Bool} {o:Ou} (h:StepIs c B T o):stF c B T=o:=step_fun (stF_is c B T) h
structure Bx where
  c:Cp
  W:Wd
  is:Int
  wh:Int
def Wd.cs (W:Wd) (RA:Option Addr) (rc:Nat) (TA:Option Addr) (tc:Nat):List Value:=[.slice RA W.rep.length rc,.int .i64 W.tk,.slice TA W.tr.length tc,.bool W.ov,.int .u32 W.cd]
def Bx.cs (x:Bx) (RA:Option Addr) (rc:Nat) (TA:Option Addr) (tc:Nat):List Value:=x.c.cs ++ (x.W.cs RA rc TA tc ++ [.int .i64 x.is,.int .i64 x.wh])
def Bx.val (x:Bx) (RA:Option Addr) (rc:Nat) (TA:Option Addr) (tc:Nat):Value:=.agg (x.cs RA rc TA tc).toArray
structure Bx.Ok (x:Bx):Prop where
  c:x.c.Ok
  rep:x.W.rep.length≤100000
  tk:0≤x.W.tk∧x.W.tk≤x.W.rep.length
  repu:∀ v∈x.W.rep,U32 v
  cd:U32 x.W.cd
  ov:x.W.ov=true↔x.is=1
  is:x.is=0∨x.is=1∨x.is=2
  wh:0≤x.wh∧x.wh≤5
  wh0:x.is≠2→x.wh=0
noncomputable def bxS (T:List Bool) (x:Bx) (B:List Int):Bx×List Int:=
  let o:=stF x.c B T
  if o.what=0 then (⟨o.c,x.W,x.is,x.wh⟩,o.B)
  else if o.what=2 then (⟨(gateS o.c (sumV o.c o.B T) x.W o.gate).1,(gateS o.c (sumV o.c o.B T) x.W o.gate).2,if o.gate=0 then 1 else x.is,x.wh⟩,o.B)
  else (⟨o.c,x.W,2,o.what⟩,o.B)
noncomputable def yldB (T:List Bool) (x:Bx) (B:List Int):Bool:=(stF x.c B T).what == 2 && (stF x.c B T).gate == 4
noncomputable def slF (T:List Bool):Nat→Bx→List Int→Bx×List Int×Nat
  | 0,x,B=>(x,B,0)
  | n+1,x,B=>if x.is≠0 then (x,B,0) else if yldB T x B=true then ((bxS T x B).1,(bxS T x B).2,1) else
      ((slF T n (bxS T x B).1 (bxS T x B).2).1,(slF T n (bxS T x B).1 (bxS T x B).2).2.1,(slF T n (bxS T x B).1 (bxS T x B).2).2.2+1)
section
variable {T:List Bool}
theorem slF_0 (x:Bx) (B:List Int):slF T 0 x B=(x,B,0):=rfl
theorem slF_over (n:Nat) {x:Bx} {B:List Int} (h:x.is≠0):slF T n x B=(x,B,0):=by
  cases n with
  | zero=>rfl
  | succ n=>unfold slF;rw [if_pos h]
theorem slF_yld (n:Nat) {x:Bx} {B:List Int} (h:x.is=0) (hy:yldB T x B=true):slF T (n+1) x B=((bxS T x B).1,(bxS T x B).2,1):=by
  unfold slF;rw [if_neg (by simp [h]),if_pos hy]
theorem slF_step (n:Nat) {x:Bx} {B:List Int} (h:x.is=0) (hy:yldB T x B=false):slF T (n+1) x B=((slF T n (bxS T x B).1 (bxS T x B).2).1,(slF T n (bxS T x B).1 (bxS T x B).2).2.1,(slF T n (bxS T x B).1 (bxS T x B).2).2.2+1):=by
  conv=>lhs;unfold slF
  rw [if_neg (by simp [h]),if_neg (by rw [hy];decide)]
theorem slF_le (n:Nat):∀ (x:Bx) (B:List Int),(slF T n x B).2.2≤n:=by
  induction n with
  | zero=>intro x B;exact Nat.le_refl _
  | succ n ih=>
    intro x B
    by_cases h:x.is=0
    · cases hy:yldB T x B
      · rw [slF_step n h hy];have:=ih (bxS T x B).1 (bxS T x B).2;simp only;omega
      · rw [slF_yld n h hy];simp only;omega
    · rw [slF_over _ h];simp only;omega
end
theorem gateS_ok {c:Cp} {s:Int} {W:Wd} {n:Int} (o:c.Ok) (hs:U32 s) (hr:∀ v∈W.rep,U32 v):(gateS c s W n).1.Ok:=by
  unfold gateS
  split
  · exact o
  · split
    · exact o
    · split
      · exact o
      · split
        · refine o.setR 0 ?_
          unfold repV
          split
          · rename_i h
            have hlt:(max W.tk 0).toNat < W.rep.length:=by omega
            rw [List.getD_eq_getElem?_getD,List.getElem?_eq_getElem hlt]
            exact hr _ (List.getElem_mem hlt)
          · exact u32_0
        · split
          · exact o.setR 0 hs
          · exact o
theorem gateS_W (c:Cp) (s:Int) (W:Wd) (n:Int):(gateS c s W n).2.rep=W.rep∧(gateS c s W n).2.tr.length≤W.tr.length+1:=by
  unfold gateS
  split
  · exact ⟨rfl,by simp⟩
  · split
    · exact ⟨rfl,by simp⟩
    · split
      · exact ⟨rfl,by simp⟩
      · split
        · exact ⟨rfl,by simp⟩
        · split
          · exact ⟨rfl,by simp⟩
          · exact ⟨rfl,by simp⟩
theorem gateS_tk (c:Cp) (s:Int) {W:Wd} (n:Int) (h:0≤W.tk∧W.tk≤W.rep.length):0≤(gateS c s W n).2.tk∧(gateS c s W n).2.tk≤W.rep.length:=by
  unfold gateS
  split
  · exact h
  · split
    · exact h
    · split
      · exact h
      · split
        · show 0≤repT W∧repT W≤_
          unfold repT
          split <;> omega
        · split
          · exact h
          · exact h
theorem gateS_cd {c:Cp} {s:Int} {W:Wd} {n:Int} (o:c.Ok) (h:U32 W.cd):U32 (gateS c s W n).2.cd:=by
  unfold gateS
  split
  · exact h
  · split
    · exact o.reg 0 (by omega) (by omega)
    · split
      · exact h
      · split
        · exact h
        · split
          · exact h
          · exact h
theorem gateS_ov {c:Cp} {s:Int} {W:Wd} {n:Int} (h:W.ov=false):((gateS c s W n).2.ov=true↔n=0):=by
  unfold gateS
  rw [if_neg (by rw [h];decide)]
  split
  · simpa using by assumption
  · rename_i hn
    split
    · simp [h,hn]
    · split
      · simp [h,hn]
      · split
        · simp [h,hn]
        · simp [h,hn]
structure RgT (T:List Bool) (lo hi:Nat):Prop where
  wh:∀ (x:Int) (n:Nat),0 < n→wholeB T x n=decide ((lo:Int)≤x∧x+n≤hi)
  top:hi≤64 * T.length
  le:lo≤hi
theorem rgT_of (z a k:Nat) (h:a+k≤z):RgT (splice (List.replicate z false) a (List.replicate k true)) (64 * a) (64 * (a+k)):=by
  have hlen:(splice (List.replicate z false) a (List.replicate k true)).length=z:=by
    rw [splice_len _ _ _ (by simp;omega),List.length_replicate]
  have hget:∀ i,i < z→(splice (List.replicate z false) a (List.replicate k true)).getD i false=decide (a≤i∧i < a+k):=fun i hi=>by
    rw [splice_getD _ _ _ _ (by simp;omega),List.length_replicate]
    by_cases h1:a≤i∧i < a+k
    · rw [if_pos h1,decide_eq_true h1]
      simp [List.getD,show i - a < k by omega]
    · rw [if_neg h1,decide_eq_false h1]
      simp [List.getD,hi]
  refine ⟨fun x n hn=>?_,by rw [hlen];omega,by omega⟩
  unfold wholeB
  rw [hlen]
  by_cases hx:0≤x∧x+n≤64 * (z:Int)
  · obtain ⟨y,rfl⟩:∃ y:Nat,x=y:=⟨x.toNat,by omega⟩
    rw [(liesB_iff _ _ _).2 ⟨by omega,by omega,by push_cast;omega⟩,Bool.true_and,Int.toNat_natCast,Int.toNat_natCast]
    by_cases hin:64 * a≤y∧y+n≤64 * (a+k)
    · rw [decide_eq_true (by push_cast;omega)]
      rw [thr_iff]
      intro i hi
      rw [hget _ (by omega),decide_eq_true (by omega)]
    · rw [decide_eq_false (by push_cast;omega)]
      cases ht:thr (splice (List.replicate z false) a (List.replicate k true)) y n
      · rfl
      · rw [thr_iff] at ht
        exfalso
        by_cases h1:64 * a≤y
        · have:=ht (n - 1) (by omega)
          rw [hget _ (by omega),decide_eq_true_iff] at this
          omega
        · have:=ht 0 hn
          rw [hget _ (by omega),decide_eq_true_iff] at this
          omega
  · rw [(liesB_not _ _ _).2 (by push_cast;omega),Bool.false_and,decide_eq_false (by push_cast;omega)]
section
variable {T T':List Bool} {lo hi:Nat} {B B':List Int}
theorem gateS_bs (c:Cp) (s:Int) (W:Wd) (n:Int):(gateS c s W n).1.b=c.b∧(gateS c s W n).1.s=c.s:=by
  unfold gateS
  split
  · exact ⟨rfl,rfl⟩
  · split
    · exact ⟨rfl,rfl⟩
    · split
      · exact ⟨rfl,rfl⟩
      · split
        · exact ⟨rfl,rfl⟩
        · split
          · exact ⟨rfl,rfl⟩
          · exact ⟨rfl,rfl⟩
structure BxI (T:List Bool) (lo hi:Nat) (n0:Nat) (x:Bx) (B:List Int):Prop where
  ok:x.Ok
  b:x.c.b=lo
  s:x.c.s=(hi - lo:Nat)
  byt:Bytes B
  len:B.length=64 * T.length
  tr:x.W.tr.length≤n0
theorem fnv_u (l:List Int):U32 (fnvL 2166136261 l):=fnvL_bd _ l (by omega) (by omega)
theorem exec_by {c d:Cp} {op a b imm:Int} (oc:c.Ok) (hB:Bytes B) (hl:B.length=64 * T.length) (hb:0≤b∧b≤7):Bytes (exec c d B T op a b imm).B∧(exec c d B T op a b imm).B.length=B.length:=by
  by_cases h16:op=16
  · subst h16
    cases hw:wholeB T (c.reg a) 4
    · rw [exec_16n _ _ _ _ _ _ _ hw];exact ⟨hB,rfl⟩
    · rw [exec_16y _ _ _ _ _ _ _ hw]
      have rb:=oc.reg b hb.1 hb.2
      unfold wholeB at hw
      rw [Bool.and_eq_true,liesB_iff] at hw
      refine ⟨fun y hy=>?_,splice_len _ _ _ (by rw [b4_len];omega)⟩
      rcases splice_mem hy with hy | hy
      · exact hB y hy
      · exact b4_byte _ rb.1 rb.2 y hy
  · have:(exec c d B T op a b imm).B=B:=by
      unfold exec
      rw [if_neg h16]
      simp only [apply_ite Ou.B,ite_self]
    rw [this];exact ⟨hB,rfl⟩
theorem step_by {c:Cp} (oc:c.Ok) (hB:Bytes B) (hl:B.length=64 * T.length) {o:Ou} (ho:StepIs c B T o):Bytes o.B∧o.B.length=B.length:=by
  rcases ho with ⟨h1,rfl⟩ | ⟨h1,h2,rfl⟩ | ⟨op,a,b,imm,n,h1,rfl⟩
  · exact ⟨hB,rfl⟩
  · exact ⟨hB,rfl⟩
  · have:=rd_bds (codeL_byte hB T c.pc) h1
    exact exec_by oc hB hl this.2.2.1
theorem sum_u {c:Cp} (hB:Bytes B):U32 (sumV c B T):=by
  unfold sumV
  split
  · exact fnv_u _
  · unfold U32;omega
theorem bxS_i {n0:Nat} {x:Bx} (i:BxI T lo hi n0 x B) (hx:x.is=0):BxI T lo hi (n0+1) (bxS T x B).1 (bxS T x B).2:=by
  have hS:=stF_is x.c B T
  obtain ⟨o1,o2,o3,o4⟩:=step_ok i.ok.c i.byt i.len hS
  obtain ⟨⟨f1,f2⟩,fB⟩:=step_few i.byt i.len hS
  have hov:x.W.ov=false:=by
    cases h:x.W.ov
    · rfl
    · have:=i.ok.ov.1 h;omega
  have hB:Bytes (stF x.c B T).B∧(stF x.c B T).B.length=64 * T.length:=by
    obtain ⟨a1,a2⟩:=step_by i.ok.c i.byt i.len hS
    exact ⟨a1,a2.trans i.len⟩
  unfold bxS
  simp only
  by_cases h0:(stF x.c B T).what=0
  · rw [if_pos h0]
    exact ⟨⟨o1,i.ok.rep,i.ok.tk,i.ok.repu,i.ok.cd,i.ok.ov,i.ok.is,i.ok.wh,i.ok.wh0⟩,f1.trans i.b,f2.trans i.s,hB.1,hB.2,by have:=i.tr;simp only;omega⟩
  · rw [if_neg h0]
    by_cases h2:(stF x.c B T).what=2
    · rw [if_pos h2]
      have hsu:=sum_u (T:=T) (c:=(stF x.c B T).c) hB.1
      generalize sumV (stF x.c B T).c (stF x.c B T).B T=sm at *
      obtain ⟨g1,g2⟩:=gateS_W (stF x.c B T).c sm x.W (stF x.c B T).gate
      obtain ⟨b1,b2⟩:=gateS_bs (stF x.c B T).c sm x.W (stF x.c B T).gate
      have gt:=gateS_tk (stF x.c B T).c sm (W:=x.W) (stF x.c B T).gate i.ok.tk
      have gov:=gateS_ov (c:=(stF x.c B T).c) (s:=sm) (n:=(stF x.c B T).gate) hov
      refine ⟨⟨gateS_ok o1 hsu i.ok.repu,by rw [g1];exact i.ok.rep,by rw [g1];exact gt,by rw [g1];exact i.ok.repu,gateS_cd o1 i.ok.cd,?_,?_,i.ok.wh,fun _=>i.ok.wh0 (by omega)⟩,b1.trans (f1.trans i.b),b2.trans (f2.trans i.s),hB.1,hB.2,by have:=i.tr;simp only at g2 ⊢;omega⟩
      · rw [gov];simp only
        split <;> simp_all
      · simp only;split
        · exact .inr (.inl rfl)
        · exact .inl hx
    · rw [if_neg h2]
      refine ⟨⟨o1,i.ok.rep,i.ok.tk,i.ok.repu,i.ok.cd,?_,.inr (.inr rfl),by simp only;omega,fun h=>absurd rfl h⟩,f1.trans i.b,f2.trans i.s,hB.1,hB.2,by have:=i.tr;simp only;omega⟩
      simp [hov]
theorem slF_i (n:Nat):∀ {n0:Nat} {x:Bx} {B:List Int},BxI T lo hi n0 x B→BxI T lo hi (n0+n) (slF T n x B).1 (slF T n x B).2.1:=by
  induction n with
  | zero=>intro n0 x B i;exact i
  | succ n ih=>
    intro n0 x B i
    by_cases h:x.is=0
    · have j:=bxS_i i h
      cases hy:yldB T x B
      · rw [slF_step n h hy]
        have:=ih j
        rw [show n0+1+n=n0+(n+1) by omega] at this
        exact this
      · rw [slF_yld n h hy]
        exact ⟨j.ok,j.b,j.s,j.byt,j.len,Nat.le_trans j.tr (by omega)⟩
    · rw [slF_over _ h]
      exact ⟨i.ok,i.b,i.s,i.byt,i.len,Nat.le_trans i.tr (by omega)⟩
end
def RgI (x:Rg):Prop:=(-9223372036854775808≤x.1∧x.1≤9223372036854775807)∧(-9223372036854775808≤x.2∧x.2≤9223372036854775807)
noncomputable def newE (code data:List Int) (r:Rg) (n:Int):Int:=
  if verE code≠0 then verE code else if (powS r.2 && decide ((code.length:Int)≤r.2 / 2 - 32) && decide ((data.length:Int)≤r.2 / 2))=false then 4 else if rgtB [r] n=false then 1 else 0
def newX (r:Rg) (rep:List Int):Bx:=⟨⟨r.1,[0,0,0,0,0,0,0,0],r.1,r.2⟩,⟨rep,0,[],false,0⟩,0,0⟩
def zeroX:Bx:=⟨⟨0,[0,0,0,0,0,0,0,0],0,0⟩,⟨[],0,[],false,0⟩,0,0⟩
def newB (B:List Int) (r:Rg) (code data:List Int):List Int:=splice (splice (splice B r.1.toNat (List.replicate r.2.toNat 0)) r.1.toNat code) (r.1+r.2 / 2).toNat data
def newT (T:List Bool) (r:Rg):List Bool:=splice T (r.1 / 64).toNat (List.replicate (r.2 / 64).toNat true)
theorem newX_ok {r:Rg} {rep:List Int} (h1:U32 r.1) (h2:U32 r.2) (hr:∀ v∈rep,U32 v) (hl:rep.length≤100000):(newX r rep).Ok:=
  ⟨⟨h1,rfl,fun x hx=>by simp [newX] at hx;subst hx;exact u32_0,h1,h2⟩,hl,⟨Int.le_refl _,by simp [newX]⟩,hr,u32_0,by simp [newX],.inl rfl,by simp [newX],fun _=>rfl⟩
theorem bx_cs {x:Bx} (o:x.c.Ok):∃ v0 v1 v2 v3 v4 v5 v6 v7 v8 v9 v10:Int,x.c=⟨v0,[v1,v2,v3,v4,v5,v6,v7,v8],v9,v10⟩ ∧
    ∀ (RA:Option Addr) (rc:Nat) (TA:Option Addr) (tc:Nat),x.cs RA rc TA tc=[.int .u32 v0,.int .u32 v1,.int .u32 v2,.int .u32 v3,.int .u32 v4,.int .u32 v5,.int .u32 v6,.int .u32 v7,.int .u32 v8,.int .u32 v9,.int .u32 v10,.slice RA x.W.rep.length rc,.int .i64 x.W.tk,.slice TA x.W.tr.length tc,.bool x.W.ov,.int .u32 x.W.cd,.int .i64 x.is,.int .i64 x.wh]:=by
  obtain ⟨r0,r1,r2,r3,r4,r5,r6,r7,hr⟩:=o.eight
  obtain ⟨⟨pc,r,b,s⟩,W,is,wh⟩:=x
  simp only at hr
  subst hr
  exact ⟨pc,r0,r1,r2,r3,r4,r5,r6,r7,b,s,rfl,fun _ _ _ _=>rfl⟩
theorem box_size:(Tryz.prog.info? 82).map (·.size)=some 18:=by kernel_rfl
theorem bx_len {x:Bx} (o:x.c.Ok) (RA:Option Addr) (rc:Nat) (TA:Option Addr) (tc:Nat):(x.cs RA rc TA tc).length=18∧∀ v∈x.cs RA rc TA tc,v.oneCell'=true:=by
  obtain ⟨v0,v1,v2,v3,v4,v5,v6,v7,v8,v9,v10,h1,h2⟩:=bx_cs o
  rw [h2]
  refine ⟨rfl,fun v hv=>?_⟩
  simp only [List.mem_cons,List.not_mem_nil,or_false] at hv
  rcases hv with rfl | rfl | rfl | rfl | rfl | rfl | rfl | rfl | rfl | rfl | rfl | rfl | rfl | rfl | rfl | rfl | rfl | rfl <;> rfl
theorem cell_apartB {w:World} {p:Addr} {h:Nat} {t:TypeId} {cs:List Value} {v:Value} (hb:HasB w h t cs) (hc:w.cell? p=some v) (hv:v ∉ cs):p.block≠h:=by
  intro e
  obtain ⟨b,o,s⟩:=p
  subst e
  have h2:w.heap[b]?=some (.cells cs.toArray t (0,0)):=hb
  unfold World.cell? at hc
  simp only [h2] at hc
  split at hc
  · cases hc
  · have:cs[o]?=some v:=by simpa using hc
    exact hv (List.mem_of_getElem? this)
theorem krow_off {w:World} {A:Option Addr} {cap:Nat} {l:List Int} (r:KRow .u32 w A cap l) {g:Nat} {t:TypeId} {cs:List Value} (hb:HasB w g t cs) (hcs:∀ n:Int,Value.int .u32 n ∉ cs):l=[]∨Off A g:=by
  by_cases hl:l=[]
  · exact .inl hl
  · refine .inr fun x hx=>?_
    obtain ⟨p,hp,_,hc⟩:=r.2.2.2 hl
    rw [hx] at hp
    injection hp with hp
    subst hp
    have h0:=hc 0 (List.length_pos_iff.2 hl)
    have:=cell_apartB hb h0 (hcs _)
    rwa [block_add] at this
theorem u8_nou32 (L:List Int) (n:Int):Value.int .u32 n ∉ L.map (Value.int .u8):=by
  intro h
  obtain ⟨x,_,e⟩:=List.mem_map.1 h
  cases e
theorem bl_nou32 (L:List Bool) (n:Int):Value.int .u32 n ∉ L.map Value.bool:=by
  intro h
  obtain ⟨x,_,e⟩:=List.mem_map.1 h
  cases e
def OffL {α:Type} (w:World) (l0:List α) (A0:Option Addr) (l:List α) (A:Option Addr):Prop:=∀ j,j < w.heap.size→(l0=[]∨Off A0 j)→(l=[]∨Off A j)
def SlP2 (w:World) (p g h:Nat) (T:List Bool) (x:Bx) (RA0 TA0:Option Addr) (r:Bx×List Int×Nat) (e:Ending) (w':World):Prop:=
  ∃ RA rc TA tc,e=.returned (.tuple #[r.1.val RA rc TA tc,.int .i64 r.2.2])∧KRow .u32 w' RA rc r.1.W.rep∧EvRow w' TA tc r.1.W.tr∧MemAt w' p g h r.2.1 T∧Chg g g w w'∧OffL w x.W.rep RA0 r.1.W.rep RA∧OffL w x.W.tr TA0 r.1.W.tr TA
def SliceC2:Prop:=∀ (x:Bx) (n:Int) (p g h:Nat) (B:List Int) (T:List Bool) (w:World) (RA:Option Addr) (rc:Nat) (TA:Option Addr) (tc:Nat),
  x.Ok→x.W.tr.length≤50000→(-9223372036854775808≤n∧n≤20000)→MemAt w p g h B T→KRow .u32 w RA rc x.W.rep→EvRow w TA tc x.W.tr →
  Calls Tryz.prog 34 #[.pointer (some ⟨p,0,none⟩),x.val RA rc TA tc,.int .i64 n] w (SlP2 w p g h T x RA TA (slF T n.toNat x B))
theorem KRow.off {k:IntKind} {g:Nat} {w w':World} {A:Option Addr} {cap:Nat} {l:List Int} (r:KRow k w A cap l) (c:Chg g g w w') (h:l=[]∨Off A g):KRow k w' A cap l:=r.chg' c (h.imp id (fun h=>⟨h,h⟩))
theorem EvRow.off {g:Nat} {w w':World} {A:Option Addr} {cap:Nat} {l:List Ev} (r:EvRow w A cap l) (c:Chg g g w w') (h:l=[]∨Off A g):EvRow w' A cap l:=by
  rcases h with rfl | h
  · exact ⟨r.1,r.2.1,r.2.2.1,fun h=>absurd rfl h⟩
  · exact r.chg c h h
theorem EvRow.offNew {w:World} {A:Option Addr} {cap:Nat} {l:List Ev} (r:EvRow w A cap l) {j:Nat} (hj:w.heap.size≤j):l=[]∨Off A j:=by
  by_cases hl:l=[]
  · exact .inl hl
  · obtain ⟨z,hz,hlt,_⟩:=r.2.2.2 hl
    exact .inr (fun x hx=>by rw [hz] at hx;cases hx;omega)
theorem KRow.offNew {k:IntKind} {w:World} {A:Option Addr} {cap:Nat} {l:List Int} (r:KRow k w A cap l) {j:Nat} (hj:w.heap.size≤j):l=[]∨Off A j:=by
  by_cases hl:l=[]
  · exact .inl hl
  · obtain ⟨z,hz,hlt,_⟩:=r.2.2.2 hl
    exact .inr (fun x hx=>by rw [hz] at hx;cases hx;omega)
theorem bxS_0 {T:List Bool} {x:Bx} {B:List Int} (h:(stF x.c B T).what=0):bxS T x B=(⟨(stF x.c B T).c,x.W,x.is,x.wh⟩,(stF x.c B T).B)∧yldB T x B=false:=by
  unfold bxS yldB
  simp only
  rw [if_pos h,h]
  exact ⟨rfl,rfl⟩
theorem bxS_2 {T:List Bool} {x:Bx} {B:List Int} (h:(stF x.c B T).what=2):bxS T x B=(⟨(gateS (stF x.c B T).c (sumV (stF x.c B T).c (stF x.c B T).B T) x.W (stF x.c B T).gate).1,(gateS (stF x.c B T).c (sumV (stF x.c B T).c (stF x.c B T).B T) x.W (stF x.c B T).gate).2,if (stF x.c B T).gate=0 then 1 else x.is,x.wh⟩,(stF x.c B T).B)∧yldB T x B=((stF x.c B T).gate == 4):=by
  unfold bxS yldB
  simp only
  rw [if_neg (by rw [h];decide),if_pos h,h]
  exact ⟨rfl,rfl⟩
theorem bxS_e {T:List Bool} {x:Bx} {B:List Int} (h0:(stF x.c B T).what≠0) (h2:(stF x.c B T).what≠2):bxS T x B=(⟨(stF x.c B T).c,x.W,2,(stF x.c B T).what⟩,(stF x.c B T).B)∧yldB T x B=false:=by
  unfold bxS yldB
  simp only
  rw [if_neg h0,if_neg h2]
  refine ⟨rfl,?_⟩
  rw [Bool.and_eq_false_iff]
  exact .inl (by simpa using h2)
theorem bxS_rep (T:List Bool) (x:Bx) (B:List Int):(bxS T x B).1.W.rep=x.W.rep:=by
  unfold bxS
  simp only
  split
  · rfl
  · split
    · exact (gateS_W _ _ _ _).1
    · rfl
end Go.Proofs.YteefmjhemhlapaaGreat.Mm
