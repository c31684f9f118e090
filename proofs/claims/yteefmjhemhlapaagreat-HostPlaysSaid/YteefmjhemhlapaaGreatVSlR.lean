/- Right of one region. -/
import Derived.Test.YteefmjhemhlapaaGreatVBaM
import Derived.Test.YteefmjhemhlapaaGreatVSvM
import Derived.Deep.Slices
import Derived.Deep.Fields
import Derived.ChangeSame
namespace Go.Proofs.YteefmjhemhlapaaGreat.Mm
open Go.ChangeShapes Go.WideShapes Go.ChangeAt Go.RowKit
set_option linter.unusedVariables false
set_option linter.unusedSimpArgs false

def rgC (x:Rg):List Value:=[.int .i64 x.1,.int .i64 x.2]
def rgWf (x:Rg):Prop:=(-9223372036854775808≤x.1∧x.1≤9223372036854775807)∧(-9223372036854775808≤x.2∧x.2≤9223372036854775807)
structure RgAt (w:World) (p:Addr) (x:Rg):Prop where
  c0:w.cell? p=some (.int .i64 x.1)
  c1:w.cell? ⟨p.block,p.off+1,none⟩=some (.int .i64 x.2)
def RgRow (w:World) (A:Option Addr) (cap:Nat) (l:List Rg):Prop:=
  l.length≤cap∧cap≤maxLen∧(∀ x∈l,rgWf x)∧(l≠[]→∃ p,A=some p∧p.block < w.heap.size∧∀ i,i < l.length→RgAt w (p.add (i * 2)) (l.getD i (0,0)))
theorem RgAt.below {w w':World} {p:Addr} {x:Rg} (h:RgAt w p x) (hp:p.block < w.heap.size) (b:Below w.heap.size w w'):RgAt w' p x:=
  ⟨by rw [b.cell hp];exact h.c0,(b.cell (p:=⟨p.block,p.off+1,none⟩) hp).trans h.c1⟩
theorem RgRow.below {w w':World} {A:Option Addr} {cap:Nat} {l:List Rg} (h:RgRow w A cap l) (b:Below w.heap.size w w'):RgRow w' A cap l:=by
  obtain ⟨h1,h2,h3,h4⟩:=h
  refine ⟨h1,h2,h3,fun hn=>?_⟩
  obtain ⟨p,hp,hb,hc⟩:=h4 hn
  exact ⟨p,hp,Nat.lt_of_lt_of_le hb b.size,fun i hi=>(hc i hi).below (by rw [block_add];exact hb) b⟩
theorem rgRow_nil (w:World):RgRow w none 0 []:=⟨Nat.le_refl _,Nat.zero_le _,fun x hx=>(by cases hx),fun h=>absurd rfl h⟩
theorem flatG_len (L:List Rg):(L.flatMap rgC).length=L.length * 2:=by
  induction L with
  | nil=>rfl
  | cons x t ih=>rw [List.flatMap_cons,List.length_append,ih,List.length_cons];show 2+_=_;omega
theorem flatG_get (L:List Rg):∀ i,i < L.length→∀ j,j < 2→(L.flatMap rgC)[i * 2+j]?=(rgC (L.getD i (0,0)))[j]?:=by
  induction L with
  | nil=>intro i hi;simp at hi
  | cons x t ih=>
    intro i hi j hj
    rw [List.flatMap_cons]
    cases i with
    | zero=>rw [List.getElem?_append_left (by show _ < 2;omega)];simp
    | succ i=>
      rw [List.getElem?_append_right (by show 2≤_;omega)]
      rw [show (i+1) * 2+j - (rgC x).length=i * 2+j by show (i+1) * 2+j - 2=_;omega,ih i (by simp at hi;omega) j hj]
      simp
theorem flatG_app (L M:List Rg):(L ++ M).flatMap rgC=L.flatMap rgC ++ M.flatMap rgC:=by simp
theorem flatG_one (x:Rg):[x].flatMap rgC=rgC x:=by simp
theorem rgC_one (x:Rg):∀ u∈rgC x,u.oneCell'=true:=by
  intro u hu
  simp only [rgC,List.mem_cons,List.not_mem_nil,or_false] at hu
  rcases hu with rfl | rfl <;> rfl
theorem rg_info:(Tryz.prog.info? 52).map (fun i=>(i.zero,i.size,i.bytes))=some (some (.agg #[.int .i64 0,.int .i64 0]),2,16):=by kernel_rfl
theorem addr0G (g k:Nat):(⟨g,0,none⟩:Addr).add k=⟨g,k,none⟩:=by
  unfold Addr.add
  by_cases h0:k=0
  · subst h0;rfl
  · rw [if_neg h0];simp
theorem rg_of_own {T:TypeId} {w:World} {base n:Nat} {v:Value} {L:List Rg} (h:w.ownsRow base T 2 v n (L.flatMap rgC)) (hw:∀ x∈L,rgWf x):∃ A cap,v=.slice A n cap∧n=L.length∧RgRow w A cap L:=by
  have hl:L.length=n:=by have:=h.1;rw [flatG_len] at this;omega
  rcases h.2 with ⟨rfl,rfl⟩ | ⟨g,cap,cur,rfl,_,hh,hc,hm,_⟩
  · have:L=[]:=List.eq_nil_of_length_eq_zero hl
    subst this
    exact ⟨none,0,rfl,rfl,rgRow_nil w⟩
  · refine ⟨_,cap,rfl,hl.symm,by omega,hm,hw,fun hne=>⟨_,rfl,(h.lt g rfl).2,fun i hi=>?_⟩⟩
    have key:∀ j,j < 2→w.cell? ⟨g,i * 2+j,none⟩=(rgC (L.getD i (0,0)))[j]?:=fun j hj=>by
      have e:=flatG_get L i hi j hj
      have hs:∃ u,(rgC (L.getD i (0,0)))[j]?=some u:=⟨_,List.getElem?_eq_getElem (show j < (rgC _).length from hj)⟩
      obtain ⟨u,hu⟩:=hs
      rw [hu] at e ⊢
      have:=h.cells (g:=g) rfl _ u e
      rw [addr0G] at this
      exact this
    rw [addr0G]
    exact ⟨key 0 (by decide),key 1 (by decide)⟩
theorem cells2 {w:World} {p:Addr} {t:Rg} (h:RgAt w p t) (hs:p.spot=none):∀ j u,(rgC t)[j]?=some u→w.cell? (p.add j)=some u:=by
  obtain ⟨b,o,s⟩:=p
  subst hs
  intro j u hj
  match j,hj with
  | 0,hj=>simp [rgC] at hj;subst hj;simpa [Addr.add] using h.c0
  | 1,hj=>simp [rgC] at hj;subst hj;simpa [Addr.add] using h.c1
  | j+2,hj=>simp [rgC] at hj
theorem rgAt_new (w:World) (y:Rg) (T:TypeId):RgAt (w.alloc (.cells #[.int .i64 y.1,.int .i64 y.2] T)) ⟨w.heap.size,0,none⟩ y:=by
  have h:=HasB.new w T (rgC y)
  exact ⟨h.cell 0,h.cell 1⟩
theorem below_drewG {B:Nat} {w w':World} (h:Below B w w'):Below B w w'.drew:=⟨h.os,h.tape,h.output,h.size,h.block⟩
theorem take_snocG (L:List Rg) (k:Nat) (h:k < L.length):L.take (k+1)=L.take k ++ [L.getD k (0,0)]:=by
  rw [List.take_add_one,List.getD_eq_getElem?_getD,List.getElem?_eq_getElem h];rfl
theorem rg_getD {L:List Rg} (h:∀ x∈L,rgWf x) (k:Nat) (hk:k < L.length):rgWf (L.getD k (0,0)):=by
  rw [List.getD_eq_getElem?_getD,List.getElem?_eq_getElem hk];exact h _ (List.getElem_mem hk)
def I64r (n:Int):Prop:=-9223372036854775808≤n∧n≤9223372036854775807
noncomputable def takeR (L:List Rg) (n s:Int):Rg:=if takeE L n s=0 then (takeV L n s,s) else (0,0)
def ApartC:Prop:=∀ (a b:Rg),(-100000≤a.1∧a.1≤100000∧0≤a.2∧a.2≤100000)→(-100000≤b.1∧b.1≤100000∧0≤b.2∧b.2≤100000)→∀ w:World,
  Calls Tryz.prog 69 #[.agg #[.int .i64 a.1,.int .i64 a.2],.agg #[.int .i64 b.1,.int .i64 b.2]] w fun e w'=>e=.returned (.bool (apartE a b))∧Below w.heap.size w w'
def RightC:Prop:=∀ (A:Option Addr) (cap n:Nat) (L:List Rg) (m:Int),L.length=n→n≤1000→I64r m→∀ w:World,RgRow w A cap L →
  Calls Tryz.prog 15 #[.slice A n cap,.int .i64 m] w fun e w'=>e=.returned (.bool (rgtB L m))∧Below w.heap.size w w'
def TakeC:Prop:=∀ (A:Option Addr) (cap n:Nat) (L:List Rg) (m s:Int),L.length=n→n≤1000→I64r m→I64r s→∀ w:World,RgRow w A cap L →
  Calls Tryz.prog 50 #[.slice A n cap,.int .i64 m,.int .i64 s] w fun e w'=>e=.returned (.tuple #[.agg #[.int .i64 (takeR L m s).1,.int .i64 (takeR L m s).2],.int .i64 (takeE L m s)])∧Below w.heap.size w w'
theorem powS_yes (s:Int):∀ k:Nat,k < 8→((128 * 2 ^ k:Nat):Int)=s→powS s=true:=by
  intro k hk h
  have hc:k=0∨k=1∨k=2∨k=3∨k=4∨k=5∨k=6∨k=7:=by omega
  subst h
  rcases hc with rfl | rfl | rfl | rfl | rfl | rfl | rfl | rfl <;> decide
theorem powS_no (s:Int) (h:∀ j:Nat,j < 8→((128 * 2 ^ j:Nat):Int)≠s):powS s=false:=by
  have h0:=h 0 (by omega);have h1:=h 1 (by omega);have h2:=h 2 (by omega);have h3:=h 3 (by omega)
  have h4:=h 4 (by omega);have h5:=h 5 (by omega);have h6:=h 6 (by omega);have h7:=h 7 (by omega)
  simp at h0 h1 h2 h3 h4 h5 h6 h7
  unfold powS
  simp only [Bool.or_eq_false_iff,beq_eq_false_iff_ne,ne_eq]
  omega
set_option maxHeartbeats 1000000 in
theorem rpow_any (s:Int) (w:World):Calls Tryz.prog 29 #[.int .i64 s] w fun e w'=>e=.returned (.bool (powS s))∧w=w':=by
  have HY:=Lib.hid (fun k hk h=>@powS_yes s k hk h)
  have HN:=Lib.hid (@powS_no s)
  generalize powS s=q at *
  go_enter Tryz.func29,Tryz.ntmps29
  go_wp2
  go_loopw [3] (fun i wr=>∃ k:Nat,k≤8∧i=.int .i64 ((128 * 2 ^ k:Nat):Int)∧Hid (∀ j,j < k→((128 * 2 ^ j:Nat):Int)≠s)∧w=wr) (fun i _=>40000 - (intOf i).toNat)
  case atStart=>exact ⟨0,by omega,rfl,Lib.hid (fun j h=>by omega),rfl⟩
  case round=>
    obtain ⟨k,hk,rfl,HI,rfl⟩:=hrel
    by_cases hk8:k < 8
    · have HI2:=Lib.hid (fun (h:((128 * 2 ^ k:Nat):Int)≠s) (j:Nat) (hj:j < k+1)=>show ((128 * 2 ^ j:Nat):Int)≠s from by
        rcases Nat.lt_or_ge j k with hlt | hge
        · exact HI.out j hlt
        · obtain rfl:j=k:=by omega
          exact h)
      have HY2:=Lib.hid (fun h=>HY.out k hk8 h)
      have hc:k=0∨k=1∨k=2∨k=3∨k=4∨k=5∨k=6∨k=7:=by omega
      clear HY HI
      obtain ⟨v,hv⟩:∃ v:Nat,v=128 * 2 ^ k:=⟨_,rfl⟩
      have hvb:v≤16384:=by rw [hv];rcases hc with rfl | rfl | rfl | rfl | rfl | rfl | rfl | rfl <;> decide
      have hv2:((128 * 2 ^ (k+1):Nat):Int)=(v:Int) * 2:=by rw [hv,Nat.pow_succ,← Nat.mul_assoc];push_cast;rfl
      have hv0:0 < v:=by rw [hv];exact Nat.mul_pos (by omega) (Nat.pow_pos (by omega))
      have wv:IntKind.i64.wrap ((v:Int) * 2)=(v:Int) * 2:=IntWalk.i64_in _ (by omega)
      rw [← hv] at HI2 HY2 ⊢
      clear hc
      by_cases hs:(v:Int)=s
      · have hq:=HY2.out hs
        subst hs hq
        clear HY2 HI2 hv hv2
        go_wp2
        go_ret
        exact ⟨rfl,rfl⟩
      · have hs1:((v:Int) == s)=false:=by simpa using hs
        have HI3:=Lib.hid (HI2.out hs)
        have HV2:=Lib.hid hv2
        clear HY2 HI2 hs hv hv2
        go_wp2
        go_roundw
        case rel=>exact ⟨k+1,by omega,by rw [HV2.out],HI3,trivial⟩
        case measure=>simp [intOf];omega
    · obtain rfl:k=8:=by omega
      have hq:=HN.out HI.out
      subst hq
      go_wp2
      go_ret
      exact ⟨rfl,rfl⟩
theorem sright_at {L:List Rg} {m:Int} {i:Nat} (h:RightP L m) (hi:i < L.length):regB m (L.getD i (0,0))=true:=
  h.reg _ (by rw [List.getD_eq_getElem?_getD,List.getElem?_eq_getElem hi];exact List.getElem_mem _)
theorem take_getDG (L:List Rg) {i k:Nat} (h:k < i):(L.take i).getD k (0,0)=L.getD k (0,0):=by
  rw [List.getD_eq_getElem?_getD,List.getD_eq_getElem?_getD,List.getElem?_take_of_lt h]
theorem right_snoc {L:List Rg} {m:Int} {i:Nat} (h:RightP (L.take i) m) (hi:i < L.length) (hr:regB m (L.getD i (0,0))=true) (hb:∀ q,q < i→Bel64 (L.getD q (0,0)) (L.getD i (0,0))):RightP (L.take (i+1)) m:=by
  rw [take_snocG L i hi]
  refine ⟨h.lo,h.hi,fun r hm=>?_,List.pairwise_append.2 ⟨h.ris,by simp,fun a ha b hb'=>?_⟩⟩
  · rcases List.mem_append.1 hm with k | k
    · exact h.reg r k
    · rw [List.mem_singleton.1 k];exact hr
  · rw [List.mem_singleton.1 hb']
    obtain ⟨q,hq,rfl⟩:=List.mem_iff_getElem.1 ha
    have hqi:q < i:=by have:=hq;rw [List.length_take] at this;omega
    have e:(L.take i)[q]=L.getD q (0,0):=by
      rw [← take_getDG L hqi,List.getD_eq_getElem?_getD,List.getElem?_eq_getElem hq];rfl
    rw [e];exact hb q hqi
theorem take_all {L:List Rg} {x:Rg} (h:∀ q,q < L.length→apartE (L.getD q (0,0)) x=true):∀ r∈L,apartE r x=true:=fun r hr=>by
  obtain ⟨q,hq,rfl⟩:=List.mem_iff_getElem.1 hr
  have:=h q hq
  rwa [List.getD_eq_getElem?_getD,List.getElem?_eq_getElem hq] at this
theorem take_next {L:List Rg} {m s b:Int} (s0:0 < s) (hb:b % s=0) (h:∀ c,c < b→¬ TakeOk L m s c) (k:¬ TakeOk L m s b):∀ c,c < b+s→¬ TakeOk L m s c:=fun c hc t=>by
  by_cases h1:c < b
  · exact h c h1 t
  · by_cases h2:c=b
    · exact k (h2 ▸ t)
    · have h3:=t.al
      have h4:(c - b) % s=0:=by rw [Int.sub_emod,h3,hb];simp
      have h5:(c - b) % s=c - b:=Int.emod_eq_of_lt (by omega) (by omega)
      omega
theorem take_apart {q:Rg} {b s:Int}:apartE q (b,s)=!(decide (b < q.1+q.2+64) && decide (q.1 < b+s+64)):=by
  unfold apartE
  by_cases h1:b < q.1+q.2+64 <;> by_cases h2:q.1 < b+s+64 <;> simp [h1,h2] <;> omega
set_option maxRecDepth 10000 in
set_option maxHeartbeats 4000000 in
theorem rtake_any (A:Option Addr) (cap n:Nat) (L:List Rg) (m s:Int) (hl:L.length=n) (hn:n≤100) (hr:RightP L m) (hs:powS s=true) (w:World) (R:RgRow w A cap L) :
    Calls Tryz.prog 30 #[.slice A n cap,.int .i64 m,.int .i64 s] w fun e w'=>e=.returned (.int .i64 (takeV L m s))∧Below w.heap.size w w':=by
  have RR:=Lib.hid R
  have HL:=Lib.hid hl
  have B0:=Lib.hid (Below.refl w.heap.size w)
  have YES:=Lib.hid (fun b (h:TakeOk L m s b) (h2:∀ c,c < b→¬ TakeOk L m s c)=>takeV_some (l:=L) (n:=m) (s:=s) (b:=b) ⟨h,h2⟩)
  have NO:=Lib.hid (fun (h:∀ c,¬ TakeOk L m s c)=>takeV_none (l:=L) (n:=m) (s:=s) h)
  have RX:=Lib.hid (fun k (hk:k < n)=>reg_iff.1 (sright_at hr (by rw [hl];exact hk):regB m (L.getD k (0,0))=true))
  obtain ⟨s1,s2⟩:=powS_pos hs
  have m0:=hr.lo
  have m1:=hr.hi
  clear R hl hr hs
  generalize takeV L m s=q at *
  go_enter Tryz.func30,Tryz.ntmps30
  go_wp2_with fail
  go_loopw [7] (fun v wr=>∃ (b:Int),v=.int .i64 b∧s≤b∧b≤90000∧Hid (b % s=0)∧Hid (∀ c,c < b→¬ TakeOk L m s c)∧Hid (Below w.heap.size w wr)) (fun v _=>100000 - (intOf v).toNat)
  case atStart=>exact ⟨s,rfl,by omega,by omega,Lib.hid (by simp),Lib.hid (fun c hc t=>by have:=t.lo;omega),B0⟩
  case round=>
    obtain ⟨b,rfl,hb1,hb2,AL,MN,HB⟩:=hrel
    by_cases hlt:b+s+64≤m
    · have OK:=Lib.hid (fun (h:∀ q,q < n→apartE (L.getD q (0,0)) (b,s)=true)=>YES.out b ⟨by omega,AL.out,hlt,take_all (by rw [HL.out];exact h)⟩ MN.out)
      have NX:=Lib.hid (fun (h:¬ ∀ q,q < n→apartE (L.getD q (0,0)) (b,s)=true)=>take_next (by omega) AL.out MN.out (fun t=>h (fun q hq=>t.ap _ (by rw [List.getD_eq_getElem?_getD,List.getElem?_eq_getElem (by rw [HL.out];exact hq)];exact List.getElem_mem _))))
      have AL2:=Lib.hid (show (b+s) % s=0 by rw [Int.add_emod_right];exact AL.out)
      clear YES NO AL MN
      go_wp2_with fail
      generalize hq:wr=ws at *
      clear hq
      go_loopw [8,9] (fun f v wr=>∃ (k:Nat) (fr:Bool),f=.bool fr∧v=.int .i64 k∧k≤n∧Hid (fr=true↔∀ q,q < k→apartE (L.getD q (0,0)) (b,s)=true)∧Hid (Below ws.heap.size ws wr)) (fun _ v _=>n - (intOf v).toNat)
      case atStart=>exact ⟨0,true,rfl,rfl,by omega,Lib.hid ⟨fun _ q hq=>by omega,fun _=>rfl⟩,Lib.hid (Below.refl _ _)⟩
      case round=>
        obtain ⟨k,fr,rfl,rfl,hk,FR,HC⟩:=hrel
        by_cases hkn:k < n
        · obtain ⟨x,rfl,hxb,hc⟩:=(RR.out.below (HB.out.trans (HC.out.mono HB.out.size))).2.2.2 (by intro e;have:=HL.out;rw [e] at this;simp at this;omega)
          have c0:=(hc k (by rw [HL.out];omega)).c0
          have c1:=(hc k (by rw [HL.out];omega)).c1
          obtain ⟨y1,y2,y3,y4⟩:=RX.out k hkn
          have y0:=powS_pos y1
          have F2:=Lib.hid (fun (v:Bool) (hv:apartE (L.getD k (0,0)) (b,s)=v)=>(by
            constructor
            · intro h q hq
              simp only [Bool.and_eq_true] at h
              rcases Nat.lt_or_ge q k with h' | h'
              · exact FR.out.1 h.1 q h'
              · obtain rfl:q=k:=by omega
                rw [hv];exact h.2
            · intro h
              simp only [Bool.and_eq_true]
              exact ⟨FR.out.2 (fun q hq=>h q (by omega)),by rw [← hv];exact h k (by omega)⟩:(fr && v)=true↔∀ q,q < k+1→apartE (L.getD q (0,0)) (b,s)=true))
          rw [take_apart] at F2
          clear hc y1 y3 FR
          generalize hy:L.getD k (0,0)=y at *
          clear hy
          obtain ⟨ya,yb⟩:=y
          simp only at c0 c1 y0 y2 y4 F2
          obtain ⟨y01,y02⟩:=y0
          have hkn':(k:Int) < (n:Int):=by omega
          by_cases z1:b < ya+yb+64
          · have hd1:decide (b < ya+yb+64)=true:=by simp;omega
            by_cases z2:ya < b+s+64
            · have hd2:decide (ya < b+s+64)=true:=by simp;omega
              have F3:=Lib.hid (F2.out false (by rw [hd1,hd2];rfl))
              rw [Bool.and_false] at F3
              clear F2
              go_wp2_with fail
              go_quiet (fail)
              go_wp2_with fail
              go_roundw
              case rel=>exact ⟨k+1,false,rfl,by go_num,by omega,F3,Lib.hid (below_drewN HC.out _)⟩
              case measure=>simp [intOf];omega
            · have hd2:decide (ya < b+s+64)=false:=by simp;omega
              have F3:=Lib.hid (F2.out true (by rw [hd2];simp))
              rw [Bool.and_true] at F3
              clear F2
              go_wp2_with fail
              go_quiet (fail)
              go_wp2_with fail
              go_roundw
              case rel=>exact ⟨k+1,fr,rfl,by go_num,by omega,F3,Lib.hid (below_drewN HC.out _)⟩
              case measure=>simp [intOf];omega
          · have hd1:decide (b < ya+yb+64)=false:=by simp;omega
            have F3:=Lib.hid (F2.out true (by rw [hd1];simp))
            rw [Bool.and_true] at F3
            clear F2
            go_wp2_with fail
            go_quiet (fail)
            go_wp2_with fail
            go_roundw
            case rel=>exact ⟨k+1,fr,rfl,by go_num,by omega,F3,Lib.hid (below_drewN HC.out _)⟩
            case measure=>simp [intOf];omega
        · obtain rfl:k=n:=by omega
          have BN:=Lib.hid (HB.out.trans (HC.out.mono HB.out.size))
          cases fr
          · have N3:=Lib.hid (NX.out (fun h=>by have:=FR.out.2 h;cases this))
            go_wp2_with fail
            go_roundw
            case rel=>exact ⟨b+s,rfl,by omega,by omega,AL2,N3,BN⟩
            case measure=>simp [intOf];omega
          · have hq:=OK.out (FR.out.1 rfl)
            subst hq
            go_wp2_with fail
            go_ret
            exact ⟨rfl,BN.out⟩
    · have hq:=NO.out (fun c t=>by
        by_cases h:c < b
        · exact MN.out c h t
        · have:=t.hi;omega)
      subst hq
      go_wp2_with fail
      go_ret
      exact ⟨rfl,HB.out⟩
theorem smay_not (s:Int) (h:¬ (128≤s∧s≤16384)) (w:World):Calls Tryz.prog 68 #[.int .i64 s] w fun e w'=>e=.returned (.bool false)∧w=w':=by
  by_cases h1:128≤s
  · have h2:¬ s≤16384:=by omega
    go_enter Tryz.func68,Tryz.ntmps68
    go_wp2
    go_ret
    exact ⟨rfl,rfl⟩
  · go_enter Tryz.func68,Tryz.ntmps68
    go_wp2
    go_ret
    exact ⟨rfl,rfl⟩
theorem sand_pow {s k:Nat} (h1:2 ^ k < s) (h2:s < 2 ^ (k+1)):s &&& (s - 1)≠0:=by
  intro h
  have b1:s.testBit k=true:=Nat.testBit_of_two_pow_le_and_two_pow_add_one_gt (by omega) h2
  have b2:(s - 1).testBit k=true:=Nat.testBit_of_two_pow_le_and_two_pow_add_one_gt (by omega) (by omega)
  have:(s &&& (s - 1)).testBit k=true:=by rw [Nat.testBit_and,b1,b2];rfl
  rw [h,Nat.zero_testBit] at this
  cases this
theorem sand_pow0 (k:Nat):2 ^ k &&& (2 ^ k - 1)=0:=by
  rw [Nat.and_two_pow_sub_one_eq_mod,Nat.mod_self]
theorem sand_i64 (s:Nat) (h:s≤16384) (h0:0 < s):bits .and .i64 (s:Int) ((s:Int) - 1)=((s &&& (s - 1):Nat):Int):=by
  show IntKind.i64.wrap ((BitVec.ofInt 64 (s:Int) &&& BitVec.ofInt 64 ((s:Int) - 1)).toNat:Int)=_
  have e1:BitVec.ofInt 64 (s:Int)=BitVec.ofNat 64 s:=by
    rw [← BitVec.ofInt_natCast]
  have e2:BitVec.ofInt 64 ((s:Int) - 1)=BitVec.ofNat 64 (s - 1):=by
    rw [← BitVec.ofInt_natCast];congr 1;omega
  rw [e1,e2,BitVec.toNat_and,BitVec.toNat_ofNat,BitVec.toNat_ofNat,Nat.mod_eq_of_lt (by omega),Nat.mod_eq_of_lt (by omega)]
  have:s &&& (s - 1)≤s:=Nat.and_le_left
  exact IntWalk.i64_in _ (by omega)
theorem smay_in (s:Nat) (h1:128≤s) (h2:s≤16384) (q:Bool) (hq:(((s &&& (s - 1):Nat):Int) == 0)=q) (w:World):Calls Tryz.prog 68 #[.int .i64 s] w fun e w'=>e=.returned (.bool q)∧w=w':=by
  have ha:=sand_i64 s h2 (by omega)
  generalize ((s &&& (s - 1):Nat):Int)=z at *
  have w1:IntKind.i64.wrap ((s:Int) - 1)=(s:Int) - 1:=IntWalk.i64_in _ (by omega)
  go_enter Tryz.func68,Tryz.ntmps68
  go_wp2
  go_ret
  exact ⟨rfl,rfl⟩
theorem spow_and (s:Nat) (h1:128≤s) (h2:s≤16384):(((s &&& (s - 1):Nat):Int) == 0)=powS s:=by
  have hc:s=128∨s=256∨s=512∨s=1024∨s=2048∨s=4096∨s=8192∨s=16384∨(powS s=false∧∃ k,2 ^ k < s∧s < 2 ^ (k+1)):=by
    have:s=128∨s=256∨s=512∨s=1024∨s=2048∨s=4096∨s=8192∨s=16384∨(s≠128∧s≠256∧s≠512∧s≠1024∧s≠2048∧s≠4096∧s≠8192∧s≠16384):=by omega
    rcases this with h | h | h | h | h | h | h | h | ⟨n1,n2,n3,n4,n5,n6,n7,n8⟩
    · exact .inl h
    · exact .inr (.inl h)
    · exact .inr (.inr (.inl h))
    · exact .inr (.inr (.inr (.inl h)))
    · exact .inr (.inr (.inr (.inr (.inl h))))
    · exact .inr (.inr (.inr (.inr (.inr (.inl h)))))
    · exact .inr (.inr (.inr (.inr (.inr (.inr (.inl h))))))
    · exact .inr (.inr (.inr (.inr (.inr (.inr (.inr (.inl h)))))))
    · refine .inr (.inr (.inr (.inr (.inr (.inr (.inr (.inr ⟨?_,?_⟩)))))))
      · unfold powS;simp;omega
      · have:(128 < s∧s < 256)∨(256 < s∧s < 512)∨(512 < s∧s < 1024)∨(1024 < s∧s < 2048)∨(2048 < s∧s < 4096)∨(4096 < s∧s < 8192)∨(8192 < s∧s < 16384):=by omega
        rcases this with h | h | h | h | h | h | h
        · exact ⟨7,h⟩
        · exact ⟨8,h⟩
        · exact ⟨9,h⟩
        · exact ⟨10,h⟩
        · exact ⟨11,h⟩
        · exact ⟨12,h⟩
        · exact ⟨13,h⟩
  rcases hc with rfl | rfl | rfl | rfl | rfl | rfl | rfl | rfl | ⟨hp,k,h3,h4⟩
  · exact by rw [sand_pow0 7];rfl
  · exact by rw [sand_pow0 8];rfl
  · exact by rw [sand_pow0 9];rfl
  · exact by rw [sand_pow0 10];rfl
  · exact by rw [sand_pow0 11];rfl
  · exact by rw [sand_pow0 12];rfl
  · exact by rw [sand_pow0 13];rfl
  · exact by rw [sand_pow0 14];rfl
  · have:=sand_pow h3 h4
    rw [hp]
    generalize s &&& (s - 1)=z at *
    simp;omega
theorem smayBe_s (s:Int) (w:World):Calls Tryz.prog 68 #[.int .i64 s] w fun e w'=>e=.returned (.bool (powS s))∧w=w':=by
  by_cases h:128≤s∧s≤16384
  · obtain ⟨n,rfl⟩:=Int.eq_ofNat_of_zero_le (show (0:Int)≤s by omega)
    exact smay_in n (by omega) (by omega) _ (spow_and n (by omega) (by omega)) w
  · have:powS s=false:=by unfold powS;simp;omega
    rw [this]
    exact smay_not s h w
theorem fits_0 (s:Int) (w:World):Calls Tryz.prog 49 #[.int .i64 0,.int .i64 s] w fun e w'=>e=.returned (.bool (powS s))∧w=w':=by
  have M:=smayBe_s s w
  rcases Bool.eq_false_or_eq_true (powS s) with h | h
  · obtain ⟨h1,h2⟩:=powS_pos h
    have hd:s.tdiv 2=s / 2:=Int.tdiv_eq_ediv_of_nonneg (by omega)
    have hw1:IntKind.i64.wrap (s / 2)=s / 2:=IntWalk.i64_in _ (by omega)
    have hw2:IntKind.i64.wrap (s / 2 - 32)=s / 2 - 32:=IntWalk.i64_in _ (by omega)
    have hd2:decide (32≤s / 2)=true:=by simp;omega
    rw [h] at M ⊢;clear h
    replace M:=Lib.hid M
    generalize s / 2=d at *
    go_enter Tryz.func49,Tryz.ntmps49
    go_wp2_with fail
    refine M.out.mono ?_;rintro e w2 ⟨rfl,rfl⟩
    go_wp2
    go_ret
    exact ⟨rfl,rfl⟩
  · rw [h] at M ⊢;clear h
    replace M:=Lib.hid M
    go_enter Tryz.func49,Tryz.ntmps49
    go_wp2_with fail
    refine M.out.mono ?_;rintro e w2 ⟨rfl,rfl⟩
    go_wp2
    go_ret
    exact ⟨rfl,rfl⟩
theorem smay_any (s:Int) (w:World):Calls Tryz.prog 61 #[.int .i64 s] w fun e w'=>e=.returned (.bool (powS s))∧w=w':=by
  have M:=Lib.hid (fits_0 s)
  generalize powS s=q at *
  go_enter Tryz.func61,Tryz.ntmps61
  go_wp2_with fail
  refine (M.out _).mono ?_;rintro e w2 ⟨rfl,rfl⟩
  go_wp2
  go_ret
  exact ⟨rfl,rfl⟩
theorem w64 {x:Int} (h:-9223372036854775808≤x∧x≤9223372036854775807):wrap64 x=x:=by unfold wrap64;omega
theorem and3 (x:Int) (h:-1000000≤x∧x≤1000000):bits .and .i64 x 3=x % 4:=by
  show IntKind.i64.wrap ((BitVec.ofInt 64 x &&& BitVec.ofInt 64 3).toNat:Int)=_
  have e2:BitVec.ofInt 64 3=BitVec.ofNat 64 3:=rfl
  rw [e2,BitVec.toNat_and,BitVec.toNat_ofNat,show 3 % 2 ^ 64=2 ^ 2 - 1 by decide,Nat.and_two_pow_sub_one_eq_mod,BitVec.toNat_ofInt]
  have:(((x % ((2:Nat) ^ 64:Nat)).toNat % 2 ^ 2:Nat):Int)=x % 4:=by omega
  rw [this]
  exact IntWalk.i64_in _ (by omega)
theorem behind_any (a b:Rg) (ha:-100000≤a.1∧a.1≤100000∧0≤a.2∧a.2≤100000) (hb:-100000≤b.1∧b.1≤100000∧0≤b.2∧b.2≤100000) (w:World) :
    Calls Tryz.prog 37 #[.agg #[.int .i64 a.1,.int .i64 a.2],.agg #[.int .i64 b.1,.int .i64 b.2]] w fun e w'=>e=.returned (.bool (decide (a.1+a.2+64≤b.1)))∧Below w.heap.size w w':=by
  obtain ⟨a0,a1⟩:=a
  obtain ⟨b0,b1⟩:=b
  simp only at ha hb ⊢
  have e1:=and3 a0 (by omega)
  have e2:=and3 a1 (by omega)
  have e3:=and3 b0 (by omega)
  have hd:=Lib.hid (show decide (16≤b0 / 4 - a0 / 4 - a1 / 4+(b0 % 4 - a0 % 4 - a1 % 4) / 4)=decide (a0+a1+64≤b0) from decide_eq_decide.2 (by omega))
  have w1:wrap64 (b0 % 4 - a0 % 4)=b0 % 4 - a0 % 4:=w64 (by omega)
  have w2:wrap64 (b0 % 4 - a0 % 4 - a1 % 4)=b0 % 4 - a0 % 4 - a1 % 4:=w64 (by omega)
  have w3:wrap64 (b0 / 4 - a0 / 4 - a1 / 4+(b0 % 4 - a0 % 4 - a1 % 4) / 4)=b0 / 4 - a0 / 4 - a1 / 4+(b0 % 4 - a0 % 4 - a1 % 4) / 4:=w64 (by omega)
  go_enter Tryz.func37,Tryz.ntmps37
  go_wp2
  go_ret
  refine ⟨ret_bool ?_,bel_al (bel_al (Below.refl _ _) _) _⟩
  exact hd.out
theorem apart_code:ApartC:=by
  intro a b ha hb w
  have C1:=Lib.hid (fun w=>behind_any a b ha hb w)
  have C2:=Lib.hid (fun w=>behind_any b a hb ha w)
  unfold apartE
  obtain ⟨a0,a1⟩:=a
  obtain ⟨b0,b1⟩:=b
  simp only at C1 C2 ⊢
  clear ha hb
  generalize decide (a0+a1+64≤b0)=q1 at *
  generalize decide (b0+b1+64≤a0)=q2 at *
  have N0:=HasB.new w 52 [.int .i64 a0,.int .i64 a1]
  have N1:=HasB.new (w.alloc (.cells #[.int .i64 a0,.int .i64 a1] 52)) 52 [.int .i64 b0,.int .i64 b1]
  have P0:=HasB.below N0 (bel_al (Below.refl _ _) (.cells #[.int .i64 b0,.int .i64 b1] 52))
  have hs:(w.alloc (.cells #[.int .i64 a0,.int .i64 a1] 52)).heap.size=w.heap.size+1:=Array.size_push _
  have BB:=Lib.hid (bel_al (bel_al (Below.refl _ w) (.cells #[.int .i64 a0,.int .i64 a1] 52)) (.cells #[.int .i64 b0,.int .i64 b1] 52))
  rw [hs] at N1
  obtain ⟨W,hW⟩:∃ W,(w.alloc (.cells #[.int .i64 a0,.int .i64 a1] 52)).alloc (.cells #[.int .i64 b0,.int .i64 b1] 52)=W:=⟨_,rfl⟩
  replace N1:=Lib.hid (show HasB W (w.heap.size+1) 52 [.int .i64 b0,.int .i64 b1] from hW ▸ N1)
  replace P0:=Lib.hid (show HasB W w.heap.size 52 [.int .i64 a0,.int .i64 a1] from hW ▸ P0)
  rw [hW] at BB
  clear N0
  have c0:=P0.out.cell 0
  have c1:=P0.out.cell 1
  have d0:=N1.out.cell 0
  have d1:=N1.out.cell 1
  simp only [List.getElem?_cons_succ,List.getElem?_cons_zero] at c0 c1 d0 d1
  go_enter Tryz.func69,Tryz.ntmps69
  go_wp2_with fail
  refine (C1.out _).mono ?_;rintro e w2 ⟨rfl,hb⟩
  have B2:=Lib.hid (bel_then BB.out hb)
  replace P0:=Lib.hid (P0.out.below hb)
  replace N1:=Lib.hid (N1.out.below hb)
  clear hb c0 c1 d0 d1
  have c0:=P0.out.cell 0
  have c1:=P0.out.cell 1
  have d0:=N1.out.cell 0
  have d1:=N1.out.cell 1
  simp only [List.getElem?_cons_succ,List.getElem?_cons_zero] at c0 c1 d0 d1
  cases q1
  · go_wp2_with fail
    refine (C2.out _).mono ?_;rintro e w3 ⟨rfl,hb⟩
    have B3:=Lib.hid (bel_then B2.out hb)
    clear hb
    go_wp2
    go_ret
    exact ⟨rfl,B3.out⟩
  · go_wp2
    go_ret
    exact ⟨rfl,B2.out⟩
theorem slies_any (x:Rg) (n:Int) (hx:rgWf x) (hn:0≤n∧n≤65536) (w:World) :
    Calls Tryz.prog 36 #[.agg #[.int .i64 x.1,.int .i64 x.2],.int .i64 n] w fun e w'=>e=.returned (.bool (regB n x))∧Below w.heap.size w w':=by
  obtain ⟨b,s⟩:=x
  unfold regB rgWf at *
  simp only at hx ⊢
  have M:=smay_any s
  have B0:=Lib.hid (bel_al (Below.refl _ w) (.cells #[.int .i64 b,.int .i64 s] 52))
  rcases Bool.eq_false_or_eq_true (powS s) with h | h
  · obtain ⟨h1,h2⟩:=powS_pos h
    rw [h] at M ⊢;clear h
    replace M:=Lib.hid M
    by_cases k1:0 < b
    · have htm:b.tmod s=b % s:=Int.tmod_eq_emod_of_nonneg (by omega)
      have hz:(s == 0)=false:=by simp;omega
      have e0:=Int.emod_nonneg b (by omega:s≠0)
      have e1:=Int.emod_lt_of_pos b (by omega:0 < s)
      have hsb:b % s=0→s≤b:=fun h=>by
        refine Int.not_lt.1 fun q=>?_
        rw [Int.emod_eq_of_lt (by omega) q] at h;omega
      generalize hd:b % s=d at *
      have w1:wrap64 (n - 64 - s)=n - 64 - s:=w64 (by omega)
      by_cases k3:d=0
      · subst k3
        have hs2:=hsb rfl
        have e:(true && decide (s≤b) && decide (True) && decide (b+s+64≤n))=decide (b≤n - 64 - s):=by
          rw [decide_eq_true hs2];simp only [decide_true,Bool.true_and];exact decide_eq_decide.2 (by omega)
        have E:=Lib.hid e
        clear hsb e
        go_enter Tryz.func36,Tryz.ntmps36
        go_wp2_with fail
        refine (M.out _).mono ?_;rintro e w2 ⟨rfl,rfl⟩
        go_wp2
        go_ret
        exact ⟨ret_bool (by simpa using E.out.symm),B0.out⟩
      · have k3':(d == 0)=false:=by simpa using k3
        have e:(true && decide (s≤b) && decide (d=0) && decide (b+s+64≤n))=false:=by simp [k3]
        rw [e];clear e hsb
        go_enter Tryz.func36,Tryz.ntmps36
        go_wp2_with fail
        refine (M.out _).mono ?_;rintro e w2 ⟨rfl,rfl⟩
        go_wp2
        go_ret
        exact ⟨rfl,B0.out⟩
    · have e:(true && decide (s≤b) && decide (b % s=0) && decide (b+s+64≤n))=false:=by rw [decide_eq_false (by omega:¬ s≤b)];simp
      rw [e];clear e
      go_enter Tryz.func36,Tryz.ntmps36
      go_wp2_with fail
      refine (M.out _).mono ?_;rintro e w2 ⟨rfl,rfl⟩
      go_wp2
      go_ret
      exact ⟨rfl,B0.out⟩
  · rw [h] at M ⊢;clear h
    replace M:=Lib.hid M
    go_enter Tryz.func36,Tryz.ntmps36
    go_wp2_with fail
    refine (M.out _).mono ?_;rintro e w2 ⟨rfl,rfl⟩
    go_wp2
    go_ret
    exact ⟨rfl,B0.out⟩
theorem reg_bd {n:Int} {r:Rg} (h:regB n r=true) (hn:n≤65536):-100000≤r.1∧r.1≤100000∧0≤r.2∧r.2≤100000:=by
  obtain ⟨h1,h2,h3,h4⟩:=reg_iff.1 h
  have:=powS_pos h1
  omega
set_option maxRecDepth 10000 in
set_option maxHeartbeats 4000000 in
theorem right_in (A:Option Addr) (cap n:Nat) (L:List Rg) (m:Int) (hl:L.length=n) (hn:n≤1000) (hm0:0≤m) (hm1:m≤65536) (w:World) (R:RgRow w A cap L) :
    Calls Tryz.prog 15 #[.slice A n cap,.int .i64 m] w fun e w'=>e=.returned (.bool (rgtB L m))∧Below w.heap.size w w':=by
  have RR:=Lib.hid R
  have HL:=Lib.hid hl
  have HW:=Lib.hid R.2.2.1
  have NO:=Lib.hid (fun (h:¬ RightP L m)=>rgt_no.2 h)
  have YES:=Lib.hid (fun (h:RightP L m)=>rgt_iff.2 h)
  have B0:=Lib.hid (Below.refl w.heap.size w)
  clear R hl
  generalize rgtB L m=q at *
  go_enter Tryz.func15,Tryz.ntmps15
  go_wp2_with fail
  go_loopw [15] (fun v wr=>∃ (k:Nat),v=.int .i64 k∧k≤n∧Hid (RightP (L.take k) m)∧Hid (Below w.heap.size w wr)) (fun v _=>n - (intOf v).toNat)
  case atStart=>exact ⟨0,rfl,by omega,Lib.hid (by simpa using right_nil hm0 hm1),B0⟩
  case round=>
    obtain ⟨k,rfl,hk,RP,HB⟩:=hrel
    by_cases hlt:k < n
    · obtain ⟨x,rfl,hxb,hc⟩:=(RR.out.below HB.out).2.2.2 (by intro e;have:=HL.out;rw [e] at this;simp at this;omega)
      have c0:=(hc k (by rw [HL.out];exact hlt)).c0
      have c1:=(hc k (by rw [HL.out];exact hlt)).c1
      have YW:=Lib.hid (rg_getD HW.out k (by rw [HL.out];exact hlt))
      have NR:=Lib.hid (fun (h:regB m (L.getD k (0,0))=false)=>NO.out (fun hr=>by have:=sright_at hr (by rw [HL.out];exact hlt);rw [h] at this;cases this))
      have SN:=Lib.hid (fun h1 h2=>right_snoc RP.out (by rw [HL.out];exact hlt) h1 h2)
      have LC:=Lib.hid (fun w=>slies_any (L.getD k (0,0)) m YW.out ⟨hm0,hm1⟩ w)
      have RX:=Lib.hid (fun j (hj:j < k)=>(by rw [← take_getDG L hj];exact sright_at RP.out (by rw [List.length_take,HL.out];omega):regB m (L.getD j (0,0))=true))
      have RB:=Lib.hid (fun j q (h:q < j) (hj:j < k)=>(by rw [← take_getDG L hj,← take_getDG L (Nat.lt_trans h hj)];exact ris_getD RP.out.ris h (by rw [List.length_take,HL.out];omega):Bel64 (L.getD q (0,0)) (L.getD j (0,0))))
      have HC2:=Lib.hid hc
      have NB:=Lib.hid (fun j (hj:j < k) (h:¬ Bel64 (L.getD j (0,0)) (L.getD k (0,0)))=>NO.out (fun hr=>h (ris_getD hr.ris hj (by rw [HL.out];exact hlt))))
      clear hc RP YES NO
      generalize hy:L.getD k (0,0)=y at *
      clear hy
      obtain ⟨ya,yb⟩:=y
      simp only at c0 c1 LC
      have HY:=Lib.hid (HasB.new wr 52 [.int .i64 ya,.int .i64 yb])
      have hW2:wr.alloc (.cells #[.int .i64 ya,.int .i64 yb] 52)=wr.alloc (.cells [.int .i64 ya,.int .i64 yb].toArray 52):=rfl
      rw [← hW2] at HY
      clear hW2
      have BA:=Lib.hid (bel_al (Below.refl wr.heap.size wr) (.cells #[.int .i64 ya,.int .i64 yb] 52))
      have B2:=Lib.hid (bel_al HB.out (.cells #[.int .i64 ya,.int .i64 yb] 52))
      by_cases h0:k=0
      · subst h0
        clear RX RB HC2 NB
        have e0:x.add (0 * 2)=x:=by simp [Addr.add]
        rw [e0] at c0 c1
        go_wp2_with fail
        clear c0 c1
        generalize wr.alloc (.cells #[.int .i64 ya,.int .i64 yb] 52)=ws at *
        generalize wr.heap.size=g at *
        have KS:=Lib.hid (fun (w':World) (b:Below ws.heap.size ws w')=>(show (w'.cell? ⟨g,0,none⟩=some (.int .i64 ya)∧w'.cell? ⟨g,1,none⟩=some (.int .i64 yb))∧Below ws.heap.size ws w' from ⟨⟨(HY.out.below b).cell 0,(HY.out.below b).cell 1⟩,b⟩))
        have BR:=Lib.hid (Below.refl ws.heap.size ws)
        rcases Bool.eq_false_or_eq_true (regB m (ya,yb)) with hr | hr
        · have RN:=Lib.hid (SN.out hr (fun q hq=>by omega))
          rw [hr] at LC
          clear NR SN hr
          refine wp_region_noPanic ?_
          refine wp_region_held_drew (S:=(fun w'=>(w'.cell? ⟨g,0,none⟩=some (.int .i64 ya)∧w'.cell? ⟨g,1,none⟩=some (.int .i64 yb))∧Below ws.heap.size ws w')) (by kernel_rfl) ?_ (fun hHeld=>?_)
          · (try dsimp only)
            first | exact KS.out _ BR.out | exact KS.out _ (below_drewG BR.out)
          refine wT 0 ?_
          refine wT 1 ?_
          refine wpAnyH_ready (rs:=[2]) (by kernel_rfl) (by simp) ?_
          refine rC (fun K hK=>?_) ?_
          · go_simp
            (with_reducible refine (LC.out _).mono ?_);rintro e w' ⟨rfl,hb⟩
            go_wp2_with fail
            refine hK.out _ _ ?_ (fun hHeld=>?_)
            · (try dsimp only)
              exact KS.out _ (bel_then hHeld.2 hb)
            clear hK K
            (try simp only [Act.put,lsA,lsZ,lsS])
            refine wT 3 ?_
            refine wT 4 ?_
            refine wT 5 ?_
            refine wT 6 ?_
            refine wT 7 ?_
            refine wN 8 ?_
            refine wN 9 ?_
            refine wN 10 ?_
            refine wN 11 ?_
            refine wN 12 ?_
            refine wN 13 ?_
            refine wN 14 ?_
            refine wN 15 ?_
            refine wT 16 ?_
            refine wT 17 ?_
            refine wpAnyH_done (by kernel_rfl) ?_ _
            refine NoPanic.normal ?_
            have BN:=Lib.hid (B2.out.trans (hHeld.2.mono B2.out.size))
            go_wp2_with fail
            go_roundw
            case rel=>exact ⟨0+1,by go_num,by omega,RN,BN⟩
            case measure=>simp [intOf];omega
          exact AllReadyH.nil
        · have hq:=NR.out hr
          rw [hr] at LC
          subst hq
          clear NR SN hr
          refine wp_region_noPanic ?_
          refine wp_region_held_drew (S:=(fun w'=>(w'.cell? ⟨g,0,none⟩=some (.int .i64 ya)∧w'.cell? ⟨g,1,none⟩=some (.int .i64 yb))∧Below ws.heap.size ws w')) (by kernel_rfl) ?_ (fun hHeld=>?_)
          · (try dsimp only)
            first | exact KS.out _ BR.out | exact KS.out _ (below_drewG BR.out)
          refine wT 0 ?_
          refine wT 1 ?_
          refine wpAnyH_ready (rs:=[2]) (by kernel_rfl) (by simp) ?_
          refine rC (fun K hK=>?_) ?_
          · go_simp
            (with_reducible refine (LC.out _).mono ?_);rintro e w' ⟨rfl,hb⟩
            go_wp2_with fail
            refine hK.out _ _ ?_ (fun hHeld=>?_)
            · (try dsimp only)
              exact KS.out _ (bel_then hHeld.2 hb)
            clear hK K
            (try simp only [Act.put,lsA,lsZ,lsS])
            refine wT 3 ?_
            refine wT 4 ?_
            refine wN 5 ?_
            refine wN 6 ?_
            refine wN 7 ?_
            refine wN 8 ?_
            refine wN 9 ?_
            refine wN 10 ?_
            refine wN 11 ?_
            refine wN 12 ?_
            refine wN 13 ?_
            refine wN 14 ?_
            refine wN 15 ?_
            refine wN 16 ?_
            refine wT 17 ?_
            refine wpAnyH_done (by kernel_rfl) ?_ _
            refine NoPanic.normal ?_
            have BN:=Lib.hid (B2.out.trans (hHeld.2.mono B2.out.size))
            go_wp2_with fail
            go_ret
            exact ⟨rfl,BN.out⟩
          exact AllReadyH.nil
      · obtain ⟨j,hj⟩:∃ j:Nat,k - 1=j:=⟨_,rfl⟩
        have hjk:j < k:=by omega
        have wj:wrap64 ((k:Int) - 1)=j:=by rw [w64 (by omega)];omega
        have wj2:IntKind.i64.wrap ((k:Int) - 1)=j:=by rw [IntWalk.i64_in _ (by omega)];omega
        have kp:decide ((0:Int) < (k:Int))=true:=by simp;omega
        have kp':decide (0 < k)=true:=by simp;omega
        have d0:=(HC2.out j (by rw [HL.out];omega)).c0
        have d1:=(HC2.out j (by rw [HL.out];omega)).c1
        have hz:=RX.out j hjk
        have RB2:=Lib.hid (fun q hq=>RB.out j q hq hjk)
        have NB2:=Lib.hid (NB.out j hjk)
        have SN2:=Lib.hid (fun h1 (h2:Bel64 (L.getD j (0,0)) (ya,yb))=>SN.out h1 (fun q hq=>by
          by_cases e:q=j
          · rw [e];exact h2
          · exact bel64_trans (reg_bd hz hm1).2.2.1 (RB2.out q (by omega)) h2))
        clear HC2 RX RB NB SN RB2
        generalize hy:L.getD j (0,0)=z at *
        clear hy
        obtain ⟨za,zb⟩:=z
        simp only at d0 d1
        have hjn:(j:Int) < (n:Int):=by omega
        have hjn':j < n:=by omega
        go_wp2_with fail
        clear c0 c1
        have KS:=Lib.hid (fun (w':World) (b:Below (wr.alloc (.cells #[.int .i64 ya,.int .i64 yb] 52)).heap.size (wr.alloc (.cells #[.int .i64 ya,.int .i64 yb] 52)) w')=>(show (w'.cell? ⟨wr.heap.size,0,none⟩=some (.int .i64 ya)∧w'.cell? ⟨wr.heap.size,1,none⟩=some (.int .i64 yb)∧w'.cell? (x.add (j * 2))=some (.int .i64 za)∧w'.cell? ⟨(x.add (j * 2)).block,(x.add (j * 2)).off+1,none⟩=some (.int .i64 zb))∧Below (wr.alloc (.cells #[.int .i64 ya,.int .i64 yb] 52)).heap.size (wr.alloc (.cells #[.int .i64 ya,.int .i64 yb] 52)) w' from
          ⟨⟨(HY.out.below b).cell 0,(HY.out.below b).cell 1,((bel_then BA.out b).cell (by rw [block_add];exact hxb)).trans d0,((bel_then BA.out b).cell (p:=⟨(x.add (j * 2)).block,(x.add (j * 2)).off+1,none⟩) (by rw [block_add];exact hxb)).trans d1⟩,b⟩))
        clear d0 d1 HY BA
        generalize wr.alloc (.cells #[.int .i64 ya,.int .i64 yb] 52)=ws at *
        generalize wr.heap.size=g at *
        have BR:=Lib.hid (Below.refl ws.heap.size ws)
        rcases Bool.eq_false_or_eq_true (regB m (ya,yb)) with hr | hr
        · have BC:=Lib.hid (fun w=>behind_any (za,zb) (ya,yb) (reg_bd hz hm1) (reg_bd hr hm1) w)
          simp only at BC
          rw [hr] at LC
          clear NR hz
          unfold Bel64 at NB2 SN2
          by_cases hbz:za+zb+64≤ya
          · have RN:=Lib.hid (SN2.out hr hbz)
            rw [decide_eq_true hbz] at BC
            clear NB2 SN2 hr hbz
            refine wp_region_noPanic ?_
            refine wp_region_held_drew (S:=(fun w'=>(w'.cell? ⟨g,0,none⟩=some (.int .i64 ya)∧w'.cell? ⟨g,1,none⟩=some (.int .i64 yb)∧w'.cell? (x.add (j * 2))=some (.int .i64 za)∧w'.cell? ⟨(x.add (j * 2)).block,(x.add (j * 2)).off+1,none⟩=some (.int .i64 zb))∧Below ws.heap.size ws w')) (by kernel_rfl) ?_ (fun hHeld=>?_)
            · (try dsimp only)
              first | exact KS.out _ BR.out | exact KS.out _ (below_drewG BR.out)
            refine wT 0 ?_
            refine wT 1 ?_
            refine wpAnyH_ready (rs:=[2]) (by kernel_rfl) (by simp) ?_
            refine rC (fun K hK=>?_) ?_
            · go_simp
              (with_reducible refine (LC.out _).mono ?_);rintro e w' ⟨rfl,hb⟩
              go_wp2_with fail
              refine hK.out _ _ ?_ (fun hHeld=>?_)
              · (try dsimp only)
                exact KS.out _ (bel_then hHeld.2 hb)
              clear hK K
              (try simp only [Act.put,lsA,lsZ,lsS])
              refine wT 3 ?_
              refine wT 4 ?_
              refine wT 5 ?_
              refine wT 6 ?_
              refine wT 7 ?_
              refine wT 8 ?_
              refine wT 9 ?_
              refine wT 10 ?_
              refine wT 11 ?_
              refine wT 12 ?_
              refine wT 13 ?_
              refine wpAnyH_ready (rs:=[14]) (by kernel_rfl) (by simp) ?_
              refine rC (fun K hK=>?_) ?_
              · go_simp
                (with_reducible refine (BC.out _).mono ?_);rintro e w' ⟨rfl,hb⟩
                go_wp2_with fail
                refine hK.out _ _ ?_ (fun hHeld=>?_)
                · (try dsimp only)
                  exact KS.out _ (bel_then hHeld.2 hb)
                clear hK K
                (try simp only [Act.put,lsA,lsZ,lsS])
                refine wT 15 ?_
                refine wT 16 ?_
                refine wT 17 ?_
                refine wpAnyH_done (by kernel_rfl) ?_ _
                refine NoPanic.normal ?_
                have BN:=Lib.hid (B2.out.trans (hHeld.2.mono B2.out.size))
                go_wp2_with fail
                go_roundw
                case rel=>exact ⟨k+1,by go_num,by omega,RN,BN⟩
                case measure=>simp [intOf];omega
              exact AllReadyH.nil
            exact AllReadyH.nil
          · have hq:=NB2.out hbz
            rw [decide_eq_false hbz] at BC
            subst hq
            clear NB2 SN2 hr hbz
            refine wp_region_noPanic ?_
            refine wp_region_held_drew (S:=(fun w'=>(w'.cell? ⟨g,0,none⟩=some (.int .i64 ya)∧w'.cell? ⟨g,1,none⟩=some (.int .i64 yb)∧w'.cell? (x.add (j * 2))=some (.int .i64 za)∧w'.cell? ⟨(x.add (j * 2)).block,(x.add (j * 2)).off+1,none⟩=some (.int .i64 zb))∧Below ws.heap.size ws w')) (by kernel_rfl) ?_ (fun hHeld=>?_)
            · (try dsimp only)
              first | exact KS.out _ BR.out | exact KS.out _ (below_drewG BR.out)
            refine wT 0 ?_
            refine wT 1 ?_
            refine wpAnyH_ready (rs:=[2]) (by kernel_rfl) (by simp) ?_
            refine rC (fun K hK=>?_) ?_
            · go_simp
              (with_reducible refine (LC.out _).mono ?_);rintro e w' ⟨rfl,hb⟩
              go_wp2_with fail
              refine hK.out _ _ ?_ (fun hHeld=>?_)
              · (try dsimp only)
                exact KS.out _ (bel_then hHeld.2 hb)
              clear hK K
              (try simp only [Act.put,lsA,lsZ,lsS])
              refine wT 3 ?_
              refine wT 4 ?_
              refine wT 5 ?_
              refine wT 6 ?_
              refine wT 7 ?_
              refine wT 8 ?_
              refine wT 9 ?_
              refine wT 10 ?_
              refine wT 11 ?_
              refine wT 12 ?_
              refine wT 13 ?_
              refine wpAnyH_ready (rs:=[14]) (by kernel_rfl) (by simp) ?_
              refine rC (fun K hK=>?_) ?_
              · go_simp
                (with_reducible refine (BC.out _).mono ?_);rintro e w' ⟨rfl,hb⟩
                go_wp2_with fail
                refine hK.out _ _ ?_ (fun hHeld=>?_)
                · (try dsimp only)
                  exact KS.out _ (bel_then hHeld.2 hb)
                clear hK K
                (try simp only [Act.put,lsA,lsZ,lsS])
                refine wT 15 ?_
                refine wT 16 ?_
                refine wT 17 ?_
                refine wpAnyH_done (by kernel_rfl) ?_ _
                refine NoPanic.normal ?_
                have BN:=Lib.hid (B2.out.trans (hHeld.2.mono B2.out.size))
                go_wp2_with fail
                go_ret
                exact ⟨rfl,BN.out⟩
              exact AllReadyH.nil
            exact AllReadyH.nil
        · have hq:=NR.out hr
          rw [hr] at LC
          subst hq
          clear NR SN2 NB2 hr hz
          refine wp_region_noPanic ?_
          refine wp_region_held_drew (S:=(fun w'=>(w'.cell? ⟨g,0,none⟩=some (.int .i64 ya)∧w'.cell? ⟨g,1,none⟩=some (.int .i64 yb)∧w'.cell? (x.add (j * 2))=some (.int .i64 za)∧w'.cell? ⟨(x.add (j * 2)).block,(x.add (j * 2)).off+1,none⟩=some (.int .i64 zb))∧Below ws.heap.size ws w')) (by kernel_rfl) ?_ (fun hHeld=>?_)
          · (try dsimp only)
            first | exact KS.out _ BR.out | exact KS.out _ (below_drewG BR.out)
          refine wT 0 ?_
          refine wT 1 ?_
          refine wpAnyH_ready (rs:=[2]) (by kernel_rfl) (by simp) ?_
          refine rC (fun K hK=>?_) ?_
          · go_simp
            (with_reducible refine (LC.out _).mono ?_);rintro e w' ⟨rfl,hb⟩
            go_wp2_with fail
            refine hK.out _ _ ?_ (fun hHeld=>?_)
            · (try dsimp only)
              exact KS.out _ (bel_then hHeld.2 hb)
            clear hK K
            (try simp only [Act.put,lsA,lsZ,lsS])
            refine wT 3 ?_
            refine wT 4 ?_
            refine wN 5 ?_
            refine wN 6 ?_
            refine wN 7 ?_
            refine wN 8 ?_
            refine wN 9 ?_
            refine wN 10 ?_
            refine wN 11 ?_
            refine wN 12 ?_
            refine wN 13 ?_
            refine wN 14 ?_
            refine wN 15 ?_
            refine wN 16 ?_
            refine wT 17 ?_
            refine wpAnyH_done (by kernel_rfl) ?_ _
            refine NoPanic.normal ?_
            have BN:=Lib.hid (B2.out.trans (hHeld.2.mono B2.out.size))
            go_wp2_with fail
            go_ret
            exact ⟨rfl,BN.out⟩
          exact AllReadyH.nil
    · have hq:=YES.out (by have:=RP.out;rwa [List.take_of_length_le (by rw [HL.out];omega)] at this)
      subst hq
      go_wp2_with fail
      go_ret
      exact ⟨rfl,HB.out⟩
theorem right_code:RightC:=by
  intro A cap n L m hl hn hm w R
  unfold I64r at hm
  have B0:=Lib.hid (Below.refl w.heap.size w)
  by_cases h0:m < 0
  · rw [rgt_no.2 (fun h=>by have:=h.lo;omega)]
    clear R
    go_enter Tryz.func15,Tryz.ntmps15
    go_wp2_with fail
    go_ret
    exact ⟨rfl,B0.out⟩
  · by_cases h1:65536 < m
    · rw [rgt_no.2 (fun h=>by have:=h.hi;omega)]
      clear R
      go_enter Tryz.func15,Tryz.ntmps15
      go_wp2_with fail
      go_ret
      exact ⟨rfl,B0.out⟩
    · exact right_in A cap n L m hl hn (by omega) (by omega) w R
theorem right_one (r:Rg) (m:Int) (hm:-9223372036854775808≤m∧m≤9223372036854775807) (A:Option Addr) (cap:Nat) (w:World) (R:RgRow w A cap [r]) :
    Calls Tryz.prog 15 #[.slice A 1 cap,.int .i64 m] w fun e w'=>e=.returned (.bool (rgtB [r] m))∧Below w.heap.size w w':=
  right_code A cap 1 [r] m rfl (by omega) hm w R
end Go.Proofs.YteefmjhemhlapaaGreat.Mm
