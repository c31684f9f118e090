/- What is asked of package gate's functions, and the document's example. -/
import Derived.Test.YteefmjhemhlapaaGreatVBaM
import Derived.Test.YteefmjhemhlapaaGreatVStA
import Derived.Test.YteefmjhemhlapaaGreatVMeR
import Derived.Deep.Slices
import Derived.Deep.Fields
import Derived.ChangeSame
namespace Go.Proofs.YteefmjhemhlapaaGreat.Mm
open Go.ChangeShapes Go.WideShapes Go.ChangeAt Go.RowKit
set_option linter.unusedVariables false
set_option maxRecDepth 10000

abbrev Ev:=Int×Int
def evC (x:Ev):List Value:=[.int .i64 x.1,.int .u32 x.2]
def evWf (x:Ev):Prop:=(-9223372036854775808≤x.1∧x.1≤9223372036854775807)∧(0≤x.2∧x.2≤4294967295)
structure EvAt (w:World) (p:Addr) (x:Ev):Prop where
  c0:w.cell? p=some (.int .i64 x.1)
  c1:w.cell? ⟨p.block,p.off+1,none⟩=some (.int .u32 x.2)
def EvRow (w:World) (A:Option Addr) (cap:Nat) (l:List Ev):Prop:=
  l.length≤cap∧cap≤maxLen∧(∀ x∈l,evWf x)∧(l≠[]→∃ p,A=some p∧p.block < w.heap.size∧∀ i,i < l.length→EvAt w (p.add (i * 2)) (l.getD i (0,0)))
theorem EvAt.below {w w':World} {p:Addr} {x:Ev} (h:EvAt w p x) (hp:p.block < w.heap.size) (b:Below w.heap.size w w'):EvAt w' p x:=
  ⟨by rw [b.cell hp];exact h.c0,(b.cell (p:=⟨p.block,p.off+1,none⟩) hp).trans h.c1⟩
theorem EvRow.below {w w':World} {A:Option Addr} {cap:Nat} {l:List Ev} (h:EvRow w A cap l) (b:Below w.heap.size w w'):EvRow w' A cap l:=by
  obtain ⟨h1,h2,h3,h4⟩:=h
  refine ⟨h1,h2,h3,fun hn=>?_⟩
  obtain ⟨p,hp,hb,hc⟩:=h4 hn
  exact ⟨p,hp,Nat.lt_of_lt_of_le hb b.size,fun i hi=>(hc i hi).below (by rw [block_add];exact hb) b⟩
theorem evRow_nil (w:World):EvRow w none 0 []:=⟨Nat.le_refl _,Nat.zero_le _,fun x hx=>(by cases hx),fun h=>absurd rfl h⟩
theorem flatV_len (L:List Ev):(L.flatMap evC).length=L.length * 2:=by
  induction L with
  | nil=>rfl
  | cons x t ih=>rw [List.flatMap_cons,List.length_append,ih,List.length_cons];show 2+_=_;omega
theorem flatV_get (L:List Ev):∀ i,i < L.length→∀ j,j < 2→(L.flatMap evC)[i * 2+j]?=(evC (L.getD i (0,0)))[j]?:=by
  induction L with
  | nil=>intro i hi;simp at hi
  | cons x t ih=>
    intro i hi j hj
    rw [List.flatMap_cons]
    cases i with
    | zero=>rw [List.getElem?_append_left (by show _ < 2;omega)];simp
    | succ i=>
      rw [List.getElem?_append_right (by show 2≤_;omega)]
      rw [show (i+1) * 2+j - (evC x).length=i * 2+j by show (i+1) * 2+j - 2=_;omega,ih i (by simp at hi;omega) j hj]
      simp
theorem flatV_app (L M:List Ev):(L ++ M).flatMap evC=L.flatMap evC ++ M.flatMap evC:=by simp
theorem flatV_one (x:Ev):[x].flatMap evC=evC x:=by simp
theorem evC_one (x:Ev):∀ u∈evC x,u.oneCell'=true:=by
  intro u hu
  simp only [evC,List.mem_cons,List.not_mem_nil,or_false] at hu
  rcases hu with rfl | rfl <;> rfl
theorem ev_info:(Tryz.prog.info? 119).map (fun i=>(i.zero,i.size,i.bytes))=some (some (.agg #[.int .i64 0,.int .u32 0]),2,16):=by kernel_rfl
theorem addr0V (g k:Nat):(⟨g,0,none⟩:Addr).add k=⟨g,k,none⟩:=by
  unfold Addr.add
  by_cases h0:k=0
  · subst h0;rfl
  · rw [if_neg h0];simp
theorem ev_of_own {T:TypeId} {w:World} {base n:Nat} {v:Value} {L:List Ev} (h:w.ownsRow base T 2 v n (L.flatMap evC)) (hw:∀ x∈L,evWf x):∃ A cap,v=.slice A n cap∧n=L.length∧EvRow w A cap L:=by
  have hl:L.length=n:=by have:=h.1;rw [flatV_len] at this;omega
  rcases h.2 with ⟨rfl,rfl⟩ | ⟨g,cap,cur,rfl,_,hh,hc,hm,_⟩
  · have:L=[]:=List.eq_nil_of_length_eq_zero hl
    subst this
    exact ⟨none,0,rfl,rfl,evRow_nil w⟩
  · refine ⟨_,cap,rfl,hl.symm,by omega,hm,hw,fun hne=>⟨_,rfl,(h.lt g rfl).2,fun i hi=>?_⟩⟩
    have key:∀ j,j < 2→w.cell? ⟨g,i * 2+j,none⟩=(evC (L.getD i (0,0)))[j]?:=fun j hj=>by
      have e:=flatV_get L i hi j hj
      have hs:∃ u,(evC (L.getD i (0,0)))[j]?=some u:=⟨_,List.getElem?_eq_getElem (show j < (evC _).length from hj)⟩
      obtain ⟨u,hu⟩:=hs
      rw [hu] at e ⊢
      have:=h.cells (g:=g) rfl _ u e
      rw [addr0V] at this
      exact this
    rw [addr0V]
    exact ⟨key 0 (by decide),key 1 (by decide)⟩
theorem cells2V {w:World} {p:Addr} {t:Ev} (h:EvAt w p t) (hs:p.spot=none):∀ j u,(evC t)[j]?=some u→w.cell? (p.add j)=some u:=by
  obtain ⟨b,o,s⟩:=p
  subst hs
  intro j u hj
  match j,hj with
  | 0,hj=>simp [evC] at hj;subst hj;simpa [Addr.add] using h.c0
  | 1,hj=>simp [evC] at hj;subst hj;simpa [Addr.add] using h.c1
  | j+2,hj=>simp [evC] at hj
theorem evAt_new (w:World) (y:Ev) (T:TypeId):EvAt (w.alloc (.cells #[.int .i64 y.1,.int .u32 y.2] T)) ⟨w.heap.size,0,none⟩ y:=by
  have h:=HasB.new w T (evC y)
  exact ⟨h.cell 0,h.cell 1⟩
theorem below_drewV {B:Nat} {w w':World} (h:Below B w w'):Below B w w'.drew:=⟨h.os,h.tape,h.output,h.size,h.block⟩
theorem own_belowV {A B:World} {base size n:Nat} {e:TypeId} {v:Value} {xs:List Value} (h:A.ownsRow base e size v n xs) (b:Below A.heap.size A B):B.ownsRow base e size v n xs:=by
  refine h.kept (row:=none) ⟨b.os,b.tape,b.output,b.size,fun k hk _=>b.block k hk⟩ ?_
  rcases h.2 with ⟨rfl,_⟩ | ⟨g,cap,cur,rfl,_,hgb,_⟩
  · exact .inl rfl
  · exact .inr (fun e'=>by cases e')
def KRow (k:IntKind) (w:World) (A:Option Addr) (cap:Nat) (l:List Int):Prop:=
  l.length≤cap∧cap≤maxLen∧(∀ x∈l,(Lit.int k x).wf=true)∧(l≠[]→∃ p,A=some p∧p.block < w.heap.size∧∀ i,i < l.length→w.cell? (p.add i)=some (.int k (l.getD i 0)))
theorem KRow.below {k:IntKind} {w w':World} {A:Option Addr} {cap:Nat} {l:List Int} (h:KRow k w A cap l) (b:Below w.heap.size w w'):KRow k w' A cap l:=by
  obtain ⟨h1,h2,h3,h4⟩:=h
  refine ⟨h1,h2,h3,fun hn=>?_⟩
  obtain ⟨p,hp,hb,hc⟩:=h4 hn
  exact ⟨p,hp,Nat.lt_of_lt_of_le hb b.size,fun i hi=>by rw [b.cell (by rw [block_add];exact hb)];exact hc i hi⟩
theorem kRow_nil (k:IntKind) (w:World):KRow k w none 0 []:=⟨Nat.le_refl _,Nat.zero_le _,fun x hx=>(by cases hx),fun h=>absurd rfl h⟩
theorem KRow.at {k:IntKind} {w:World} {A:Option Addr} {cap:Nat} {l:List Int} (h:KRow k w A cap l) {i:Nat} (hi:i < l.length):∃ p,A=some p∧w.cell? (p.add i)=some (.int k (l.getD i 0))∧(Lit.int k (l.getD i 0)).wf=true:=by
  obtain ⟨p,hp,_,hc⟩:=h.2.2.2 (by intro e;rw [e] at hi;simp at hi)
  exact ⟨p,hp,hc i hi,h.2.2.1 _ (by rw [List.getD_eq_getElem?_getD,List.getElem?_eq_getElem hi];exact List.getElem_mem _)⟩
theorem krow_of {H:Type} {enc:TypeId×Value→H} {P:Program} {k:IntKind} {w:World} {base:Nat} {spare:Nat→Bool} {held:Bool} {t e:TypeId} {a:Option Addr} {len cap:Nat} {d:DataW H} {ps:List MemPlace}
    (ht:P.underlying t=some (.slice e)) (he:P.underlying e=some (.int k)) (hc:P.cellsOf e=1) (h:DataW.Trod enc P w base spare held t (.slice a len cap) d ps) :
    ∃ l:List Int,len=l.length∧KRow k w a cap l:=by
  obtain ⟨fuel,hf⟩:=h
  rcases open_ints ht he hc hf with ⟨hcs,_⟩ | ⟨x,l,c,zs,hcs,_,hl,hm,hz,_,hcell,hwz⟩
  · simp [Value.cells] at hcs
    obtain ⟨rfl,rfl,rfl⟩:=hcs
    exact ⟨[],rfl,kRow_nil k w⟩
  · simp [Value.cells] at hcs
    obtain ⟨rfl,rfl,rfl⟩:=hcs
    have hlz:len≤zs.length:=by rw [hz];split <;> omega
    have hln:(zs.take len).length=len:=by rw [List.length_take];omega
    refine ⟨zs.take len,hln.symm,by omega,hm,fun n hn=>hwz n (List.mem_of_mem_take hn),fun hne=>⟨x,rfl,?_,fun i hi=>?_⟩⟩
    · have h0:0 < (zs.take len).length:=List.length_pos_iff.2 hne
      have:=block_of_cell (hcell 0 (by omega))
      rwa [block_add] at this
    · rw [hln] at hi
      rw [hcell i (by omega)]
      simp [List.getD,hi]
theorem u32row_of {H:Type} {enc:TypeId×Value→H} {w:World} {base:Nat} {spare:Nat→Bool} {held:Bool} {a:Option Addr} {len cap:Nat} {d:DataW H} {ps:List MemPlace}
    (h:DataW.Trod enc Tryz.prog w base spare held 36 (.slice a len cap) d ps):∃ l:List Int,len=l.length∧KRow .u32 w a cap l:=
  krow_of Tryz.underlying36 Tryz.underlying74 (by kernel_rfl) h
structure Wd where
  rep:List Int
  tk:Int
  tr:List Ev
  ov:Bool
  cd:Int
def Wd.val (W:Wd) (RA:Option Addr) (rc:Nat) (TA:Option Addr) (tc:Nat):Value:=.agg #[.slice RA W.rep.length rc,.int .i64 W.tk,.slice TA W.tr.length tc,.bool W.ov,.int .u32 W.cd]
def ownsB (b s at_ n:Int):Bool:=decide (b+s / 2≤at_) && decide (at_+n≤b+s / 2+s / 2)
def repV (W:Wd):Int:=if max W.tk 0 < W.rep.length then W.rep.getD (max W.tk 0).toNat 0 else 0
def repT (W:Wd):Int:=if max W.tk 0 < W.rep.length then max W.tk 0+1 else max W.tk 0
def gateS (c:Cp) (sum:Int) (W:Wd) (n:Int):Cp×Wd:=
  if W.ov=true then (c,W)
  else if n=0 then (c,{ W with ov:=true,cd:=c.reg 0,tr:=W.tr ++ [(0,c.reg 0)] })
  else if n=1 then (c,{ W with tr:=W.tr ++ [(1,c.reg 0)] })
  else if n=2 then (c.setR 0 (repV W),{ W with tk:=repT W,tr:=W.tr ++ [(2,repV W)] })
  else if n=3 then (c.setR 0 sum,{ W with tr:=W.tr ++ [(3,sum)] })
  else (c,W)
theorem gateS_over (c:Cp) (sum:Int) (W:Wd) (n:Int) (h:W.ov=true):gateS c sum W n=(c,W):=by unfold gateS;rw [if_pos h]
theorem row_take {w:World} {A:Option Addr} {cap:Nat} {l:List Int} (r:RowAt w A cap l) (m:Nat):RowAt w A cap (l.take m):=by
  obtain ⟨h1,h2,h3,h4⟩:=r
  have hl:(l.take m).length≤l.length:=by rw [List.length_take];omega
  refine ⟨by omega,h2,take_byte h3 _,fun hne=>?_⟩
  obtain ⟨x,hx,hb,hc⟩:=h4 (by intro e;subst e;simp at hne)
  exact ⟨x,hx,hb,fun i hi=>by rw [hc i (by omega),getD_take' _ _ _ _ (by rw [List.length_take] at hi;omega)]⟩
theorem u8_el:Tryz.prog.underlying 39=some (.slice (Tryz.prog.elem 39)):=by kernel_rfl
theorem u8_sz (w:World):(sizeOf (Tryz.prog.elem 39)).run Tryz.prog w=.ok 1 w:=by kernel_rfl
theorem has2 {w:World} {g:Nat} {t:TypeId} {v0 v1:Value} (k:HasB w g t [v0,v1]):(w.cell? ⟨g,0,none⟩=some v0∧w.cell? ⟨g,1,none⟩=some v1)∧(w.frozen? ⟨g,0,none⟩=false∧w.frozen? ⟨g,1,none⟩=false):=
  ⟨⟨k.cell 0,k.cell 1⟩,⟨k.frozen 0,k.frozen 1⟩⟩
def T8:List Bool:=[false,false,true,true,true,true,false,false]
def B8 (l:List Int):List Int:=splice (List.replicate 512 0) 128 (l.take 256)
def sumV (c:Cp) (B:List Int) (T:List Bool):Int:=
  if (ownsB c.b c.s (c.reg 0) (c.reg 1) && wholeB T (c.reg 0) (c.reg 1))=true then fnvL 2166136261 ((B.drop (c.reg 0).toNat).take (c.reg 1).toNat) else 4294967295
def SumIs (w:World) (c:Cp) (pv:Option Addr) (sum:Int):Prop:=∃ p g h B T,pv=some ⟨p,0,none⟩∧MemAt w p g h B T∧sum=sumV c B T
structure Wd.Ok (W:Wd):Prop where
  rep:W.rep.length≤100000
  tr:W.tr.length≤100000
  tk:0≤W.tk∧W.tk≤9223372036854775807
  cd:U32 W.cd
def OwnsC:Prop:=∀ (c:Cp) (at_ n:Int),c.Ok→U32 at_→U32 n→∀ w:World,
  Calls Tryz.prog 121 #[c.val,.int .u32 at_,.int .u32 n] w fun e w'=>e=.returned (.bool (ownsB c.b c.s at_ n))∧Below w.heap.size w w'
def Off (A:Option Addr) (g:Nat):Prop:=∀ x,A=some x→x.block≠g
theorem cell_chg {g h:Nat} {w w':World} (c:Chg g h w w') {p:Addr} (hp:p.block < w.heap.size) (h1:p.block≠g) (h2:p.block≠h):w'.cell? p=w.cell? p:=by
  unfold World.cell?
  rw [c.block _ hp h1 h2]
theorem KRow.chg {k:IntKind} {g h:Nat} {w w':World} {A:Option Addr} {cap:Nat} {l:List Int} (r:KRow k w A cap l) (c:Chg g h w w') (h1:Off A g) (h2:Off A h):KRow k w' A cap l:=by
  obtain ⟨r1,r2,r3,r4⟩:=r
  refine ⟨r1,r2,r3,fun hn=>?_⟩
  obtain ⟨p,hp,hb,hc⟩:=r4 hn
  exact ⟨p,hp,Nat.lt_of_lt_of_le hb c.size,fun i hi=>(cell_chg c (by rw [block_add];exact hb) (by rw [block_add];exact h1 p hp) (by rw [block_add];exact h2 p hp)).trans (hc i hi)⟩
theorem KRow.nil (k:IntKind) {w w':World} {A:Option Addr} {cap:Nat} (r:KRow k w A cap []):KRow k w' A cap []:=⟨r.1,r.2.1,r.2.2.1,fun h=>absurd rfl h⟩
theorem KRow.chg' {k:IntKind} {g h:Nat} {w w':World} {A:Option Addr} {cap:Nat} {l:List Int} (r:KRow k w A cap l) (c:Chg g h w w') (h1:l=[]∨(Off A g∧Off A h)):KRow k w' A cap l:=by
  rcases h1 with rfl | ⟨h1,h2⟩
  · exact KRow.nil k r
  · exact r.chg c h1 h2
theorem EvRow.chg {g h:Nat} {w w':World} {A:Option Addr} {cap:Nat} {l:List Ev} (r:EvRow w A cap l) (c:Chg g h w w') (h1:Off A g) (h2:Off A h):EvRow w' A cap l:=by
  obtain ⟨r1,r2,r3,r4⟩:=r
  refine ⟨r1,r2,r3,fun hn=>?_⟩
  obtain ⟨p,hp,hb,hc⟩:=r4 hn
  have hpb:∀ i,(p.add i).block=p.block:=fun i=>block_add p i
  exact ⟨p,hp,Nat.lt_of_lt_of_le hb c.size,fun i hi=>⟨(cell_chg c (by rw [hpb];exact hb) (by rw [hpb];exact h1 p hp) (by rw [hpb];exact h2 p hp)).trans (hc i hi).c0,
    (cell_chg (p:=⟨(p.add (i * 2)).block,(p.add (i * 2)).off+1,none⟩) c (by rw [hpb];exact hb) (by rw [hpb];exact h1 p hp) (by rw [hpb];exact h2 p hp)).trans (hc i hi).c1⟩⟩
theorem u32_0:U32 0:=by unfold U32;omega
theorem set_same {w:World} {g:Nat} {t:TypeId} {cs:List Value} (h:HasB w g t cs) (i:Nat) (v:Value) (hv:cs[i]?=some v):w.setCell ⟨g,i,none⟩ v=w:=by
  have hh:w.heap[g]?=some (.cells cs.toArray t (0,0)):=h
  have hl:=h.lt
  unfold World.setCell
  have e:w.heap.modify g (fun | .cells c elem frozen=>.cells (if (⟨g,i,none⟩:Addr).spot.isSome then c else c.setIfInBounds i v) elem frozen | o=>o)=w.heap:=by
    apply Array.ext_getElem?
    intro k
    rw [Array.getElem?_modify]
    by_cases hk:g=k
    · subst hk
      rw [if_pos rfl,hh]
      simp
      apply List.ext_getElem?
      intro j
      rw [List.getElem?_set]
      by_cases hj:i=j
      · subst hj
        rw [if_pos rfl,hv]
        have:=(List.getElem?_eq_some_iff.1 hv).1
        simp [this]
      · rw [if_neg hj]
    · rw [if_neg hk]
  exact congrArg (fun hp=>({ w with heap:=hp }:World)) e
theorem has5 {w:World} {g:Nat} {t:TypeId} {a b c d e:Value} (k:HasB w g t [a,b,c,d,e]) :
    (w.cell? ⟨g,0,none⟩=some a∧w.cell? ⟨g,1,none⟩=some b∧w.cell? ⟨g,2,none⟩=some c∧w.cell? ⟨g,3,none⟩=some d∧w.cell? ⟨g,4,none⟩=some e) ∧
    (w.frozen? ⟨g,0,none⟩=false∧w.frozen? ⟨g,1,none⟩=false∧w.frozen? ⟨g,2,none⟩=false∧w.frozen? ⟨g,3,none⟩=false∧w.frozen? ⟨g,4,none⟩=false):=
  ⟨⟨k.cell 0,k.cell 1,k.cell 2,k.cell 3,k.cell 4⟩,⟨k.frozen 0,k.frozen 1,k.frozen 2,k.frozen 3,k.frozen 4⟩⟩
end Go.Proofs.YteefmjhemhlapaaGreat.Mm
