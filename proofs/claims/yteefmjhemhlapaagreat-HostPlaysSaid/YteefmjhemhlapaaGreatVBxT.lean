/- A trace that is appended to in place: clipped, or of a call's own; changes at one block, and behind a base. -/
import Derived.Test.YteefmjhemhlapaaGreatVMeR
import Derived.Test.YteefmjhemhlapaaGreatVBxA
import Derived.Test.YteefmjhemhlapaaGreatVGaB
import Derived.Laws.Tables
import Derived.Laws.Rows
import Derived.OrdersHeld
import Derived.Laws.IdiomCopy
import Derived.Deep.AppendSrc
import Derived.Deep.Upon
namespace Go.Proofs.YteefmjhemhlapaaGreat.Mm
open Go.ChangeShapes Go.WideShapes Go.ChangeAt Go.RowKit
set_option linter.unusedVariables false

theorem asaddr_run (a:Addr) (w:World):(asAddr (.pointer (some a))).run Tryz.prog w=.ok a w:=rfl
theorem loadvar_has {w:World} {T:TypeId} {g:Nat} {cs:List Value} {d:TypeDesc} (h:HasB w g T cs) (hd:(match d with | .struct _ | .array _ _=>true | _=>false)=true) (hu:Tryz.prog.underlying T=some d) (hi:(Tryz.prog.info? T).map (·.size)=some cs.length) :
    (loadVar T ⟨g,0,none⟩).run Tryz.prog w=.ok (.agg cs.toArray) w:=by
  cases d <;> first | exact run_loadVar_row w g T T cs.toArray (0,0) _ h hu rfl (by simpa using hi) | cases hd
theorem exec_load_has {w:World} {o:Oper} {ev:Operand→Value} (T:TypeId) (x:Operand) (ho:o.op=.load T x) (g:Nat) (hx:ev x=.pointer (some ⟨g,0,none⟩)) {cs:List Value} {d:TypeDesc} (h:HasB w g T cs) (hd:(match d with | .struct _ | .array _ _=>true | _=>false)=true) (hu:Tryz.prog.underlying T=some d) (hi:(Tryz.prog.info? T).map (·.size)=some cs.length) :
    (execOp ev o).run Tryz.prog w=.ok (.value (.agg cs.toArray)) w:=by
  unfold execOp
  simp only [ho,hx,Instr.loadAt,Instr.sureAddr,Sem.run_bind,Sem.run_pure,Result.andThen_ok,loadvar_has h hd hu hi]
theorem row_chg {w:World} {g:Nat} {T:TypeId} {old cs:List Value} (h:HasB w g T old):HasB (w.setRow g cs.toArray) g T cs∧Chg g g w (w.setRow g cs.toArray):=by
  refine ⟨setRow_heap w g old.toArray cs.toArray T (0,0) h,⟨rfl,rfl,rfl,by simp [World.setRow],fun k hk h1 _=>?_⟩⟩
  simp [World.setRow,Array.getElem?_modify,Ne.symm h1]
theorem st_has {o:Oper} {a:Act} {w:World} {K:Act→World→Prop} {Q:Exit→Act→World→Prop} (T:TypeId) (x y:Operand) (ho:o.op=.store T x y) (hd:o.dst=none) (g:Nat) (old cs:List Value)
    (hx:a.eval x=.pointer (some ⟨g,0,none⟩)) (hy:a.eval y=.agg cs.toArray) (h:HasB w g T old) (hl:old.length=cs.length) (hi:(Tryz.prog.info? T).map (·.size)=some cs.length) (h1:∀ v∈cs,v.oneCell'=true)
    (k:∀ W',HasB W' g T cs→Chg g g w W'→K a W'):o.wp Tryz.prog a w K Q:=by
  refine wp_store_row T x y ho g cs.toArray hx hy T old.toArray h (by simpa using hi) (by simp [hl]) (Array.all_eq_true_iff_forall_mem.2 (fun v hv=>h1 v (by simpa using hv))) ?_
  rw [hd]
  obtain ⟨k1,k2⟩:=row_chg (cs:=cs) h
  exact k _ k1 k2
theorem ld_any {ops:Array Oper} {rest:List Oper} {o:Oper} {a:Act} {w:World} {Q:Exit→Act→World→Prop} (hgd:o.guard=none) (T:TypeId) (x:Operand) (ho:o.op=.load T x) (g:Nat) (hx:a.eval x=.pointer (some ⟨g,0,none⟩)) (cs:List Value) {d:TypeDesc} (hb:HasB w g T cs)
    (hd:(match d with | .struct _ | .array _ _=>true | _=>false)=true) (hu:Tryz.prog.underlying T=some d) (hi:(Tryz.prog.info? T).map (·.size)=some cs.length) (h:wpList Tryz.prog ops Q rest (a.put o.dst (.agg cs.toArray)) w):wpList Tryz.prog ops Q (o :: rest) a w:=by
  cases d <;> first | exact wpList_load_row hgd T x ho g hx T cs.toArray (0,0) _ hb hu rfl (by simpa using hi) h | cases hd
theorem st_any {ops:Array Oper} {rest:List Oper} {o:Oper} {a:Act} {w:World} {Q:Exit→Act→World→Prop} (hgd:o.guard=none) (T:TypeId) (x y:Operand) (ho:o.op=.store T x y) (hd:o.dst=none) (g:Nat) (old cs:List Value)
    (hx:a.eval x=.pointer (some ⟨g,0,none⟩)) (hy:a.eval y=.agg cs.toArray) (h:HasB w g T old) (hl:old.length=cs.length) (hi:(Tryz.prog.info? T).map (·.size)=some cs.length) (h1:∀ v∈cs,v.oneCell'=true)
    (k:∀ W',HasB W' g T cs→Chg g g w W'→wpList Tryz.prog ops Q rest a W'):wpList Tryz.prog ops Q (o :: rest) a w:=by
  refine wpList_store_row hgd T x y ho g cs.toArray hx hy T old.toArray h (by simpa using hi) (by simp [hl]) (Array.all_eq_true_iff_forall_mem.2 (fun v hv=>h1 v (by simpa using hv))) ?_
  rw [hd]
  obtain ⟨k1,k2⟩:=row_chg (cs:=cs) h
  exact k _ k1 k2
theorem setCells_has (g:Nat) (T:TypeId):∀ (vs:List Value) (o:Nat) (cs:List Value) (w:World),HasB w g T cs→o+vs.length≤cs.length →
    HasB (w.setCells g o vs) g T (cs.take o ++ (vs ++ cs.drop (o+vs.length)))∧Chg g g w (w.setCells g o vs)
  | [],o,cs,w,h,_=>by
    refine ⟨?_,Chg.refl _ _ _⟩
    show HasB w g T _
    simpa using h
  | v :: r,o,cs,w,h,hl=>by
    obtain ⟨k1,k2⟩:=setCells_has g T r (o+1) (cs.set o v) (w.setCell ⟨g,o,none⟩ v) (has_set h o v) (by simp at hl ⊢;omega)
    refine ⟨?_,?_⟩
    · show HasB ((w.setCell ⟨g,o,none⟩ v).setCells g (o+1) r) g T _
      have e:(cs.set o v).take (o+1) ++ (r ++ (cs.set o v).drop (o+1+r.length))=cs.take o ++ (v :: r ++ cs.drop (o+(v :: r).length)):=by
        simp at hl
        rw [List.drop_set_of_lt (by omega),List.take_add_one,List.take_set_of_le (by omega),List.getElem?_set_self (by omega)]
        simp [Nat.add_assoc,Nat.add_comm 1]
      rw [← e];exact k1
    · have c:Chg g g w (w.setCell ⟨g,o,none⟩ v):=chg_set (Chg.refl _ _ _) _ (.inl rfl) _ _
      show Chg g g w ((w.setCell ⟨g,o,none⟩ v).setCells g (o+1) r)
      exact ⟨k2.os.trans c.os,k2.tape.trans c.tape,k2.output.trans c.output,Nat.le_trans c.size k2.size,fun i hi h1 h2=>(k2.block i (Nat.lt_of_lt_of_le hi c.size) h1 h2).trans (c.block i hi h1 h2)⟩
theorem ld_part {ops:Array Oper} {rest:List Oper} {o:Oper} {a:Act} {w:World} {Q:Exit→Act→World→Prop} (hgd:o.guard=none) (T:TypeId) (x:Operand) (ho:o.op=.load T x) (g off:Nat) (hx:a.eval x=.pointer (some ⟨g,off,none⟩)) (T':TypeId) (all cs:List Value) (hb:HasB w g T' all)
    (hag:∀ w,(isAgg T).run Tryz.prog w=.ok true w) (hi:∀ w,(Go.sizeOf T).run Tryz.prog w=.ok cs.length w) (hcs:∀ j v,cs[j]?=some v→all[off+j]?=some v) (h:wpList Tryz.prog ops Q rest (a.put o.dst (.agg cs.toArray)) w):wpList Tryz.prog ops Q (o :: rest) a w:=by
  refine wpList_plain hgd fun _ hK=>?_
  have hl:=run_loadCells_list (P:=Tryz.prog) w ⟨g,off,none⟩ cs (fun j v hv=>by rw [Addr.add_lit,hb.cell];exact hcs j v hv)
  unfold Oper.wp execOp
  simp only [ho,hx,Instr.loadAt,Instr.sureAddr,Sem.run_bind,Sem.run_pure,Result.andThen_ok,loadVar,hag,hi,if_true,hl]
  exact hK _ _ h
theorem st_part {ops:Array Oper} {rest:List Oper} {o:Oper} {a:Act} {w:World} {Q:Exit→Act→World→Prop} (hgd:o.guard=none) (T:TypeId) (x y:Operand) (ho:o.op=.store T x y) (hd:o.dst=none) (g off:Nat) (T':TypeId) (all cs ds:List Value)
    (hx:a.eval x=.pointer (some ⟨g,off,none⟩)) (hy:a.eval y=.agg cs.toArray) (hb:HasB w g T' all) (hl:off+cs.length≤all.length) (hi:∀ w,(Go.sizeOf T).run Tryz.prog w=.ok cs.length w) (h1:∀ v∈cs,v.oneCell'=true)
    (hds:ds=all.take off ++ (cs ++ all.drop (off+cs.length)))
    (k:∀ W',HasB W' g T' ds→Chg g g w W'→wpList Tryz.prog ops Q rest a W'):wpList Tryz.prog ops Q (o :: rest) a w:=by
  refine wpList_plain hgd fun K hK=>?_
  have hst:=run_storeCells_cells (P:=Tryz.prog) g off cs 0 w (fun j hj=>by rw [hb.cell];rw [List.getElem?_eq_getElem (by omega)];rfl) (fun j hj=>hb.frozen _) h1
  obtain ⟨k1,k2⟩:=setCells_has g T' cs off all w hb hl
  unfold Oper.wp execOp
  simp only [ho,hx,hy,Instr.storeAt,Instr.sureAddr,Sem.run_bind,Sem.run_pure,Result.andThen_ok,storeVar,hi,Value.cells,List.size_toArray,ne_eq,not_true_eq_false,if_false,hst]
  subst hds
  show K (a.put o.dst undef) (w.setCells g (off+0) cs)
  have hp:a.put o.dst undef=a:=by rw [hd];rfl
  rw [hp]
  exact hK _ _ (k _ k1 k2)
theorem ld_at {ops:Array Oper} {rest:List Oper} {o:Oper} {a:Act} {w:World} {Q:Exit→Act→World→Prop} (hgd:o.guard=none) (T:TypeId) (x:Operand) (ho:o.op=.load T x) (g off:Nat) (hx:a.eval x=.pointer (some ⟨g,off,none⟩)) (T':TypeId) (pre cs post:List Value) (hb:HasB w g T' (pre ++ (cs ++ post)))
    (hoff:pre.length=off) (hag:∀ w,(isAgg T).run Tryz.prog w=.ok true w) (hi:∀ w,(Go.sizeOf T).run Tryz.prog w=.ok cs.length w) (h:wpList Tryz.prog ops Q rest (a.put o.dst (.agg cs.toArray)) w):wpList Tryz.prog ops Q (o :: rest) a w:=
  ld_part hgd T x ho g off hx T' _ cs hb hag hi (fun j v hj=>by
    subst hoff
    have hlt:=(List.getElem?_eq_some_iff.1 hj).1
    rw [List.getElem?_append_right (by omega),Nat.add_sub_cancel_left,List.getElem?_append_left hlt];exact hj) h
theorem st_at {ops:Array Oper} {rest:List Oper} {o:Oper} {a:Act} {w:World} {Q:Exit→Act→World→Prop} (hgd:o.guard=none) (T:TypeId) (x y:Operand) (ho:o.op=.store T x y) (hd:o.dst=none) (g off:Nat) (T':TypeId) (pre old cs post:List Value)
    (hx:a.eval x=.pointer (some ⟨g,off,none⟩)) (hy:a.eval y=.agg cs.toArray) (hb:HasB w g T' (pre ++ (old ++ post))) (hoff:pre.length=off) (hl:old.length=cs.length) (hi:∀ w,(Go.sizeOf T).run Tryz.prog w=.ok cs.length w) (h1:∀ v∈cs,v.oneCell'=true)
    (k:∀ W',HasB W' g T' (pre ++ (cs ++ post))→Chg g g w W'→wpList Tryz.prog ops Q rest a W'):wpList Tryz.prog ops Q (o :: rest) a w:=
  st_part hgd T x y ho hd g off T' _ cs _ hx hy hb (by simp;omega) hi h1 (by
    subst hoff
    rw [List.take_left',← hl,← List.append_assoc pre old post,← List.length_append,List.drop_left']
    all_goals rfl) k
structure ChB (base g:Nat) (w w':World):Prop where
  os:w'.os=w.os
  tape:w'.tape=w.tape
  output:w'.output=w.output
  size:w.heap.size≤w'.heap.size
  block:∀ k,k < base→k≠g→w'.heap[k]?=w.heap[k]?
theorem ChB.trans {base g:Nat} {w w1 w2:World} (a:ChB base g w w1) (b:ChB base g w1 w2):ChB base g w w2:=
  ⟨b.os.trans a.os,b.tape.trans a.tape,b.output.trans a.output,Nat.le_trans a.size b.size,fun k hk hg=>(b.block k hk hg).trans (a.block k hk hg)⟩
theorem ChB.ofBelow {base g:Nat} {w w':World} (b:Below base w w'):ChB base g w w':=⟨b.os,b.tape,b.output,b.size,fun k hk _=>b.block k hk⟩
theorem ChB.ofChg {base g:Nat} {w w':World} (c:Chg g g w w') (hb:base≤w.heap.size):ChB base g w w':=⟨c.os,c.tape,c.output,c.size,fun k hk hg=>c.block k (Nat.lt_of_lt_of_le hk hb) hg hg⟩
theorem Below.ofGrown {base:Nat} {w w':World} {r:Option Nat} (h:w.grownBy w' r) (hb:base≤w.heap.size) (hr:∀ k,r=some k→base≤k):Below base w w':=
  ⟨h.os,h.tape,h.output,h.size,fun k hk=>h.block k (Nat.lt_of_lt_of_le hk hb) (fun e=>by have:=hr k e.symm;omega)⟩
theorem Below.ofNew {base j:Nat} {w w':World} (c:Chg j j w w') (hb:base≤w.heap.size) (hj:base≤j):Below base w w':=
  ⟨c.os,c.tape,c.output,c.size,fun k hk=>c.block k (Nat.lt_of_lt_of_le hk hb) (by omega) (by omega)⟩
theorem HasB.belowB {base:Nat} {w w':World} {j:Nat} {t:TypeId} {cs:List Value} (h:HasB w j t cs) (b:Below base w w') (hj:j < base):HasB w' j t cs:=(b.block j hj).trans h
theorem HasB.grown {w w':World} {r:Option Nat} {j:Nat} {t:TypeId} {cs:List Value} (h:HasB w j t cs) (b:w.grownBy w' r) (hj:some j≠r):HasB w' j t cs:=(b.block j h.lt hj).trans h
theorem HasB.chB {base g:Nat} {w w':World} {j:Nat} {t:TypeId} {cs:List Value} (h:HasB w j t cs) (b:ChB base g w w') (hj:j < base) (hg:j≠g):HasB w' j t cs:=(b.block j hj hg).trans h
theorem MemAt.belowB {base:Nat} {w w':World} {p g h:Nat} {B:List Int} {T:List Bool} (m:MemAt w p g h B T) (b:Below base w w') (hl:p < base∧g < base∧h < base):MemAt w' p g h B T:=
  ⟨m.own.belowB b hl.1,m.bytes.belowB b hl.2.1,m.zones.belowB b hl.2.2,m.len,m.pos,m.top,m.byte⟩
theorem KRow.belowB {base:Nat} {k:IntKind} {w w':World} {A:Option Addr} {cap:Nat} {l:List Int} (r:KRow k w A cap l) (b:Below base w w') (hl:l=[]∨∀ x,A=some x→x.block < base):KRow k w' A cap l:=by
  obtain ⟨r1,r2,r3,r4⟩:=r
  refine ⟨r1,r2,r3,fun hn=>?_⟩
  obtain ⟨p,hp,hb,hc⟩:=r4 hn
  have hlt:=(hl.resolve_left hn) p hp
  exact ⟨p,hp,Nat.lt_of_lt_of_le hb b.size,fun i hi=>(b.cell (p:=p.add i) (by rw [block_add];exact hlt)).trans (hc i hi)⟩
structure TrI (base:Nat) (r:Option Nat) (w:World) (A:Option Addr) (cap:Nat) (L:List Ev):Prop where
  row:EvRow w A cap L
  own:(cap=L.length∧r=none)∨(w.ownsRow base 119 2 (.slice A L.length cap) L.length (L.flatMap evC)∧r=(Value.slice A L.length cap).ownBlock)
theorem TrI.lim {base:Nat} {r:Option Nat} {w:World} {A:Option Addr} {cap:Nat} {L:List Ev} (t:TrI base r w A cap L):∀ k,r=some k→base≤k∧k < w.heap.size:=by
  intro k hk
  rcases t.own with ⟨_,e⟩ | ⟨h,e⟩
  · rw [e] at hk;cases hk
  · exact h.lt k (e.symm.trans hk)
theorem TrI.below {base:Nat} {r:Option Nat} {w w':World} {A:Option Addr} {cap:Nat} {L:List Ev} (t:TrI base r w A cap L) (b:Below w.heap.size w w'):TrI base r w' A cap L:=
  ⟨t.row.below b,t.own.imp id (fun ⟨h,e⟩=>⟨own_belowV h b,e⟩)⟩
theorem own_grown {base:Nat} {w w':World} {size n:Nat} {e:TypeId} {v:Value} {xs:List Value} (h:w.ownsRow base e size v n xs) {r:Option Nat} (b:w.grownBy w' r) (hr:v.ownBlock=none∨v.ownBlock≠r):w'.ownsRow base e size v n xs:=h.kept (row:=r) b hr
theorem TrI.chg {base j:Nat} {r:Option Nat} {w w':World} {A:Option Addr} {cap:Nat} {L:List Ev} (t:TrI base r w A cap L) (c:Chg j j w w') (h1:L=[]∨Off A j) (h2:r≠some j):TrI base r w' A cap L:=by
  refine ⟨t.row.off c h1,t.own.imp id (fun ⟨h,e⟩=>⟨own_grown (r:=some j) h ⟨c.os,c.tape,c.output,c.size,fun k hk hn=>c.block k hk (by simpa using hn) (by simpa using hn)⟩ (.inr (by rw [← e];exact h2)),e⟩)⟩
theorem app_tr {w:World} {o:Oper} {a:Act} {K:Act→World→Prop} {Q:Exit→Act→World→Prop} (s x:Operand)
    (ho:o.op=.call { callee:=.builtin .append,args:=#[s,x],argTypes:=#[78,78] })
    (base:Nat) (r:Option Nat) (A:Option Addr) (cap n:Nat) (L:List Ev) (hl:L.length=n) (hs:a.eval s=.slice A n cap) (R:TrI base r w A cap L)
    (X:Option Addr) (xc m:Nat) (M:List Ev) (hm:M.length=m) (hx:a.eval x=.slice X m xc) (RM:EvRow w X xc M) (hlen:n+m≤100000) (hbase:base≤w.heap.size)
    (h:∀ A' cap' r' w',TrI base r' w' A' cap' (L ++ M)→w.grownBy w' r→(r'=none→r=none∧A'=A∧M=[])→K (a.put o.dst (.slice A' (n+m) cap')) w'):o.wp Tryz.prog a w K Q:=by
  obtain ⟨u0,hu0,hz0,hz1,hz2⟩:=info_parts ev_info
  by_cases hM:M=[]
  · subst hM
    simp at hm
    subst hm
    have hrun:=run_append_nothing (P:=Tryz.prog) w 78 78 o.type 119 u0 Tryz.underlying78 hu0 A n cap (by rw [← hl];exact R.row.1) (.slice X 0 xc)
      (by cases X with
        | none=>exact Src.ofNil w Tryz.underlying78 xc
        | some q=>exact Src.ofSlice w Tryz.underlying78 q 0 xc [] (by simp) (fun j u h=>by simp at h) (fun u h=>by cases h))
    unfold Oper.wp
    simp [execOp,ho,resolve,invoke,builtin,hs,hx,hrun,Result.andThen]
    exact h A cap r w (by rw [List.append_nil];exact R) ⟨rfl,rfl,rfl,Nat.le_refl _,fun _ _ _=>rfl⟩ (fun h=>⟨h,rfl,rfl⟩)
  · obtain ⟨q,hq,_,_⟩:=RM.2.2.2 hM
    subst hq
    have hlo:(L.flatMap evC).length=n * 2:=by rw [flatV_len,hl]
    have hlm:(M.flatMap evC).length=m * 2:=by rw [flatV_len,hm]
    have h1:∀ u∈M.flatMap evC,u.oneCell'=true:=fun u hu=>by
      obtain ⟨y,_,hy⟩:=List.mem_flatMap.1 hu
      exact evC_one y u hy
    have hW:∀ z∈L ++ M,evWf z:=fun z hz=>by
      rcases List.mem_append.1 hz with k | k
      · exact R.row.2.2.1 z k
      · exact RM.2.2.1 z k
    have hnm:(L ++ M).length=n+m:=by rw [List.length_append,hl,hm]
    have hm0:0 < m:=by rw [← hm];exact List.length_pos_iff.2 hM
    have fin:∀ (v':Value) (w':World),w'.ownsRow base 119 2 v' (n+m) (L.flatMap evC ++ M.flatMap evC)→w.grownBy w' r→K (a.put o.dst v') w':=by
      intro v' w' hown hg
      have hown':w'.ownsRow base 119 2 v' (n+m) ((L ++ M).flatMap evC):=by rw [flatV_app];exact hown
      obtain ⟨A',c',rfl,hn,hrow⟩:=ev_of_own hown' hW
      refine h A' c' _ w' ⟨hrow,.inr ⟨by rw [hnm];exact hown',rfl⟩⟩ hg (fun e=>?_)
      obtain ⟨g9,c9,e9,_⟩:=hown'.form (by omega)
      injection e9 with a1 a2 a3
      rw [a1] at e
      cases e
    have base_mono:∀ (v':Value) (w':World),w'.ownsRow w.heap.size 119 2 v' (n+m) (L.flatMap evC ++ M.flatMap evC)→w'.ownsRow base 119 2 v' (n+m) (L.flatMap evC ++ M.flatMap evC):=by
      rintro v' w' ⟨k1,k2⟩
      refine ⟨k1,k2.imp id ?_⟩
      rintro ⟨g,c,cur,e1,e2,e3⟩
      exact ⟨g,c,cur,e1,Nat.le_trans hbase e2,e3⟩
    rcases R.own with ⟨hc,hr⟩ | ⟨ho',hr⟩
    · rw [hl] at hc
      subst hc hr
      cases A with
      | some b=>
        obtain ⟨v',w',hrun,r1,r2⟩:=run_append_arg_grows (P:=Tryz.prog) w 78 o.type 119 u0 _ 2 16 Tryz.underlying78 hu0 hz0 hz1 hz2 rfl (by decide) b cap cap _ hlo (ev_cells R.row) q m xc _ hlm
          (ev_cells RM) (by omega) (by unfold maxLen;omega) (by omega)
        unfold Oper.wp
        simp [execOp,ho,resolve,invoke,builtin,hs,hx,hrun,Result.andThen]
        exact fin v' w' (base_mono _ _ r1) r2
      | none=>
        have hn:cap=0:=by
          rcases Nat.eq_zero_or_pos cap with h0 | h0
          · exact h0
          · obtain ⟨p,hp,_⟩:=R.row.2.2.2 (by intro e;rw [e] at hl;simp at hl;omega)
            cases hp
        subst hn
        have hL:L=[]:=List.eq_nil_of_length_eq_zero hl
        obtain ⟨v',w',hrun,r1,r2,_⟩:=run_append_own (P:=Tryz.prog) w w.heap.size 78 o.type 119 u0 _ 2 16 Tryz.underlying78 hu0 hz0 hz1 hz2 rfl (by decide) (.slice none 0 0) 0 [] (World.ownsRow_nil w _ _ _) q m xc _ hlm
          (ev_cells RM) h1 (by unfold maxLen;omega) (by omega) (Nat.le_refl _)
        unfold Oper.wp
        simp [execOp,ho,resolve,invoke,builtin,hs,hx,hrun,Result.andThen]
        exact fin v' w' (base_mono _ _ (by rw [hL];exact r1)) r2
    · rw [hl] at ho' hr
      obtain ⟨v',w',hrun,r1,r2,_⟩:=run_append_own (P:=Tryz.prog) w base 78 o.type 119 u0 _ 2 16 Tryz.underlying78 hu0 hz0 hz1 hz2 rfl (by decide) (.slice A n cap) n _ ho' q m xc _ hlm
        (ev_cells RM) h1 (by unfold maxLen;omega) (by omega) hbase
      unfold Oper.wp
      simp [execOp,ho,resolve,invoke,builtin,hs,hx,hrun,Result.andThen]
      exact fin v' w' r1 (by rw [hr];exact r2)
theorem app_tr' {w:World} {ops:Array Oper} {rest:List Oper} {o:Oper} {a:Act} {Q:Exit→Act→World→Prop} (hgd:o.guard=none) (s x:Operand)
    (ho:o.op=.call { callee:=.builtin .append,args:=#[s,x],argTypes:=#[78,78] })
    (base:Nat) (r:Option Nat) (A:Option Addr) (cap n:Nat) (L:List Ev) (hl:L.length=n) (hs:a.eval s=.slice A n cap) (R:TrI base r w A cap L)
    (X:Option Addr) (xc m:Nat) (M:List Ev) (hm:M.length=m) (hx:a.eval x=.slice X m xc) (RM:EvRow w X xc M) (hlen:n+m≤100000) (hbase:base≤w.heap.size)
    (h:∀ A' cap' r' w',TrI base r' w' A' cap' (L ++ M)→w.grownBy w' r→(r'=none→r=none∧A'=A∧M=[])→wpList Tryz.prog ops Q rest (a.put o.dst (.slice A' (n+m) cap')) w'):wpList Tryz.prog ops Q (o :: rest) a w:=
  wpList_plain hgd fun _ hK=>app_tr s x ho base r A cap n L hl hs R X xc m M hm hx RM hlen hbase (fun A' cap' r' w' h1 h2 h3=>hK _ _ (h A' cap' r' w' h1 h2 h3))
theorem gateS_tr (c:Cp) (s:Int) (W:Wd) (n:Int):gateS c s W n=((gateS c s { W with tr:=[] } n).1,{ (gateS c s { W with tr:=[] } n).2 with tr:=W.tr ++ (gateS c s { W with tr:=[] } n).2.tr }):=by
  obtain ⟨rep,tk,tr,ov,cd⟩:=W
  have e1:repV ⟨rep,tk,tr,ov,cd⟩=repV ⟨rep,tk,[],ov,cd⟩:=rfl
  have e2:repT ⟨rep,tk,tr,ov,cd⟩=repT ⟨rep,tk,[],ov,cd⟩:=rfl
  unfold gateS
  simp only [e1,e2]
  cases ov
  · by_cases h0:n=0
    · subst h0;simp
    · by_cases h1:n=1
      · subst h1;simp
      · by_cases h2:n=2
        · subst h2;simp
        · by_cases h3:n=3
          · subst h3;simp
          · simp [h0,h1,h2,h3]
  · simp
theorem gateS_one (c:Cp) (s:Int) (W:Wd) (n:Int) (h:W.tr=[]):(gateS c s W n).2.tr.length≤1:=by
  have:=(gateS_W c s W n).2
  rw [h] at this
  exact this
end Go.Proofs.YteefmjhemhlapaaGreat.Mm
