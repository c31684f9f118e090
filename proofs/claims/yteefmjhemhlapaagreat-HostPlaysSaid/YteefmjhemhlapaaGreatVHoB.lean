/- The program's own host: where the next one lies. -/
import Derived.Test.YteefmjhemhlapaaGreatVHoA
import Derived.Test.YteefmjhemhlapaaGreatVBxT
import Derived.Test.YteefmjhemhlapaaGreatVSlA
import Derived.Test.YteefmjhemhlapaaGreatVBxN
import Derived.Maps.RangeWalk
namespace Go.Proofs.YteefmjhemhlapaaGreat.Mm
open Go.ChangeShapes Go.WideShapes Go.ChangeAt Go.RowKit
set_option linter.unusedVariables false
set_option linter.unusedSimpArgs false
set_option maxRecDepth 10000
set_option maxHeartbeats 4000000

set_option maxRecDepth 10000 in
set_option maxHeartbeats 2000000 in
theorem region_code (cs:List Value) (hl:cs.length=18) (h1:∀ v∈cs,v.oneCell'=true) (b s:Int) (hb:cs[9]?=some (.int .u32 b)) (hs:cs[10]?=some (.int .u32 s)) (ub:U32 b) (us:U32 s) (w:World) :
    Calls Tryz.prog 33 #[.agg cs.toArray] w fun e w'=>e=.returned (.agg #[.int .i64 b,.int .i64 s])∧Below w.heap.size w w':=by
  obtain ⟨W0,e0,X,R,B0⟩:∃ W0,(w.alloc (.cells cs.toArray 82)).alloc (.cells #[.int .i64 0,.int .i64 0] 52)=W0∧HasB W0 w.heap.size 82 cs∧HasB W0 (w.heap.size+1) 52 [.int .i64 0,.int .i64 0]∧Below w.heap.size w W0:=
    ⟨_,rfl,(HasB.new w 82 cs).al _,(by have:=HasB.new (w.alloc (.cells cs.toArray 82)) 52 [.int .i64 0,.int .i64 0];simpa using this),bel_al (bel_al (Below.refl _ _) _) _⟩
  have x9:=X.cell 9
  have x10:=X.cell 10
  rw [hb] at x9
  rw [hs] at x10
  have w1:IntKind.i64.wrap b=b:=IntWalk.i64_in _ (by unfold U32 at ub;omega)
  have w2:IntKind.i64.wrap s=s:=IntWalk.i64_in _ (by unfold U32 at us;omega)
  have BB:=Lib.hid B0
  have RR:=Lib.hid R
  have XX:=Lib.hid X
  clear X R hb hs ub us B0
  go_enter Tryz.func33,Tryz.ntmps33
  go_wp2_with (first
    | (refine st_any rfl 52 (.tmp 2) (.tmp 11) rfl rfl (w.heap.size+1) [.int .i64 0,.int .i64 0] [.int .i64 b,.int .i64 s] (by rfl) (by rfl) RR.out rfl (by kernel_rfl) (by simp [Value.oneCell']) ?_;intro W1 r1 c1))
  have V:=loadvar_has r1 rfl Tryz.underlying52 (by kernel_rfl)
  refine bodyPost_ret (v:=.agg #[.int .i64 b,.int .i64 s]) (by simp [results,Tryz.results33,asaddr_run,V]) rfl ?_
  exact ⟨rfl,Below.trans BB.out (Below.ofNew c1 BB.out.size (by omega))⟩
theorem zero_box (w:World):(zeroValue 82).run Tryz.prog w=.ok (.agg ([.int .u32 0,.int .u32 0,.int .u32 0,.int .u32 0,.int .u32 0,.int .u32 0,.int .u32 0,.int .u32 0,.int .u32 0,.int .u32 0,.int .u32 0,.slice none 0 0,.int .i64 0,.slice none 0 0,.bool false,.int .u32 0,.int .i64 0,.int .i64 0]:List Value).toArray) w:=by kernel_rfl
theorem z_len:([.int .u32 0,.int .u32 0,.int .u32 0,.int .u32 0,.int .u32 0,.int .u32 0,.int .u32 0,.int .u32 0,.int .u32 0,.int .u32 0,.int .u32 0,.slice none 0 0,.int .i64 0,.slice none 0 0,.bool false,.int .u32 0,.int .i64 0,.int .i64 0]:List Value).length=18∧∀ v∈([.int .u32 0,.int .u32 0,.int .u32 0,.int .u32 0,.int .u32 0,.int .u32 0,.int .u32 0,.int .u32 0,.int .u32 0,.int .u32 0,.int .u32 0,.slice none 0 0,.int .i64 0,.slice none 0 0,.bool false,.int .u32 0,.int .i64 0,.int .i64 0]:List Value),v.oneCell'=true:=by
  refine ⟨rfl,fun v hv=>?_⟩
  simp only [List.mem_cons,List.not_mem_nil,or_false] at hv
  rcases hv with rfl | rfl | rfl | rfl | rfl | rfl | rfl | rfl | rfl | rfl | rfl | rfl | rfl | rfl | rfl | rfl | rfl | rfl <;> rfl
theorem map_look {w:World} {mb:Nat} {V:Nat→Option Value} (m:MapAt w mb V) (id:Int):(∃ v,atI V id=some v∧∀ w',w'.heap[mb]?=w.heap[mb]?→(Instr.lookup 67 (.map (some mb)) (.int .i64 id) true).run Tryz.prog w'=.ok (.tuple #[v,.bool true]) w') ∨
    (atI V id=none∧∀ w',w'.heap[mb]?=w.heap[mb]?→(Instr.lookup 67 (.map (some mb)) (.int .i64 id) true).run Tryz.prog w'=.ok (.tuple #[.agg ([.int .u32 0,.int .u32 0,.int .u32 0,.int .u32 0,.int .u32 0,.int .u32 0,.int .u32 0,.int .u32 0,.int .u32 0,.int .u32 0,.int .u32 0,.slice none 0 0,.int .i64 0,.slice none 0 0,.bool false,.int .u32 0,.int .i64 0,.int .i64 0]:List Value).toArray,.bool false]) w'):=by
  cases h:atI V id with
  | some v=>exact .inl ⟨v,rfl,fun w' e=>by have:=(m.keep e).look (P:=Tryz.prog) (mt:=67) Tryz.underlying67 Tryz.underlying3 (zero_box w') id true;rw [h] at this;exact this⟩
  | none=>exact .inr ⟨rfl,fun w' e=>by have:=(m.keep e).look (P:=Tryz.prog) (mt:=67) Tryz.underlying67 Tryz.underlying3 (zero_box w') id true;rw [h] at this;exact this⟩
theorem find_w (w:World) (p:Addr) (hb mb:Nat) (H:HasB w hb 69 [.pointer (some p),.map (some mb)]) (hm:mb < w.heap.size) (id:Int) (cs:List Value) (hl:cs.length=18) (h1:∀ v∈cs,v.oneCell'=true) (ok:Bool)
    (LK:∀ w',w'.heap[mb]?=w.heap[mb]?→(Instr.lookup 67 (.map (some mb)) (.int .i64 id) true).run Tryz.prog w'=.ok (.tuple #[.agg cs.toArray,.bool ok]) w') :
    Calls Tryz.prog 31 #[.pointer (some ⟨hb,0,none⟩),.int .i64 id] w fun e w'=>e=.returned (.tuple #[if ok then .agg cs.toArray else .agg ([.int .u32 0,.int .u32 0,.int .u32 0,.int .u32 0,.int .u32 0,.int .u32 0,.int .u32 0,.int .u32 0,.int .u32 0,.int .u32 0,.int .u32 0,.slice none 0 0,.int .i64 0,.slice none 0 0,.bool false,.int .u32 0,.int .i64 0,.int .i64 0]:List Value).toArray,.int .i64 (if ok then 0 else 8)])∧Below w.heap.size w w':=by
  have zl:=z_len
  obtain ⟨W0,e0,X0,H0,L0,B0⟩:∃ W0,w.alloc (.cells ([.int .u32 0,.int .u32 0,.int .u32 0,.int .u32 0,.int .u32 0,.int .u32 0,.int .u32 0,.int .u32 0,.int .u32 0,.int .u32 0,.int .u32 0,.slice none 0 0,.int .i64 0,.slice none 0 0,.bool false,.int .u32 0,.int .i64 0,.int .i64 0]:List Value).toArray 82)=W0∧Hid (HasB W0 w.heap.size 82 [.int .u32 0,.int .u32 0,.int .u32 0,.int .u32 0,.int .u32 0,.int .u32 0,.int .u32 0,.int .u32 0,.int .u32 0,.int .u32 0,.int .u32 0,.slice none 0 0,.int .i64 0,.slice none 0 0,.bool false,.int .u32 0,.int .i64 0,.int .i64 0])∧HasB W0 hb 69 [.pointer (some p),.map (some mb)]∧(Instr.lookup 67 (.map (some mb)) (.int .i64 id) true).run Tryz.prog W0=.ok (.tuple #[.agg cs.toArray,.bool ok]) W0∧Hid (Below w.heap.size w W0∧W0.heap.size=w.heap.size+1):=by
    have b:=bel_al (Below.refl w.heap.size w) (.cells ([.int .u32 0,.int .u32 0,.int .u32 0,.int .u32 0,.int .u32 0,.int .u32 0,.int .u32 0,.int .u32 0,.int .u32 0,.int .u32 0,.int .u32 0,.slice none 0 0,.int .i64 0,.slice none 0 0,.bool false,.int .u32 0,.int .i64 0,.int .i64 0]:List Value).toArray 82)
    exact ⟨_,rfl,Lib.hid (HasB.new w 82 [.int .u32 0,.int .u32 0,.int .u32 0,.int .u32 0,.int .u32 0,.int .u32 0,.int .u32 0,.int .u32 0,.int .u32 0,.int .u32 0,.int .u32 0,.slice none 0 0,.int .i64 0,.slice none 0 0,.bool false,.int .u32 0,.int .i64 0,.int .i64 0]),H.below b,LK _ (b.block mb hm),Lib.hid ⟨b,Array.size_push _⟩⟩
  obtain ⟨W1,e1,X1,Y1,B1⟩:∃ W1,W0.alloc (.cells ([.int .u32 0,.int .u32 0,.int .u32 0,.int .u32 0,.int .u32 0,.int .u32 0,.int .u32 0,.int .u32 0,.int .u32 0,.int .u32 0,.int .u32 0,.slice none 0 0,.int .i64 0,.slice none 0 0,.bool false,.int .u32 0,.int .i64 0,.int .i64 0]:List Value).toArray 82)=W1∧Hid (HasB W1 w.heap.size 82 [.int .u32 0,.int .u32 0,.int .u32 0,.int .u32 0,.int .u32 0,.int .u32 0,.int .u32 0,.int .u32 0,.int .u32 0,.int .u32 0,.int .u32 0,.slice none 0 0,.int .i64 0,.slice none 0 0,.bool false,.int .u32 0,.int .i64 0,.int .i64 0])∧Hid (HasB W1 W0.heap.size 82 [.int .u32 0,.int .u32 0,.int .u32 0,.int .u32 0,.int .u32 0,.int .u32 0,.int .u32 0,.int .u32 0,.int .u32 0,.int .u32 0,.int .u32 0,.slice none 0 0,.int .i64 0,.slice none 0 0,.bool false,.int .u32 0,.int .i64 0,.int .i64 0])∧Hid (Below w.heap.size w W1∧w.heap.size < W0.heap.size):=by
    have b:=bel_al (Below.refl W0.heap.size W0) (.cells ([.int .u32 0,.int .u32 0,.int .u32 0,.int .u32 0,.int .u32 0,.int .u32 0,.int .u32 0,.int .u32 0,.int .u32 0,.int .u32 0,.int .u32 0,.slice none 0 0,.int .i64 0,.slice none 0 0,.bool false,.int .u32 0,.int .i64 0,.int .i64 0]:List Value).toArray 82)
    exact ⟨_,rfl,Lib.hid (X0.out.below b),Lib.hid (HasB.new W0 82 [.int .u32 0,.int .u32 0,.int .u32 0,.int .u32 0,.int .u32 0,.int .u32 0,.int .u32 0,.int .u32 0,.int .u32 0,.int .u32 0,.int .u32 0,.slice none 0 0,.int .i64 0,.slice none 0 0,.bool false,.int .u32 0,.int .i64 0,.int .i64 0]),Lib.hid ⟨bel_then B0.out.1 b,by have:=B0.out.2;omega⟩⟩
  have d0:=H0.cell 0
  have d1:=H0.cell 1
  simp only [List.getElem?_cons_zero,List.getElem?_cons_succ] at d0 d1
  clear H LK H0
  have HL:=Lib.hid hl
  have H1:=Lib.hid h1
  have ZL:=Lib.hid zl
  clear hl h1 zl
  go_enter Tryz.func31,Tryz.ntmps31
  cases ok with
  | true=>
    go_wp2_with (first
      | (refine st_any rfl 82 (.tmp 6) (.tmp 18) rfl rfl W0.heap.size [.int .u32 0,.int .u32 0,.int .u32 0,.int .u32 0,.int .u32 0,.int .u32 0,.int .u32 0,.int .u32 0,.int .u32 0,.int .u32 0,.int .u32 0,.slice none 0 0,.int .i64 0,.slice none 0 0,.bool false,.int .u32 0,.int .i64 0,.int .i64 0] cs (by rfl) (by rfl) Y1.out (by rw [HL.out];rfl) (by rw [HL.out];kernel_rfl) H1.out ?_;intro W2 r2 c2;have X2:=Lib.hid (X1.out.chg c2 (by have:=B1.out.2;omega) (by have:=B1.out.2;omega));have B2:=Lib.hid (Below.trans B1.out.1 (Below.ofNew c2 B1.out.1.size (by have:=B1.out.2;omega))))
      | (refine ld_any rfl 82 (.tmp 6) rfl W0.heap.size (by rfl) cs r2 rfl Tryz.underlying82 (by rw [HL.out];kernel_rfl) ?_)
      | (refine st_any rfl 82 (.tmp 4) (.tmp 23) rfl rfl w.heap.size [.int .u32 0,.int .u32 0,.int .u32 0,.int .u32 0,.int .u32 0,.int .u32 0,.int .u32 0,.int .u32 0,.int .u32 0,.int .u32 0,.int .u32 0,.slice none 0 0,.int .i64 0,.slice none 0 0,.bool false,.int .u32 0,.int .i64 0,.int .i64 0] cs (by rfl) (by rfl) X2.out (by rw [HL.out];rfl) (by rw [HL.out];kernel_rfl) H1.out ?_;intro W3 r3 c3))
    (try simp only [Act.put,lsA,lsZ,lsS])
    have V:=loadvar_has r3 rfl Tryz.underlying82 (by rw [HL.out];kernel_rfl)
    refine bodyPost_ret (v:=.tuple #[.agg cs.toArray,.int .i64 0]) (by simp [results,Tryz.results31,asaddr_run,V]) rfl ?_
    exact ⟨by simp,Below.trans B2.out (Below.ofNew c3 B2.out.size (Nat.le_refl _))⟩
  | false=>
    go_wp2_with (first
      | (refine st_any rfl 82 (.tmp 6) (.tmp 18) rfl rfl W0.heap.size [.int .u32 0,.int .u32 0,.int .u32 0,.int .u32 0,.int .u32 0,.int .u32 0,.int .u32 0,.int .u32 0,.int .u32 0,.int .u32 0,.int .u32 0,.slice none 0 0,.int .i64 0,.slice none 0 0,.bool false,.int .u32 0,.int .i64 0,.int .i64 0] cs (by rfl) (by rfl) Y1.out (by rw [HL.out];rfl) (by rw [HL.out];kernel_rfl) H1.out ?_;intro W2 r2 c2;have X2:=Lib.hid (X1.out.chg c2 (by have:=B1.out.2;omega) (by have:=B1.out.2;omega));have B2:=Lib.hid (Below.trans B1.out.1 (Below.ofNew c2 B1.out.1.size (by have:=B1.out.2;omega))))
      | (refine st_any rfl 82 (.tmp 4) (.tmp 22) rfl rfl w.heap.size [.int .u32 0,.int .u32 0,.int .u32 0,.int .u32 0,.int .u32 0,.int .u32 0,.int .u32 0,.int .u32 0,.int .u32 0,.int .u32 0,.int .u32 0,.slice none 0 0,.int .i64 0,.slice none 0 0,.bool false,.int .u32 0,.int .i64 0,.int .i64 0] [.int .u32 0,.int .u32 0,.int .u32 0,.int .u32 0,.int .u32 0,.int .u32 0,.int .u32 0,.int .u32 0,.int .u32 0,.int .u32 0,.int .u32 0,.slice none 0 0,.int .i64 0,.slice none 0 0,.bool false,.int .u32 0,.int .i64 0,.int .i64 0] (by rfl) (by rfl) X2.out rfl (by kernel_rfl) ZL.out.2 ?_;intro W3 r3 c3))
    (try simp only [Act.put,lsA,lsZ,lsS])
    have V:=loadvar_has r3 rfl Tryz.underlying82 (by kernel_rfl)
    refine bodyPost_ret (v:=.tuple #[.agg ([.int .u32 0,.int .u32 0,.int .u32 0,.int .u32 0,.int .u32 0,.int .u32 0,.int .u32 0,.int .u32 0,.int .u32 0,.int .u32 0,.int .u32 0,.slice none 0 0,.int .i64 0,.slice none 0 0,.bool false,.int .u32 0,.int .i64 0,.int .i64 0]:List Value).toArray,.int .i64 8]) (by simp [results,Tryz.results31,asaddr_run,V]) rfl ?_
    exact ⟨by simp,Below.trans B2.out (Below.ofNew c3 B2.out.size (Nat.le_refl _))⟩
theorem atI_some {V:Nat→Option Value} {id:Int} {v:Value} (h:atI V id=some v):∃ k:Nat,id=(k:Int)∧V k=some v:=by
  unfold atI at h
  split at h
  · exact ⟨id.toNat,by omega,h⟩
  · cases h
theorem HIn.lt {w:World} {hb p g y mb:Nat} {RA TA:Nat→Option Addr} {rc tc:Nat→Nat} {h:Ho} {F:Nat→Prop} (I:HIn w hb p g y mb RA TA rc tc h F):hb < w.heap.size∧p < w.heap.size∧g < w.heap.size∧y < w.heap.size∧mb < w.heap.size:=
  ⟨I.own.lt,I.mem.own.lt,I.mem.bytes.lt,I.mem.zones.lt,I.map.lt⟩
theorem HIn.below {w w':World} {hb p g y mb:Nat} {RA TA:Nat→Option Addr} {rc tc:Nat→Nat} {h:Ho} {F:Nat→Prop} (I:HIn w hb p g y mb RA TA rc tc h F) (b:Below w.heap.size w w'):HIn w' hb p g y mb RA TA rc tc h F:=I.same b.size (fun i hi=>b.block i (I.lim i hi))
def FindP (w:World) (RA TA:Nat→Option Addr) (rc tc:Nat→Nat) (h:Ho) (id:Int) (e:Ending) (w':World):Prop:=Below w.heap.size w w' ∧
  ((∃ (k:Nat) (s:Sb),id=(k:Int)∧h.has k s∧e=.returned (.tuple #[.agg (s.x.cs (RA k) (rc k) (TA k) (tc k)).toArray,.int .i64 0]))∨((∀ (k:Nat) s,id=(k:Int)→¬ h.has k s)∧e=.returned (.tuple #[.agg ([.int .u32 0,.int .u32 0,.int .u32 0,.int .u32 0,.int .u32 0,.int .u32 0,.int .u32 0,.int .u32 0,.int .u32 0,.int .u32 0,.int .u32 0,.slice none 0 0,.int .i64 0,.slice none 0 0,.bool false,.int .u32 0,.int .i64 0,.int .i64 0]:List Value).toArray,.int .i64 8])))
theorem find_h {w:World} {hb p g y mb:Nat} {RA TA:Nat→Option Addr} {rc tc:Nat→Nat} {h:Ho} {F:Nat→Prop} (I:HIn w hb p g y mb RA TA rc tc h F) (id:Int) :
    Calls Tryz.prog 31 #[.pointer (some ⟨hb,0,none⟩),.int .i64 id] w (FindP w RA TA rc tc h id):=by
  rcases map_look I.map id with ⟨v,hv,LK⟩ | ⟨hv,LK⟩
  · obtain ⟨k,rfl,hk⟩:=atI_some hv
    obtain ⟨s,hs,rfl⟩:=valO_some hk
    obtain ⟨l1,l2⟩:=bx_len (I.sx k s hs).1.c (RA k) (rc k) (TA k) (tc k)
    refine (find_w w ⟨p,0,none⟩ hb mb I.own I.map.lt (k:Int) _ l1 l2 true LK).mono ?_
    rintro e w' ⟨rfl,b⟩
    exact ⟨b,.inl ⟨k,s,rfl,hs,rfl⟩⟩
  · have zl:=z_len
    refine (find_w w ⟨p,0,none⟩ hb mb I.own I.map.lt id _ zl.1 zl.2 false LK).mono ?_
    rintro e w' ⟨rfl,b⟩
    refine ⟨b,.inr ⟨fun k s hk hs=>?_,rfl⟩⟩
    subst hk
    rw [atI_nat,valO_has hs] at hv
    cases hv
theorem hNew:HNewC:=by
  intro z z1 z2 w
  have NC:=Lib.hid (new_m w (64 * (z:Int)) z rfl z1 z2 (Below.refl w.heap.size w))
  rw [show ((64 * z:Nat):Int)=64 * (z:Int) by omega]
  go_enter Tryz.func7,Tryz.ntmps7
  go_wp2_with fail
  refine NC.out.mono ?_;rintro e w1 ⟨p,g,y,rfl,M,lp,lg,ly,b1⟩
  have m:=M.at_
  obtain ⟨W2,e2,mp,b2,s2⟩:∃ W2,(Instr.makeMap 67 none).run Tryz.prog w1=.ok (.map (some w1.heap.size)) W2∧MapAt W2 w1.heap.size (fun _=>none)∧Below w1.heap.size w1 W2∧W2.heap.size=w1.heap.size+1:=⟨_,by simp [run_makeMap],MapAt.made w1,bel_al (Below.refl _ _) _,Array.size_push _⟩
  obtain ⟨W3,e3,own,b3,s3⟩:∃ W3,W2.alloc (.cells #[.pointer (some ⟨p,0,none⟩),.map (some w1.heap.size)] 69)=W3∧HasB W3 W2.heap.size 69 [.pointer (some ⟨p,0,none⟩),.map (some w1.heap.size)]∧Below W2.heap.size W2 W3∧W3.heap.size=W2.heap.size+1:=
    ⟨_,rfl,HasB.new W2 69 _,bel_al (Below.refl _ _) _,Array.size_push _⟩
  have BB:=Lib.hid (bel_then (bel_then b1 b2) b3)
  have HH:Hid (HIn W3 W2.heap.size p g y w1.heap.size (fun _=>none) (fun _=>none) (fun _=>0) (fun _=>0) (newO z) (fun i=>i=W2.heap.size∨i=p∨i=g∨i=y∨i=w1.heap.size)):=Lib.hid (by
    have hp:=m.own.lt
    have hg:=m.bytes.lt
    have hy:=m.zones.lt
    have hv:valO (newO z) (fun _=>none) (fun _=>none) (fun _=>0) (fun _=>0)=fun _=>none:=by
      funext k
      exact valO_none (fun s=>newO_has)
    refine ⟨own,(m.below b2).below b3,by rw [hv];exact mp.below b3,fun k s hs=>absurd hs newO_has,fun k s hs=>absurd hs newO_has,fun k s hs=>absurd hs newO_has,⟨fun i hi=>hi,fun k s hs=>absurd hs newO_has,fun k s hs=>absurd hs newO_has⟩,fun i hi=>?_⟩
    omega)
  have FN:Hid (∀ i,(i=W2.heap.size∨i=p∨i=g∨i=y∨i=w1.heap.size)→w.heap.size≤i):=Lib.hid (fun i hi=>by have:=b1.size;omega)
  clear M m lp lg ly b1 mp b2 s2 own b3 s3 NC z1 z2
  go_wp2_with fail
  (try simp only [Act.put,lsA,lsZ,lsS])
  refine bodyPost_ret (v:=.tuple #[.pointer (some ⟨W2.heap.size,0,none⟩),.int .i64 0]) (by simp [results,Tryz.results7]) rfl ?_
  exact ⟨_,_,rfl,⟨_,_,_,_,_,_,_,_,HH.out⟩,FN.out,BB.out⟩
theorem hThere:HThereC:=by
  intro w hb h F a ⟨p,g,y,mb,RA,TA,rc,tc,I⟩ ha
  have C:=Lib.hid (there_any I.mem a ha)
  have d0:=I.own.cell 0
  simp only [List.getElem?_cons_zero] at d0
  clear I ha
  generalize wholeB h.T a 1=q at *
  go_enter Tryz.func16,Tryz.ntmps16
  go_wp2_with fail
  refine C.out.mono ?_;rintro e w1 ⟨rfl,rfl⟩
  go_wp2_with fail
  go_ret
  exact ⟨rfl,rfl⟩
structure RgsI (w:World) (z:Nat) (h:Ho) (D:Nat→Bool) (A:Option Addr) (cap:Nat) (L:List Rg) (wr:World):Prop where
  ri:RightP L ((64 * z:Nat):Int)
  me:∀ r,r∈L↔∃ k s,h.has k s∧D k=true∧s.r=r
  row:RgRow wr A cap L
  new:∀ a,A=some a→w.heap.size < a.block
  bel:Below w.heap.size w wr
theorem RgsI.start {w w':World} {z:Nat} {h:Ho} (hz:z≤1024) (b:Below w.heap.size w w'):RgsI w z h (fun _=>false) none 0 [] w':=
  ⟨⟨by omega,by omega,fun r hr=>by (cases hr),List.Pairwise.nil⟩,fun r=>⟨fun hr=>by (cases hr),fun ⟨k,s,_,h,_⟩=>by cases h⟩,rgRow_nil _,fun a ha=>by (cases ha),b⟩
theorem RgsI.below {w w' w2:World} {z:Nat} {h:Ho} {D:Nat→Bool} {A:Option Addr} {cap:Nat} {L:List Rg} (I:RgsI w z h D A cap L w') (b:Below w'.heap.size w' w2):RgsI w z h D A cap L w2:=
  ⟨I.ri,I.me,I.row.below b,I.new,bel_then I.bel b⟩
theorem RgRow.grown {w w':World} {A:Option Addr} {cap r:Nat} {l:List Rg} (h:RgRow w A cap l) (hg:w.grownBy w' (some r)) (hr:l=[]∨∀ a,A=some a→a.block≠r):RgRow w' A cap l:=by
  obtain ⟨r1,r2,r3,r4⟩:=h
  refine ⟨r1,r2,r3,fun hn=>?_⟩
  obtain ⟨p,hp,hb,hc⟩:=r4 hn
  have hk:=hg.block p.block hb (by simpa using (hr.resolve_left hn) p hp)
  exact ⟨p,hp,Nat.lt_of_lt_of_le hb hg.size,fun i hi=>⟨(cell_same (by rw [block_add];exact hk)).trans (hc i hi).c0,(cell_same (p:=⟨(p.add (i * 2)).block,(p.add (i * 2)).off+1,none⟩) (by show w'.heap[(p.add (i * 2)).block]?=_;rw [block_add];exact hk)).trans (hc i hi).c1⟩⟩
theorem RgsI.next {w wr w':World} {z:Nat} {h:Ho} {D:Nat→Bool} {A:Option Addr} {cap:Nat} {L:List Rg} (I:RgsI w z h D A cap L wr) (hg:wr.grownBy w' (some w.heap.size)):RgsI w z h D A cap L w':=
  ⟨I.ri,I.me,I.row.grown hg (.inr (fun a ha=>by have:=I.new a ha;omega)),I.new,Below.trans I.bel (Below.ofGrown hg I.bel.size (fun k hk=>by cases hk;exact Nat.le_refl _))⟩
theorem Chg.grown {j:Nat} {w w':World} (c:Chg j j w w'):w.grownBy w' (some j):=⟨c.os,c.tape,c.output,c.size,fun i hi hne=>c.block i hi (fun e=>hne (by rw [e])) (fun e=>hne (by rw [e]))⟩
theorem RgsI.chg {w wr w':World} {z j:Nat} {h:Ho} {D:Nat→Bool} {A:Option Addr} {cap:Nat} {L:List Rg} (I:RgsI w z h D A cap L wr) (c:Chg j j wr w') (hj:w.heap.size≤j) (hr:L=[]∨∀ a,A=some a→a.block≠j):RgsI w z h D A cap L w':=
  ⟨I.ri,I.me,I.row.grown c.grown hr,I.new,Below.trans I.bel (Below.ofNew c I.bel.size hj)⟩
theorem RgRow.offNew {w:World} {A:Option Addr} {cap:Nat} {l:List Rg} (r:RgRow w A cap l) {j:Nat} (hj:w.heap.size≤j):l=[]∨∀ a,A=some a→a.block≠j:=by
  by_cases hl:l=[]
  · exact .inl hl
  · obtain ⟨z,hz,hlt,_⟩:=r.2.2.2 hl
    exact .inr (fun x hx=>by rw [hz] at hx;cases hx;omega)
theorem add_lenR {L M P Q:List Rg} {x:Rg} (h:AddIs L x M P Q):M.length=L.length+1:=by rw [h.now,h.was];simp;omega
theorem RgsI.add {w wr w':World} {z:Nat} {h:Ho} {D:Nat→Bool} {A A':Option Addr} {cap cap':Nat} {L M P Q:List Rg} {k:Nat} {s:Sb} (H:HoZ z h) (I:RgsI w z h D A cap L wr) (hs:h.has k s) (hd:D k=false) (ad:AddIs L s.r M P Q) (rw_:RgRowN wr w' A' cap' M) (hw:w.heap.size < wr.heap.size) (b:Below w.heap.size w w') :
    RgsI w z h (fun j=>D j || j == k) A' cap' M w':=by
  have hap:∀ r∈L,apartE r s.r=true:=fun r hr=>by
    obtain ⟨j,t,ht,hj,rfl⟩:=(I.me r).1 hr
    have hne:j≠k:=fun e=>by subst e;rw [hd] at hj;cases hj
    have:=H.ap j k t s hne ht hs
    unfold apartE Sb.r
    simp only [Bool.or_eq_true,decide_eq_true_iff]
    omega
  refine ⟨add_right I.ri ad (H.rg k s hs) hap,fun r=>?_,rw_.1,fun a ha=>Nat.lt_of_lt_of_le hw (rw_.2 a ha),b⟩
  have hm:r∈M↔r∈L∨r=s.r:=by
    rw [ad.now,ad.was]
    simp only [List.mem_append,List.mem_cons]
    constructor
    · rintro (h | h | h)
      · exact .inl (.inl h)
      · exact .inr h
      · exact .inl (.inr h)
    · rintro ((h | h) | h)
      · exact .inl h
      · exact .inr (.inr h)
      · exact .inr (.inl h)
  rw [hm,I.me]
  constructor
  · rintro (⟨j,t,h1,h2,h3⟩ | rfl)
    · exact ⟨j,t,h1,by simp [h2],h3⟩
    · exact ⟨k,s,hs,by simp,rfl⟩
  · rintro ⟨j,t,h1,h2,h3⟩
    by_cases hj:j=k
    · subst hj
      obtain rfl:=Ho.one h1 hs
      exact .inr h3.symm
    · refine .inl ⟨j,t,h1,?_,h3⟩
      have:(j == k)=false:=by simp [hj]
      rw [this,Bool.or_false] at h2
      exact h2
theorem RgsI.done {w w':World} {z:Nat} {h:Ho} {D:Nat→Bool} {A:Option Addr} {cap:Nat} {L:List Rg} (I:RgsI w z h D A cap L w') (hd:∀ k s,h.has k s→D k=true):RegsL z h L:=
  ⟨I.ri,fun r=>by
    rw [I.me,regsU_mem]
    exact ⟨fun ⟨k,s,h1,_,h3⟩=>⟨k,s,h1,h3⟩,fun ⟨k,s,h1,h3⟩=>⟨k,s,h1,hd k s h1,h3⟩⟩⟩
theorem bx_rg {x:Bx} (o:x.Ok) (RA:Option Addr) (rc:Nat) (TA:Option Addr) (tc:Nat):(x.cs RA rc TA tc)[9]?=some (.int .u32 x.c.b)∧(x.cs RA rc TA tc)[10]?=some (.int .u32 x.c.s)∧U32 x.c.b∧U32 x.c.s:=by
  obtain ⟨v0,v1,v2,v3,v4,v5,v6,v7,v8,v9,v10,h1,h2⟩:=bx_cs o.c
  have hb:x.c.b=v9:=by rw [h1]
  have hs:x.c.s=v10:=by rw [h1]
  rw [h2,hb,hs]
  have e1:=o.c.b
  have e2:=o.c.s
  rw [hb] at e1
  rw [hs] at e2
  exact ⟨rfl,rfl,e1,e2⟩
theorem sb_region {w:World} {hb p g y mb:Nat} {RA TA:Nat→Option Addr} {rc tc:Nat→Nat} {h:Ho} {F:Nat→Prop} (I:HIn w hb p g y mb RA TA rc tc h F) {k:Nat} {s:Sb} (hs:h.has k s) (w':World) :
    Calls Tryz.prog 33 #[.agg (s.x.cs (RA k) (rc k) (TA k) (tc k)).toArray] w' fun e w2=>e=.returned (.agg #[.int .i64 s.r.1,.int .i64 s.r.2])∧Below w'.heap.size w' w2:=by
  obtain ⟨o,e1,e2⟩:=I.sx k s hs
  obtain ⟨l1,l2⟩:=bx_len o.c (RA k) (rc k) (TA k) (tc k)
  obtain ⟨c1,c2,u1,u2⟩:=bx_rg o (RA k) (rc k) (TA k) (tc k)
  have:=region_code _ l1 l2 _ _ c1 c2 u1 u2 w'
  rw [e1,e2] at this
  exact this
theorem sb_wf {z:Nat} {h:Ho} (H:HoZ z h) (hz:z≤1024) {k:Nat} {s:Sb} (hs:h.has k s):rgWf s.r:=by
  have:=rg_nat (H.rg k s hs)
  unfold rgWf Sb.r
  simp only
  omega
theorem hRegs_in {w:World} {z hb p g y mb:Nat} {RA TA:Nat→Option Addr} {rc tc:Nat→Nat} {h:Ho} {F:Nat→Prop} (I:HIn w hb p g y mb RA TA rc tc h F) (H:HoZ z h) (hz:z≤1024) :
    Calls Tryz.prog 13 #[.pointer (some ⟨hb,0,none⟩)] w fun e w'=>∃ A cap L,e=.returned (.slice A L.length cap)∧RegsL z h L∧RgRow w' A cap L∧(∀ a,A=some a→w.heap.size≤a.block)∧Below w.heap.size w w':=by
  have d0:=I.own.cell 0
  have d1:=I.own.cell 1
  simp only [List.getElem?_cons_zero,List.getElem?_cons_succ] at d0 d1
  have MM:=Lib.hid I.map
  have LT:=Lib.hid I.lt
  have RGC:=Lib.hid (fun (k:Nat) (s:Sb) (hs:h.has k s) (w':World)=>sb_region I hs w')
  have WF:=Lib.hid (fun (k:Nat) (s:Sb) (hs:h.has k s)=>sb_wf H hz hs)
  have LEN:=Lib.hid (fun (k:Nat) (s:Sb) (hs:h.has k s)=>bx_len (I.sx k s hs).1.c (RA k) (rc k) (TA k) (tc k))
  have HH:=Lib.hid H
  have ST:=Lib.hid (fun (w':World) (b:Below w.heap.size w w')=>(RgsI.start hz b:RgsI w z h (fun _=>false) none 0 [] w'))
  have MMk:=Lib.hid (fun (k:Nat) (v:Value) (hv:valO h RA TA rc tc k=some v)=>valO_some hv)
  clear I H hz
  go_enter Tryz.func13,Tryz.ntmps13
  go_wp2_with (first | (at_range;refine wpList_range_m rfl (.tmp 11) 67 3 82 rfl Tryz.underlying67 mb _ (by rfl) MM.out ?_;intro w0 cnt0 hcnt hrg b0))
  go_frame
  have B0:=Lib.hid b0
  have R0:=Lib.hid hrg
  have S0:=Lib.hid (ST.out w0 b0)
  clear b0 hrg d0 d1
  go_loopw [3] (fun v wr=>∃ (D:Nat→Bool) (cnt:Nat) (A:Option Addr) (cap:Nat) (L:List Rg),v=.slice A L.length cap∧L.length+cnt≤16∧Hid (MapRg wr mb w.heap.size (valO h RA TA rc tc) D cnt)∧Hid (RgsI w z h D A cap L wr)) (fun _ wr=>wr.rangeLeft mb w.heap.size)
  case atStart=>exact ⟨_,cnt0,none,0,[],rfl,by simpa using hcnt,R0,S0⟩
  case round=>
    obtain ⟨D,cnt,A,cap,L,rfl,hlc,RG,RI⟩:=hrel
    go_wp2_with (first
      | (at_next;refine wpList_next_m rfl (.tmp 12) rfl mb w.heap.size _ D cnt (by rfl) RG.out ?_ ?_)
      | go_in)
    · intro hdone
      have DN:=Lib.hid (RI.out.done (fun k s hs=>hdone k _ (valO_has hs)))
      clear hdone
      go_wp2_with fail
      go_ret
      exact ⟨A,cap,L,rfl,DN.out,RI.out.row,fun a ha=>Nat.le_of_lt (RI.out.new a ha),RI.out.bel⟩
    · intro k v w1 cnt1 hk hv hd rg1 hlt hg1 hs1 hen
      obtain ⟨s,hs,rfl⟩:=MMk.out k v hv
      have I1:=Lib.hid (RI.out.next hg1)
      have RC:=Lib.hid (RGC.out k s hs)
      have WX:=Lib.hid (WF.out k s hs)
      have LL:=LEN.out k s hs
      have ME:=Lib.hid (RG.out.left_eq)
      have HS:=Lib.hid (And.intro hs hd)
      have OFF:=Lib.hid (I1.out.row.offNew (Nat.le_refl w1.heap.size))
      have LTM:=Lib.hid (show mb < w1.heap.size from by have:=RG.out.at_.lt;omega)
      have SZ:=Lib.hid (show w.heap.size < w1.heap.size from by have:=RG.out.lt;omega)
      have CL:=Lib.hid (And.intro hlt hlc)
      unfold Bx.val at hen ⊢
      generalize s.x.cs (RA k) (rc k) (TA k) (tc k)=cs at *
      obtain ⟨l1,l2⟩:=LL
      have L1:=Lib.hid l1
      have L2:=Lib.hid l2
      obtain ⟨W2,e2,X2,I2,R2,S2⟩:∃ W2,w1.alloc (.cells ([.int .u32 0,.int .u32 0,.int .u32 0,.int .u32 0,.int .u32 0,.int .u32 0,.int .u32 0,.int .u32 0,.int .u32 0,.int .u32 0,.int .u32 0,.slice none 0 0,.int .i64 0,.slice none 0 0,.bool false,.int .u32 0,.int .i64 0,.int .i64 0]:List Value).toArray 82)=W2∧Hid (HasB W2 w1.heap.size 82 [.int .u32 0,.int .u32 0,.int .u32 0,.int .u32 0,.int .u32 0,.int .u32 0,.int .u32 0,.int .u32 0,.int .u32 0,.int .u32 0,.int .u32 0,.slice none 0 0,.int .i64 0,.slice none 0 0,.bool false,.int .u32 0,.int .i64 0,.int .i64 0])∧Hid (RgsI w z h D A cap L W2)∧Hid (MapRg W2 mb w.heap.size (valO h RA TA rc tc) (fun j=>D j || j == k) cnt1)∧Hid (w1.heap.size < W2.heap.size):=by
        have b:=bel_al (Below.refl w1.heap.size w1) (.cells ([.int .u32 0,.int .u32 0,.int .u32 0,.int .u32 0,.int .u32 0,.int .u32 0,.int .u32 0,.int .u32 0,.int .u32 0,.int .u32 0,.int .u32 0,.slice none 0 0,.int .i64 0,.slice none 0 0,.bool false,.int .u32 0,.int .i64 0,.int .i64 0]:List Value).toArray 82)
        exact ⟨_,rfl,Lib.hid (HasB.new w1 82 [.int .u32 0,.int .u32 0,.int .u32 0,.int .u32 0,.int .u32 0,.int .u32 0,.int .u32 0,.int .u32 0,.int .u32 0,.int .u32 0,.int .u32 0,.slice none 0 0,.int .i64 0,.slice none 0 0,.bool false,.int .u32 0,.int .i64 0,.int .i64 0]),Lib.hid (I1.out.below b),Lib.hid (rg1.below b),Lib.hid (by simp)⟩
      clear hk hv hd rg1 hlt hg1 hs1 hs l1 l2 RG RI I1
      go_wp2_with (first
        | (refine st_any rfl 82 (.tmp 5) (.tmp 16) rfl rfl w1.heap.size [.int .u32 0,.int .u32 0,.int .u32 0,.int .u32 0,.int .u32 0,.int .u32 0,.int .u32 0,.int .u32 0,.int .u32 0,.int .u32 0,.int .u32 0,.slice none 0 0,.int .i64 0,.slice none 0 0,.bool false,.int .u32 0,.int .i64 0,.int .i64 0] cs (by rfl) (by rfl) X2.out (by rw [L1.out];rfl) (by rw [L1.out];kernel_rfl) L2.out ?_;intro W3 r3 c3;have c3h:=Lib.hid c3)
        | (refine ld_any rfl 82 (.tmp 5) rfl w1.heap.size (by rfl) cs r3 rfl Tryz.underlying82 (by rw [L1.out];kernel_rfl) ?_))
      refine (RC.out _).mono ?_;rintro e w4 ⟨rfl,b4⟩
      have I4:=Lib.hid ((I2.out.chg c3h.out (Nat.le_of_lt SZ.out) OFF.out).below b4)
      have R4:=Lib.hid ((R2.out.keep (c3h.out.block mb (Nat.lt_trans LTM.out S2.out) (Nat.ne_of_lt LTM.out) (Nat.ne_of_lt LTM.out)) (c3h.out.block w.heap.size (Nat.lt_trans SZ.out S2.out) (Nat.ne_of_lt SZ.out) (Nat.ne_of_lt SZ.out))).below b4)
      have S4:=Lib.hid (Nat.lt_of_lt_of_le (Nat.lt_trans SZ.out S2.out) (Nat.le_trans c3h.out.size b4.size))
      have AC:=Lib.hid (add_code A cap L.length L s.r rfl (by have:=CL.out.2;omega) WX.out w4 I4.out.row)
      clear b4 I2 R2 S2 X2 c3h r3 c3 e2 hen
      go_wp2_with fail
      refine AC.out.mono ?_;rintro e w5 ⟨A5,c5,M,P,Q,rfl,had,rn,b5⟩
      have I5:=Lib.hid (RgsI.add HH.out I4.out HS.out.1 HS.out.2 had rn S4.out (bel_then I4.out.bel b5))
      have R5:=Lib.hid (R4.out.below b5)
      have ML:=Lib.hid (add_lenR had)
      clear had rn b5
      go_wp2_with fail
      go_roundw
      case rel=>exact ⟨_,cnt1,A5,c5,M,by rw [ML.out],by rw [ML.out];have:=CL.out;omega,R5,I5⟩
      case measure=>rw [R5.out.left_eq,ME.out];exact CL.out.1
theorem hRegs:HRegsC:=fun w hb z h F ⟨p,g,y,mb,RA,TA,rc,tc,I⟩ H hz=>hRegs_in I H hz
theorem free_h {w:World} {z hb p mb:Nat} {RA TA:Nat→Option Addr} {rc tc:Nat→Nat} {h:Ho} (I:HMp w hb p mb RA TA rc tc h) (H:HoZ z h) {q:Nat} (hq:freeO h=some q) :
    Calls Tryz.prog 26 #[.pointer (some ⟨hb,0,none⟩)] w fun e w'=>e=.returned (.int .i64 (q:Int))∧Below w.heap.size w w':=by
  obtain ⟨q1,q2,q3⟩:=free_some H hq
  have LK:=Lib.hid (fun (j:Nat) (hj:j < q)=>(by
    obtain ⟨s,hs⟩:=q3 j hj
    obtain ⟨l1,l2⟩:=bx_len (I.sx j s hs).1.c (RA j) (rc j) (TA j) (tc j)
    refine ⟨_,l1,l2,fun w' b=>?_⟩
    have:=((I.map.below b).look (P:=Tryz.prog) (mt:=67) Tryz.underlying67 Tryz.underlying3 (zero_box w') (j:Int) true)
    rw [atI_nat,valO_has hs] at this
    exact this:∃ cs:List Value,cs.length=18∧(∀ v∈cs,v.oneCell'=true)∧∀ w',Below w.heap.size w w'→(Instr.lookup 67 (.map (some mb)) (.int .i64 (j:Int)) true).run Tryz.prog w'=.ok (.tuple #[.agg cs.toArray,.bool true]) w'))
  have LN:=Lib.hid (fun w' (b:Below w.heap.size w w')=>(by
    have:=((I.map.below b).look (P:=Tryz.prog) (mt:=67) Tryz.underlying67 Tryz.underlying3 (zero_box w') (q:Int) true)
    rw [atI_nat,valO_none (fun s hs=>by unfold Ho.has at hs;rw [q2] at hs;cases hs)] at this
    exact this:(Instr.lookup 67 (.map (some mb)) (.int .i64 (q:Int)) true).run Tryz.prog w'=.ok (.tuple #[.agg ([.int .u32 0,.int .u32 0,.int .u32 0,.int .u32 0,.int .u32 0,.int .u32 0,.int .u32 0,.int .u32 0,.int .u32 0,.int .u32 0,.int .u32 0,.slice none 0 0,.int .i64 0,.slice none 0 0,.bool false,.int .u32 0,.int .i64 0,.int .i64 0]:List Value).toArray,.bool false]) w'))
  have OW:=Lib.hid (fun w' (b:Below w.heap.size w w')=>(I.own.below b))
  have Q1:=Lib.hid q1
  have ZL:=Lib.hid z_len
  have BR:=Lib.hid (Below.refl w.heap.size w)
  clear I H hq q1 q2 q3
  go_enter Tryz.func26,Tryz.ntmps26
  go_wp2_with fail
  go_loopw [3] (fun v wr=>∃ j:Nat,v=.int .i64 (j:Int)∧j≤q∧Hid (Below w.heap.size w wr)) (fun v _=>q - (intOf v).toNat)
  case atStart=>exact ⟨0,rfl,Nat.zero_le _,BR⟩
  case round=>
    obtain ⟨j,rfl,hj,BW⟩:=hrel
    have d1:=(OW.out _ BW.out).cell 1
    simp only [List.getElem?_cons_zero,List.getElem?_cons_succ] at d1
    obtain ⟨W1,e1,Y1,B1⟩:∃ W1,wr.alloc (.cells ([.int .u32 0,.int .u32 0,.int .u32 0,.int .u32 0,.int .u32 0,.int .u32 0,.int .u32 0,.int .u32 0,.int .u32 0,.int .u32 0,.int .u32 0,.slice none 0 0,.int .i64 0,.slice none 0 0,.bool false,.int .u32 0,.int .i64 0,.int .i64 0]:List Value).toArray 82)=W1∧Hid (HasB W1 wr.heap.size 82 [.int .u32 0,.int .u32 0,.int .u32 0,.int .u32 0,.int .u32 0,.int .u32 0,.int .u32 0,.int .u32 0,.int .u32 0,.int .u32 0,.int .u32 0,.slice none 0 0,.int .i64 0,.slice none 0 0,.bool false,.int .u32 0,.int .i64 0,.int .i64 0])∧Hid (Below w.heap.size w W1∧w.heap.size≤wr.heap.size):=by
      have b:=bel_al (Below.refl wr.heap.size wr) (.cells ([.int .u32 0,.int .u32 0,.int .u32 0,.int .u32 0,.int .u32 0,.int .u32 0,.int .u32 0,.int .u32 0,.int .u32 0,.int .u32 0,.int .u32 0,.slice none 0 0,.int .i64 0,.slice none 0 0,.bool false,.int .u32 0,.int .i64 0,.int .i64 0]:List Value).toArray 82)
      exact ⟨_,rfl,Lib.hid (HasB.new wr 82 [.int .u32 0,.int .u32 0,.int .u32 0,.int .u32 0,.int .u32 0,.int .u32 0,.int .u32 0,.int .u32 0,.int .u32 0,.int .u32 0,.int .u32 0,.slice none 0 0,.int .i64 0,.slice none 0 0,.bool false,.int .u32 0,.int .i64 0,.int .i64 0]),Lib.hid ⟨bel_then BW.out b,BW.out.size⟩⟩
    by_cases hjq:j=q
    · subst hjq
      have lk:=LN.out _ BW.out
      go_wp2_with (first
        | (refine st_any rfl 82 (.tmp 4) (.tmp 13) rfl rfl wr.heap.size [.int .u32 0,.int .u32 0,.int .u32 0,.int .u32 0,.int .u32 0,.int .u32 0,.int .u32 0,.int .u32 0,.int .u32 0,.int .u32 0,.int .u32 0,.slice none 0 0,.int .i64 0,.slice none 0 0,.bool false,.int .u32 0,.int .i64 0,.int .i64 0] [.int .u32 0,.int .u32 0,.int .u32 0,.int .u32 0,.int .u32 0,.int .u32 0,.int .u32 0,.int .u32 0,.int .u32 0,.int .u32 0,.int .u32 0,.slice none 0 0,.int .i64 0,.slice none 0 0,.bool false,.int .u32 0,.int .i64 0,.int .i64 0] (by rfl) (by rfl) Y1.out rfl (by kernel_rfl) ZL.out.2 ?_;intro W2 r2 c2;have B2:=Lib.hid (Below.trans B1.out.1 (Below.ofNew c2 B1.out.1.size B1.out.2))))
      go_ret
      exact ⟨rfl,B2.out⟩
    · have hlt:j < q:=by omega
      obtain ⟨cs,l1,l2,lk0⟩:=LK.out j hlt
      have lk:=lk0 _ BW.out
      have L1:=Lib.hid l1
      have L2:=Lib.hid l2
      have w1:IntKind.i64.wrap ((j:Int)+1)=((j+1:Nat):Int):=by rw [show ((j+1:Nat):Int)=(j:Int)+1 by omega];exact IntWalk.i64_in _ (by have:=Q1.out;omega)
      clear lk0 l1 l2
      go_wp2_with (first
        | (refine st_any rfl 82 (.tmp 4) (.tmp 13) rfl rfl wr.heap.size [.int .u32 0,.int .u32 0,.int .u32 0,.int .u32 0,.int .u32 0,.int .u32 0,.int .u32 0,.int .u32 0,.int .u32 0,.int .u32 0,.int .u32 0,.slice none 0 0,.int .i64 0,.slice none 0 0,.bool false,.int .u32 0,.int .i64 0,.int .i64 0] cs (by rfl) (by rfl) Y1.out (by rw [L1.out];rfl) (by rw [L1.out];kernel_rfl) L2.out ?_;intro W2 r2 c2;have B2:=Lib.hid (Below.trans B1.out.1 (Below.ofNew c2 B1.out.1.size B1.out.2))))
      go_roundw
      case rel=>exact ⟨j+1,by go_num,by omega,B2⟩
      case measure=>simp [intOf];omega
theorem OwnOff {B:Nat} {w:World} {A:Option Addr} {cap:Nat} {L:List Int} (h:Own B w A cap L) {j:Nat} (hj:w.heap.size≤j):∀ a,A=some a→a.block≠j:=fun a ha=>by
  have:=h.own.lt a.block (by rw [ha];rfl)
  omega
theorem OwnNe {B:Nat} {w:World} {A:Option Addr} {cap:Nat} {L:List Int} (h:Own B w A cap L) {j:Nat} {t:TypeId} {cs:List Value} (hb:HasB w j t cs) (ht:t≠5):∀ a,A=some a→a.block≠j:=fun a ha e=>by
  subst ha
  rcases h.own.2 with ⟨hv,_⟩ | ⟨g,c,cur,hv,_,hh,_⟩
  · cases hv
  · injection hv with hv _ _
    injection hv with hv
    subst hv
    simp only at e
    subst e
    unfold HasB at hb
    rw [hh] at hb
    injection hb with hb
    injection hb with _ hb
    exact ht hb.symm
theorem OwnChg {B j:Nat} {w w':World} {A:Option Addr} {cap:Nat} {L:List Int} (h:Own B w A cap L) (c:Chg j j w w') (hj:∀ a,A=some a→a.block≠j):Own B w' A cap L:=
  ⟨h.own.kept (row:=some j) c.grown (by
    cases A with
    | none=>exact .inl rfl
    | some a=>exact .inr (fun e=>hj a rfl (by simpa [Value.ownBlock] using e))),h.byte⟩
def fitIs (l:List Int) (size:Int):Prop:=((codeI l).length:Int)≤size / 2 - 32∧((dataL l).length:Int)≤size / 2
def FitP (w:World) (l:List Int) (size:Int) (e:Ending) (w':World):Prop:=Below w.heap.size w w'∧((imgE l≠0∧e=.returned (.tuple #[.agg #[.slice none 0 0,.slice none 0 0],.int .i64 (imgE l)])) ∨
  (imgE l=0∧¬ fitIs l size∧e=.returned (.tuple #[.agg #[.slice none 0 0,.slice none 0 0],.int .i64 4])) ∨
  (imgE l=0∧fitIs l size∧∃ A5 c5 A6 c6,e=.returned (.tuple #[.agg #[.slice A5 (codeI l).length c5,.slice A6 (dataL l).length c6],.int .i64 0])∧Own w.heap.size w' A5 c5 (codeI l)∧Own w.heap.size w' A6 c6 (dataL l)))
theorem fit_yes {n:Nat} {s:Int} (hp:powS s=true):fitsB n s=decide ((n:Int)≤s / 2 - 32):=by
  unfold fitsB
  rw [powBS,hp,Bool.true_and]
  by_cases h:(n:Int)≤s / 2 - 32
  · rw [decide_eq_true h,decide_eq_true ⟨by omega,h⟩]
  · rw [decide_eq_false h,decide_eq_false (fun k=>h k.2)]
theorem fitting_h (A:Option Addr) (cap n:Nat) (l:List Int) (size:Int) (hn:l.length=n) (hn2:n≤4200) (hp:powS size=true) (w:World) (R:RowAt w A cap l) :
    Calls Tryz.prog 23 #[.slice A n cap,.int .i64 size] w (FitP w l size):=by
  have sp:=powS_pos hp
  obtain ⟨W0,e0,X0,R0,B0⟩:∃ W0,w.alloc (.cells #[.slice none 0 0,.slice none 0 0] 57)=W0∧Hid (HasB W0 w.heap.size 57 [.slice none 0 0,.slice none 0 0])∧RowAt W0 A cap l∧Hid (Below w.heap.size w W0∧W0.heap.size=w.heap.size+1):=by
    have b:=bel_al (Below.refl w.heap.size w) (.cells #[.slice none 0 0,.slice none 0 0] 57)
    exact ⟨_,rfl,Lib.hid (HasB.new w 57 _),R.below b,Lib.hid ⟨b,Array.size_push _⟩⟩
  have IC:=Lib.hid (imageC A cap n l hn (by omega) W0 R0)
  have FC0:=Lib.hid (fun w'=>fitsC 0 size (by omega) (by omega) w')
  rw [show fitsB 0 size=true from (by have:=fit_yes (n:=0) hp;rw [show ((0:Nat):Int)=0 from rfl] at this;rw [this];exact decide_eq_true (by omega))] at FC0
  have LIM:Hid (imgE l=0→(codeI l).length≤4200∧(dataL l).length≤4200):=Lib.hid (fun _=>⟨by unfold codeI;rw [List.length_take,List.length_drop];omega,by unfold dataL;rw [List.length_take,List.length_drop];omega⟩)
  have d2:size.tdiv 2=size / 2:=Int.tdiv_eq_ediv_of_nonneg (by omega)
  have w1:IntKind.i64.wrap (size / 2)=size / 2:=IntWalk.i64_in _ (by omega)
  have w2:IntKind.i64.wrap (size.tdiv 2)=size / 2:=by rw [d2];exact w1
  have SP:=Lib.hid (And.intro hp sp)
  clear R R0 hp sp d2 hn hn2
  go_enter Tryz.func23,Tryz.ntmps23
  go_wp2_with fail
  refine IC.out.mono ?_;rintro e w1 hq
  rcases hq with ⟨hE,A5,c5,A6,c6,rfl,o5,o6,b1⟩ | ⟨hE,rfl,b1⟩
  · have LM:=LIM.out hE
    have FC:=Lib.hid (fun w'=>fitsC (((codeI l).length:Nat):Int) size (by omega) (by have:=SP.out;omega) w')
    rw [fit_yes SP.out.1] at FC
    have HFI:Hid (fitIs l size↔(((codeI l).length:Int)≤size / 2 - 32∧((dataL l).length:Int)≤size / 2)):=Lib.hid Iff.rfl
    have X1:=Lib.hid (X0.out.below b1)
    have B1:=Lib.hid (bel_then B0.out.1 b1)
    have O5:=Lib.hid (o5.mono (B':=w.heap.size) (by have:=B0.out.2;omega))
    have O6:=Lib.hid (o6.mono (B':=w.heap.size) (by have:=B0.out.2;omega))
    have HE:=Lib.hid hE
    have S1:=Lib.hid (show w.heap.size < w1.heap.size from by have:=b1.size;have:=B0.out.2;omega)
    obtain ⟨cn,hcn⟩:∃ cn,(codeI l).length=cn:=⟨_,rfl⟩
    obtain ⟨dn,hdn⟩:∃ dn,(dataL l).length=dn:=⟨_,rfl⟩
    rw [hcn] at FC
    rw [hcn,hdn] at HFI LM ⊢
    have HC:=Lib.hid hcn
    have HD:=Lib.hid hdn
    obtain ⟨W2,e2,Y2,X2,B2,K5,K6,S2⟩:∃ W2,w1.alloc (.cells #[.slice none 0 0,.slice none 0 0] 57)=W2∧Hid (HasB W2 w1.heap.size 57 [.slice none 0 0,.slice none 0 0])∧Hid (HasB W2 w.heap.size 57 [.slice none 0 0,.slice none 0 0])∧Hid (Below w.heap.size w W2)∧Hid (Own w.heap.size W2 A5 c5 (codeI l))∧Hid (Own w.heap.size W2 A6 c6 (dataL l))∧Hid (w1.heap.size < W2.heap.size):=by
      have b:=bel_al (Below.refl w1.heap.size w1) (.cells #[.slice none 0 0,.slice none 0 0] 57)
      exact ⟨_,rfl,Lib.hid (HasB.new w1 57 _),Lib.hid (X1.out.below b),Lib.hid (bel_then B1.out b),Lib.hid (O5.out.below b),Lib.hid (O6.out.below b),Lib.hid (by simp)⟩
    have OK5:=Lib.hid (fun (j:Nat) (hj:w1.heap.size≤j)=>OwnOff O5.out hj)
    have OK6:=Lib.hid (fun (j:Nat) (hj:w1.heap.size≤j)=>OwnOff O6.out hj)
    clear b1 o5 o6 hE LIM X0 IC B0 e0 hcn hdn O5 O6 X1
    dsimp only
    go_wp2_with (first
      | (refine st_any rfl 57 (.tmp 6) (.tmp 11) rfl rfl w1.heap.size [.slice none 0 0,.slice none 0 0] [.slice A5 cn c5,.slice A6 dn c6] (by rfl) (by rfl) Y2.out rfl (by kernel_rfl) (by simp [Value.oneCell']) ?_;intro W3 r3 c3;have X3:=Lib.hid (X2.out.chg c3 (by have:=S1.out;omega) (by have:=S1.out;omega));have B3:=Lib.hid (Below.trans B2.out (Below.ofNew c3 B2.out.size (by have:=S1.out;omega)));have Q5:=Lib.hid (OwnChg K5.out c3 (OK5.out _ (Nat.le_refl _)));have Q6:=Lib.hid (OwnChg K6.out c3 (OK6.out _ (Nat.le_refl _)));have R3:=Lib.hid r3;clear r3 c3 e2))
    refine (FC0.out _).mono ?_;rintro e w4 ⟨rfl,b4⟩
    have R4:=R3.out.below b4
    have y0:=R4.cell 0
    have y1:=R4.cell 1
    simp only [List.getElem?_cons_zero,List.getElem?_cons_succ] at y0 y1
    have Y4:=Lib.hid R4
    have X4:=Lib.hid (X3.out.below b4)
    have B4:=Lib.hid (bel_then B3.out b4)
    have P5:=Lib.hid (Q5.out.below b4)
    have P6:=Lib.hid (Q6.out.below b4)
    have LW:=Lib.hid (show w.heap.size < w1.heap.size∧w1.heap.size < w4.heap.size from by have:=S1.out;have:=R4.lt;omega)
    clear b4 R4 R3 X3 B3 Q5 Q6 FC0 OK5 OK6 K5 K6 B2 B1 X2 Y2 S2 S1
    dsimp only
    go_wp2_with fail
    refine (FC.out _).mono ?_;rintro e w5 ⟨rfl,b5⟩
    have R5:=Y4.out.below b5
    have y0:=R5.cell 0
    have y1:=R5.cell 1
    simp only [List.getElem?_cons_zero,List.getElem?_cons_succ] at y0 y1
    have Y5:=Lib.hid R5
    have X5:=Lib.hid (X4.out.below b5)
    have B5:=Lib.hid (bel_then B4.out b5)
    have O5:=Lib.hid (P5.out.below b5)
    have O6:=Lib.hid (P6.out.below b5)
    clear b5 R5 X4 B4 P5 P6 FC Y4
    by_cases h1:(cn:Int)≤size / 2 - 32
    · rw [decide_eq_true h1]
      by_cases h2:(dn:Int)≤size / 2
      · have q2:decide (size / 2 < (dn:Int))=false:=decide_eq_false (by omega)
        have FI:=Lib.hid (HFI.out.2 ⟨h1,h2⟩)
        clear h1 h2 HFI LM
        dsimp only
        go_wp2_with (first
          | (refine ld_any rfl 57 (.tmp 6) rfl w1.heap.size (by rfl) [.slice A5 cn c5,.slice A6 dn c6] Y5.out rfl Tryz.underlying57 (by kernel_rfl) ?_)
          | (refine st_any rfl 57 (.tmp 4) (.tmp 36) rfl rfl w.heap.size [.slice none 0 0,.slice none 0 0] [.slice A5 cn c5,.slice A6 dn c6] (by rfl) (by rfl) X5.out rfl (by kernel_rfl) (by simp [Value.oneCell']) ?_;intro W6 r6 c6'))
        (try simp only [Act.put,lsA,lsZ,lsS])
        have V:=loadvar_has r6 rfl Tryz.underlying57 (by kernel_rfl)
        refine bodyPost_ret (v:=.tuple #[.agg #[.slice A5 cn c5,.slice A6 dn c6],.int .i64 0]) (by simp [results,Tryz.results23,asaddr_run,V]) rfl ?_
        refine ⟨Below.trans B5.out (Below.ofNew c6' B5.out.size (Nat.le_refl _)),.inr (.inr ⟨HE.out,FI.out,A5,c5,A6,c6,by rw [HC.out,HD.out],?_,?_⟩)⟩
        · exact OwnChg O5.out c6' (OwnNe O5.out X5.out (by decide))
        · exact OwnChg O6.out c6' (OwnNe O6.out X5.out (by decide))
      · have q2:decide (size / 2 < (dn:Int))=true:=decide_eq_true (by omega)
        have FI:=Lib.hid (fun h=>h2 (HFI.out.1 h).2)
        clear h1 h2 HFI LM
        dsimp only
        go_wp2_with (first
          | (refine st_any rfl 57 (.tmp 4) (.tmp 35) rfl rfl w.heap.size [.slice none 0 0,.slice none 0 0] [.slice none 0 0,.slice none 0 0] (by rfl) (by rfl) X5.out rfl (by kernel_rfl) (by simp [Value.oneCell']) ?_;intro W6 r6 c6'))
        (try simp only [Act.put,lsA,lsZ,lsS])
        have V:=loadvar_has r6 rfl Tryz.underlying57 (by kernel_rfl)
        refine bodyPost_ret (v:=.tuple #[.agg #[.slice none 0 0,.slice none 0 0],.int .i64 4]) (by simp [results,Tryz.results23,asaddr_run,V]) rfl ?_
        exact ⟨Below.trans B5.out (Below.ofNew c6' B5.out.size (Nat.le_refl _)),.inr (.inl ⟨HE.out,FI.out,rfl⟩)⟩
    · rw [decide_eq_false h1]
      have FI:=Lib.hid (fun h=>h1 (HFI.out.1 h).1)
      clear h1 HFI LM
      dsimp only
      go_wp2_with (first
        | (refine st_any rfl 57 (.tmp 4) (.tmp 35) rfl rfl w.heap.size [.slice none 0 0,.slice none 0 0] [.slice none 0 0,.slice none 0 0] (by rfl) (by rfl) X5.out rfl (by kernel_rfl) (by simp [Value.oneCell']) ?_;intro W6 r6 c6'))
      (try simp only [Act.put,lsA,lsZ,lsS])
      have V:=loadvar_has r6 rfl Tryz.underlying57 (by kernel_rfl)
      refine bodyPost_ret (v:=.tuple #[.agg #[.slice none 0 0,.slice none 0 0],.int .i64 4]) (by simp [results,Tryz.results23,asaddr_run,V]) rfl ?_
      exact ⟨Below.trans B5.out (Below.ofNew c6' B5.out.size (Nat.le_refl _)),.inr (.inl ⟨HE.out,FI.out,rfl⟩)⟩
  · have q:(imgE l != 0)=true:=by simpa using hE
    have HE:=Lib.hid hE
    have X1:=Lib.hid (X0.out.below b1)
    have B1:=Lib.hid (bel_then B0.out.1 b1)
    have S1:=Lib.hid (show w.heap.size < w1.heap.size from by have:=b1.size;have:=B0.out.2;omega)
    obtain ⟨W2,e2,Y2,X2,B2⟩:∃ W2,w1.alloc (.cells #[.slice none 0 0,.slice none 0 0] 57)=W2∧Hid (HasB W2 w1.heap.size 57 [.slice none 0 0,.slice none 0 0])∧Hid (HasB W2 w.heap.size 57 [.slice none 0 0,.slice none 0 0])∧Hid (Below w.heap.size w W2):=by
      have b:=bel_al (Below.refl w1.heap.size w1) (.cells #[.slice none 0 0,.slice none 0 0] 57)
      exact ⟨_,rfl,Lib.hid (HasB.new w1 57 _),Lib.hid (X1.out.below b),Lib.hid (bel_then B1.out b)⟩
    clear b1 hE LIM X0 IC B0 e0 X1 B1
    obtain ⟨E,hEE⟩:∃ E,imgE l=E:=⟨_,rfl⟩
    rw [hEE] at q ⊢
    have HEE:=Lib.hid hEE
    clear hEE
    dsimp only
    go_wp2_with (first
      | (refine st_any rfl 57 (.tmp 6) (.tmp 11) rfl rfl w1.heap.size [.slice none 0 0,.slice none 0 0] [.slice none 0 0,.slice none 0 0] (by rfl) (by rfl) Y2.out rfl (by kernel_rfl) (by simp [Value.oneCell']) ?_;intro W3 r3 c3;have X3:=Lib.hid (X2.out.chg c3 (by have:=S1.out;omega) (by have:=S1.out;omega));have B3:=Lib.hid (Below.trans B2.out (Below.ofNew c3 B2.out.size (by have:=S1.out;omega))))
      | (refine st_any rfl 57 (.tmp 4) (.tmp 15) rfl rfl w.heap.size [.slice none 0 0,.slice none 0 0] [.slice none 0 0,.slice none 0 0] (by rfl) (by rfl) X3.out rfl (by kernel_rfl) (by simp [Value.oneCell']) ?_;intro W6 r6 c6'))
    (try simp only [Act.put,lsA,lsZ,lsS])
    have V:=loadvar_has r6 rfl Tryz.underlying57 (by kernel_rfl)
    refine bodyPost_ret (v:=.tuple #[.agg #[.slice none 0 0,.slice none 0 0],.int .i64 E]) (by simp [results,Tryz.results23,asaddr_run,V]) rfl ?_
    exact ⟨Below.trans B3.out (Below.ofNew c6' B3.out.size (Nat.le_refl _)),.inl ⟨HE.out,by rw [HEE.out]⟩⟩
noncomputable def placeE (z:Nat) (h:Ho) (size:Int):Int:=match freeO h with
  | none=>7
  | some _=>if takeV (regsU h) ((64 * z:Nat):Int) size < 0 then 7 else 0
theorem regs_len {z:Nat} {h:Ho} {L:List Rg} (R:RegsL z h L):L.length≤1000:=by
  have hr:=R.ri.ris
  have key:∀ (L:List Rg) (lo:Int),L.Pairwise Bel64→(∀ r∈L,128≤r.2∧lo≤r.1∧r.1≤65536)→lo≤65664→(L.length:Int) * 128≤65664 - lo:=by
    intro L
    induction L with
    | nil=>intro lo _ _ h;simp;omega
    | cons a t ih=>
      intro lo hp hb _
      obtain ⟨h1,h2⟩:=List.pairwise_cons.1 hp
      have ha:=hb a (List.mem_cons_self ..)
      have:=ih (a.1+128) h2 (fun r hr=>by
        have h3:=h1 r hr
        have h4:=hb r (List.mem_cons_of_mem _ hr)
        unfold Bel64 at h3
        omega) (by omega)
      rw [List.length_cons]
      push_cast
      omega
  have:=key L 0 hr (fun r hr=>by
    have h1:=reg_iff.1 (R.ri.reg r hr)
    have h2:=powS_pos h1.1
    have h3:=R.ri.hi
    omega) (by omega)
  omega
set_option maxHeartbeats 8000000 in
theorem place_h {w:World} {z hb p g y mb:Nat} {RA TA:Nat→Option Addr} {rc tc:Nat→Nat} {h:Ho} {F:Nat→Prop} (I:HIn w hb p g y mb RA TA rc tc h F) (H:HoZ z h) (z1:1≤z) (z2:z≤1024) (size:Int) (hp:powS size=true) :
    Calls Tryz.prog 24 #[.pointer (some ⟨hb,0,none⟩),.int .i64 size] w fun e w'=>
      e=.returned (.tuple #[.agg #[.int .i64 (if placeE z h size=0 then (takeV (regsU h) ((64 * z:Nat):Int) size,size) else (0,0)).1,.int .i64 (if placeE z h size=0 then (takeV (regsU h) ((64 * z:Nat):Int) size,size) else (0,0)).2],.int .i64 (placeE z h size)])∧Below w.heap.size w w':=by
  obtain ⟨W0,e0,X0,B0⟩:∃ W0,w.alloc (.cells #[.int .i64 0,.int .i64 0] 52)=W0∧Hid (HasB W0 w.heap.size 52 [.int .i64 0,.int .i64 0])∧Hid (Below w.heap.size w W0∧w.heap.size < W0.heap.size):=
    ⟨_,rfl,Lib.hid (HasB.new w 52 _),Lib.hid ⟨bel_al (Below.refl w.heap.size w) _,by simp⟩⟩
  have I0:=I.below B0.out.1
  obtain ⟨n,hlen,hn16,hfull⟩:=I0.map.size
  have LN:(Builtin.len_ #[67] 3 #[.map (some mb)]).run Tryz.prog W0=.ok (.int .i64 n) W0:=hlen _ _ _ _ _ Tryz.underlying67
  have d0:=I0.own.cell 0
  have d1:=I0.own.cell 1
  simp only [List.getElem?_cons_zero,List.getElem?_cons_succ] at d0 d1
  have hF:n=16↔freeO h=none:=by
    rw [hfull]
    constructor
    · intro hk
      cases hq:freeO h with
      | none=>rfl
      | some q=>
        obtain ⟨q1,q2,_⟩:=free_some H hq
        have:=hk q q1
        rw [valO_none (fun s hs=>by unfold Ho.has at hs;rw [q2] at hs;cases hs)] at this
        cases this
    · intro hq k hk
      obtain ⟨s,hs⟩:=free_none H hq k hk
      rw [valO_has hs]
      rfl
  have SP:=Lib.hid (And.intro hp (powS_pos hp))
  have LT:=Lib.hid (show hb < w.heap.size from I.own.lt)
  have Z2:=Lib.hid (And.intro z1 z2)
  have RC:=Lib.hid (hRegs_in (I0.below (Below.refl _ _).drew) H z2)
  have BD:=Lib.hid (bel_then B0.out.1 (Below.refl _ _).drew)
  have XD:=Lib.hid (X0.out.below (Below.refl _ _).drew)
  have OWL:=Lib.hid (I0.own.below (Below.refl _ _).drew)
  have MD:=Lib.hid (I0.mem.below (Below.refl _ _).drew)
  have hTL:h.T.length=z:=H.zl
  have LenL:=Lib.hid (fun L (R:RegsL z h L)=>regs_len R)
  clear I H I0 hlen hfull hp z1 z2
  go_enter Tryz.func24,Tryz.ntmps24
  cases hq:freeO h with
  | none=>
    have hn:n=16:=hF.2 hq
    have hE:placeE z h size=7:=by unfold placeE;rw [hq]
    rw [hE,if_neg (by decide)]
    subst hn
    clear hE hF hn16
    go_wp2_with (first
      | (refine st_any rfl 52 (.tmp 4) (.tmp 12) rfl rfl w.heap.size [.int .i64 0,.int .i64 0] [.int .i64 0,.int .i64 0] (by rfl) (by rfl) X0.out rfl (by kernel_rfl) (by simp [Value.oneCell']) ?_;intro W6 r6 c6))
    (try simp only [Act.put,lsA,lsZ,lsS])
    have V:=loadvar_has r6 rfl Tryz.underlying52 (by kernel_rfl)
    refine bodyPost_ret (v:=.tuple #[.agg #[.int .i64 0,.int .i64 0],.int .i64 7]) (by simp [results,Tryz.results24,asaddr_run,V]) rfl ?_
    exact ⟨rfl,Below.trans B0.out.1 (Below.ofNew c6 B0.out.1.size (Nat.le_refl _))⟩
  | some q=>
    have hn:n < 16:=by
      have:n≠16:=fun e=>by rw [hF.1 e] at hq;cases hq
      omega
    have q1:decide ((16:Int)≤(n:Int))=false:=decide_eq_false (by omega)
    have TE:Hid (∀ L,RegsL z h L→takeE L ((64 * z:Nat):Int) size=placeE z h size):=Lib.hid (fun L R=>by
      unfold takeE placeE
      rw [hq,rgt_iff.2 R.ri,SP.out.1,R.take SP.out.1]
      simp)
    obtain ⟨E,hE⟩:∃ E,placeE z h size=E:=⟨_,rfl⟩
    rw [hE] at TE ⊢
    obtain ⟨tv,hTV⟩:∃ tv,takeV (regsU h) ((64 * z:Nat):Int) size=tv:=⟨_,rfl⟩
    rw [hTV]
    have HTV:=Lib.hid hTV
    obtain ⟨ra,hra⟩:∃ ra:Int,(if E=0 then (tv,size) else (0,0):Rg).1=ra:=⟨_,rfl⟩
    obtain ⟨rb,hrb⟩:∃ rb:Int,(if E=0 then (tv,size) else (0,0):Rg).2=rb:=⟨_,rfl⟩
    rw [hra,hrb]
    have HRA:=Lib.hid hra
    have HRB:=Lib.hid hrb
    clear hra hrb
    clear hE hF hn16 hn hTV
    go_wp2_with fail
    refine wp_region_noPanic ?_
    refine wp_region_held_drew (S:=(fun w'=>w'.cell? ⟨hb,0,none⟩=some (.pointer (some ⟨p,0,none⟩))∧Below w.heap.size w w')) (by kernel_rfl) ?_ (fun hHeld=>?_)
    · (try dsimp only)
      exact ⟨d0,BD.out⟩
    refine wT 0 ?_
    refine wT 2 ?_
    refine wT 3 ?_
    refine wT 4 ?_
    refine wT 5 ?_
    refine wT 7 ?_
    refine wpAnyH_ready (rs:=[1]) (by kernel_rfl) (by simp) ?_
    refine rC (fun K hK=>?_) ?_
    · go_simp
      (with_reducible refine RC.out.mono ?_)
      rintro e w5 ⟨A,cap,L,rfl,rl,rr,rn,b5⟩
      have hC:=(OWL.out.below b5).cell 0
      simp only [List.getElem?_cons_zero] at hC
      have BQ:=Lib.hid (bel_then BD.out b5)
      have XB:=Lib.hid (XD.out.below b5)
      have RL:=Lib.hid rl
      have RR:=Lib.hid rr
      have MQ:=Lib.hid (MD.out.below b5)
      clear rl rr rn
      refine hK.out _ _ ?_ (fun hHeld=>?_)
      · (try dsimp only)
        exact ⟨hC,BQ.out⟩
      clear hK K
      (try simp only [Act.put,lsA,lsZ,lsS])
      refine wpAnyH_ready (rs:=[6]) (by kernel_rfl) (by simp) ?_
      refine rC (fun K hK=>?_) ?_
      · go_simp
        have SZ:=size_any MQ.out
        rw [MQ.out.len,hTL] at SZ
        (with_reducible refine SZ.mono ?_)
        rintro e w6 ⟨rfl,hw6⟩
        subst hw6
        clear SZ
        refine hK.out _ _ ?_ (fun hHeld=>?_)
        · (try dsimp only)
          exact ⟨hC,BQ.out⟩
        clear hK K
        (try simp only [Act.put,lsA,lsZ,lsS])
        refine wpAnyH_ready (rs:=[8]) (by kernel_rfl) (by simp) ?_
        refine rC (fun K hK=>?_) ?_
        · go_simp
          have TK:=stake_code A cap L.length L ((64 * z:Nat):Int) size rfl (by have:=RL.out.ri.hi;have:=LenL.out L RL.out;omega) (by unfold I64r;have:=Z2.out;omega) (by unfold I64r;have:=SP.out.2;omega) w5 RR.out
          unfold takeR at TK
          rw [TE.out L RL.out,RL.out.take SP.out.1,HTV.out,show ((64 * z:Nat):Int)=64 * (z:Int) by omega] at TK
          rw [HRA.out,HRB.out] at TK
          (with_reducible refine TK.mono ?_)
          rintro e w6 ⟨rfl,b6⟩
          have hC:=(OWL.out.below (bel_then b5 b6)).cell 0
          simp only [List.getElem?_cons_zero] at hC
          replace BQ:=Lib.hid (bel_then BQ.out b6)
          replace XB:=Lib.hid (XB.out.below b6)
          clear TK RL RR MQ
          refine hK.out _ _ ?_ (fun hHeld=>?_)
          · (try dsimp only)
            exact ⟨hC,BQ.out⟩
          clear hK K
          (try simp only [Act.put,lsA,lsZ,lsS])
          refine wT 9 ?_
          refine wT 10 ?_
          refine wpAnyH_ready (rs:=[11]) (by kernel_rfl) (by simp) ?_
          refine rC (fun K hK=>?_) ?_
          · (refine st_has 52 (.tmp 4) (.tmp 22) rfl rfl w.heap.size [.int .i64 0,.int .i64 0] [.int .i64 ra,.int .i64 rb] rfl rfl XB.out (by rfl) (by kernel_rfl) (by simp [Value.oneCell']) ?_;intro W6 r6 c6)
            refine hK.out _ _ ?_ (fun hHeld=>?_)
            · (try dsimp only)
              exact ⟨(cell_chg c6 (p:=⟨hb,0,none⟩) (by show hb < _;have:=LT.out;have:=BQ.out.size;omega) (by show hb≠_;have:=LT.out;omega) (by show hb≠_;have:=LT.out;omega)).trans hC,Below.trans BQ.out (Below.ofNew c6 BQ.out.size (Nat.le_refl _))⟩
            clear hK K
            (try simp only [Act.put,lsA,lsZ,lsS])
            refine wT 12 ?_
            refine wpAnyH_done (by kernel_rfl) ?_ _
            refine NoPanic.normal ?_
            go_wp2_with fail
            have V:=loadvar_has r6 rfl Tryz.underlying52 (by kernel_rfl)
            refine bodyPost_ret (v:=.tuple #[.agg #[.int .i64 ra,.int .i64 rb],.int .i64 E]) (by simp [results,Tryz.results24,asaddr_run,V]) rfl ?_
            exact ⟨rfl,hHeld.2⟩
          exact AllReadyH.nil
        exact AllReadyH.nil
      exact AllReadyH.nil
    exact AllReadyH.nil
end Go.Proofs.YteefmjhemhlapaaGreat.Mm
