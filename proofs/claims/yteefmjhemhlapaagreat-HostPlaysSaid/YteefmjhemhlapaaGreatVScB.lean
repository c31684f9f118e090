/- Merged by wip/tools/regroup: ScanRead, ScanTops. -/
import Derived.Test.YteefmjhemhlapaaGreatVScanAdd
import Derived.Test.YteefmjhemhlapaaGreatVIsB
import Derived.Shelf.RegionOpen
import Derived.RegionIn
import Derived.Deep.QuietTactic
import Derived.BigQuiet
namespace Go.Proofs.YteefmjhemhlapaaGreat.Mm
open Go.ChangeShapes Go.WideShapes Go.ChangeAt Go.RowKit
set_option linter.unusedVariables false
set_option maxRecDepth 10000
attribute [local go_sem] Oper.semAt_some
theorem mayBe_any (n:Nat) (hn:n≤maxLen) (w:World):Calls Tryz.prog 136 #[.int .i64 n] w fun e w'=>e=.returned (.bool (sizeB n))∧w=w':=by
  unfold maxLen at hn
  have hs:=sizeB_iff n
  by_cases h1:32≤n
  · by_cases h2:n≤4096
    · by_cases h3:n % 32=0
      · have e:=hs.2 ⟨h1,h2,h3⟩
        have HE:=Lib.hid e;clear e hs
        go_enter Tryz.func136,Tryz.ntmps136
        go_wp2
        go_ret
        exact ⟨ret_bool (by rw [HE.out];simp;omega),rfl⟩
      · have e:sizeB n=false:=by rw [← Bool.not_eq_true,hs];omega
        have HE:=Lib.hid e;clear e hs
        go_enter Tryz.func136,Tryz.ntmps136
        go_wp2
        go_ret
        exact ⟨ret_bool (by rw [HE.out];simp;omega),rfl⟩
    · have e:sizeB n=false:=by rw [← Bool.not_eq_true,hs];omega
      have HE:=Lib.hid e;clear e hs
      go_enter Tryz.func136,Tryz.ntmps136
      go_wp2
      go_ret
      exact ⟨ret_bool HE.out.symm,rfl⟩
  · have e:sizeB n=false:=by rw [← Bool.not_eq_true,hs];omega
    have HE:=Lib.hid e;clear e hs
    go_enter Tryz.func136,Tryz.ntmps136
    go_wp2
    go_ret
    exact ⟨ret_bool HE.out.symm,rfl⟩
def ReadP (w:World) (code:List Int) (e:Ending) (w':World):Prop:=
  ∃ A1 c1 A2 c2,e=.returned (.tuple #[.slice A1 (scanL code).length c1,.slice A2 (scanL code).length c2,.int .i64 (scanE code)])∧IntRow w' A1 c1 (posI (scanL code))∧InsRow w' A2 c2 (insI (scanL code))∧Below w.heap.size w w'
set_option maxRecDepth 100000 in
set_option maxHeartbeats 2000000 in
theorem read_size (A:Option Addr) (cap:Nat) (code:List Int) (hm:code.length≤maxLen) (h:sizeB code.length=false) (w:World) :
    Calls Tryz.prog 124 #[.slice A code.length cap] w (ReadP w code):=by
  have hc:=mayBe_any code.length hm
  rw [h] at hc
  have HC:=Lib.hid hc;clear hc
  obtain ⟨e1,e2⟩:=scanE_4 h
  have HP:Hid (∀ w',Below w.heap.size w w'→ReadP w code (.returned (.tuple #[.slice none 0 0,.slice none 0 0,.int .i64 4])) w'):=Lib.hid (fun w' b=>⟨none,0,none,0,by rw [e1,e2];rfl,by rw [e2];exact intRow_nil _,by rw [e2];exact insRow_nil _,b⟩)
  clear e1 e2 h
  generalize code.length=n at hm HC ⊢
  refine (callsIn_wide (n:=3)).1 ?_
  refine callsIn_of_wp_marks Tryz.func124 rfl trivial ?_ rfl
  simp only [Tryz.ntmps124,List.size_toArray,List.length_cons,List.length_nil,Nat.reduceAdd,Nat.reduceSub,Array.replicate_succ,Array.replicate_zero,List.push_toArray,List.append_toArray,List.nil_append,List.cons_append]
  gi_wp2_with (refine ⟨trivial,?_⟩;gi_at_call 136;with_reducible refine CallsIn.mono (callsIn_wide.2 (HC.out _)) ?_;rintro e w' ⟨rfl,rfl⟩)
  refine ⟨.tuple #[.slice none 0 0,.slice none 0 0,.int .i64 4],by simp [results,Tryz.f124,go_sem],HP.out _ ?_⟩
  exact bel_al (bel_al (bel_al (Below.refl _ _) _) _) _
def GoodL (code:List Int) {m:Nat} (pre:List { k:Nat // k < m }):Prop:=
  (∀ y∈pre,(scanAt (bunL code y.1) 0).isSome=true)∧(accB code (pre.map (·.1))).length≤32 * pre.length∧∀ p∈accB code (pre.map (·.1)),p.2.Ok
def RdI (code:List Int) (s:Nat) (cv:Value) {m:Nat} (pre:List { k:Nat // k < m }) (W:World):Prop:=
  ∃ u1 u2,RdT s cv u1 u2 u1 u2 (accB code (pre.map (·.1))).length (accB code (pre.map (·.1))).length (posI (accB code (pre.map (·.1)))) (insI (accB code (pre.map (·.1)))) W
theorem rdI_own (code:List Int) (s:Nat) (cv:Value) {m:Nat}:Own (fun (pre:List { k:Nat // k < m }) W=>RdI code s cv pre W):=by
  rintro pre X Y row ⟨u1,u2,h⟩ hg hr
  exact ⟨u1,u2,h.own hg hr⟩
def BadL (code:List Int) (s:Nat) {m:Nat} (c:Code) (pre:List { k:Nat // k < m }) (W:World):Prop:=
  (c=.ret∧∃ y∈pre,scanAt (bunL code y.1) 0=none)∧Boxed W s 128 (.slice none 0 0)∧Boxed W (s+1) 129 (.slice none 0 0)∧Boxed W (s+2) 27 (.int .i64 2)
theorem badL_own (code:List Int) (s:Nat) {m:Nat} (c:Code):Own (fun (pre:List { k:Nat // k < m }) W=>BadL code s c pre W):=by
  rintro pre X Y row ⟨h,h0,h1,h2⟩ hg hr
  exact ⟨h,boxed_kept h0 hg hr,boxed_kept h1 hg hr,boxed_kept h2 hg hr⟩
theorem rdI_start (code:List Int) (w:World) (cv:Value) {m:Nat}:RdI code w.heap.size cv ([]:List { k:Nat // k < m })
    ((((((w.alloc (.cells #[.slice none 0 0] 128)).alloc (.cells #[.slice none 0 0] 129)).alloc (.cells #[.int .i64 0] 27)).alloc (.cells #[.slice none 0 0] 128)).alloc (.cells #[.slice none 0 0] 129)).alloc (.cells #[cv] 39)):=by
  have h0:=Boxed.new w 128 (.slice none 0 0)
  have h1:=Boxed.new (w.alloc (.cells #[.slice none 0 0] 128)) 129 (.slice none 0 0)
  have h2:=Boxed.new ((w.alloc (.cells #[.slice none 0 0] 128)).alloc (.cells #[.slice none 0 0] 129)) 27 (.int .i64 0)
  have h3:=Boxed.new (((w.alloc (.cells #[.slice none 0 0] 128)).alloc (.cells #[.slice none 0 0] 129)).alloc (.cells #[.int .i64 0] 27)) 128 (.slice none 0 0)
  have h4:=Boxed.new ((((w.alloc (.cells #[.slice none 0 0] 128)).alloc (.cells #[.slice none 0 0] 129)).alloc (.cells #[.int .i64 0] 27)).alloc (.cells #[.slice none 0 0] 128)) 129 (.slice none 0 0)
  have h5:=Boxed.new (((((w.alloc (.cells #[.slice none 0 0] 128)).alloc (.cells #[.slice none 0 0] 129)).alloc (.cells #[.int .i64 0] 27)).alloc (.cells #[.slice none 0 0] 128)).alloc (.cells #[.slice none 0 0] 129)) 39 cv
  simp only [World.size_alloc] at h1 h2 h3 h4 h5
  exact ⟨.slice none 0 0,.slice none 0 0,((((h0.alloc _).alloc _).alloc _).alloc _).alloc _,(((h1.alloc _).alloc _).alloc _).alloc _,((h2.alloc _).alloc _).alloc _,(h3.alloc _).alloc _,h4.alloc _,h5,World.ownsRow_nil _ _ _ _,World.ownsRow_nil _ _ _ _⟩
theorem good_nil (code:List Int) {m:Nat}:GoodL code ([]:List { k:Nat // k < m }):=⟨fun y h=>(by cases h),Nat.le_refl _,fun p h=>(by cases h)⟩
theorem intRow_own {w:World} {base n cap:Nat} {A:Option Addr} {L:List Int} (h:w.ownsRow base 3 1 (.slice A n cap) n (L.map (Value.int .i64))):IntRow w A cap L:=by
  obtain ⟨A',cap',e,_,r⟩:=int_of_own h
  injection e with e1 e2 e3
  subst e1 e3
  exact r
theorem insRow_own {w:World} {base n cap:Nat} {A:Option Addr} {L:List InsV} (h:w.ownsRow base 134 4 (.slice A n cap) n (L.flatMap insC)) (hw:∀ x∈L,x.Wf):InsRow w A cap L:=by
  obtain ⟨A',cap',e,_,r⟩:=ins_of_own h hw
  injection e with e1 e2 e3
  subst e1 e3
  exact r
theorem nonCells {W:World} {D:Nat} (h:W.heap[D]?=some (.deferred (some []))):∀ r,some D=some r→∃ o:Obj,W.heap[r]?=some o∧o.isCells=false:=fun r e=>by
  cases e;exact ⟨_,h,rfl⟩
structure DoneS (s D:Nat) (w:World) (A1 A2:Option Addr) (n k1 k2:Nat) (A:List Int) (B:List InsV) (W3:World):Prop where
  hK:W3.heap[D]?=some (.deferred (some []))
  c0:(W3.putObj D (.deferred none)).cell? ⟨s,0,none⟩=some (.slice A1 n k1)
  c1:(W3.putObj D (.deferred none)).cell? ⟨s+1,0,none⟩=some (.slice A2 n k2)
  c2:(W3.putObj D (.deferred none)).cell? ⟨s+2,0,none⟩=some (.int .i64 0)
  r1:IntRow (W3.putObj D (.deferred none)) A1 k1 A
  r2:InsRow (W3.putObj D (.deferred none)) A2 k2 B
  bel:Below s w (W3.putObj D (.deferred none))
theorem done_s {w W:World} {D n k1 k2:Nat} {cv:Value} {A1 A2:Option Addr} {A:List Int} {B:List InsV} (h:RdT w.heap.size cv (.slice A1 n k1) (.slice A2 n k2) (.slice A1 n k1) (.slice A2 n k2) n n A B W) (hw:∀ x∈B,x.Wf) (hB:Below w.heap.size w W) (hD:w.heap.size+6≤D) (hK:W.heap[D]?=some (.deferred (some []))) :
    DoneS w.heap.size D w A1 A2 n k1 k2 A B (((W.setCell ⟨w.heap.size,0,none⟩ (.slice A1 n k1)).setCell ⟨w.heap.size+1,0,none⟩ (.slice A2 n k2)).setCell ⟨w.heap.size+2,0,none⟩ (.int .i64 0)).drew:=by
  have k0:(((W.setCell ⟨w.heap.size,0,none⟩ (.slice A1 n k1)).setCell ⟨w.heap.size+1,0,none⟩ (.slice A2 n k2)).setCell ⟨w.heap.size+2,0,none⟩ (.int .i64 0)).drew.heap[D]?=some (.deferred (some [])):=
    (((KeepsOthers.setCell _ _ _).trans (KeepsOthers.setCell _ _ _)).trans (KeepsOthers.setCell _ _ _)).trans (KeepsOthers.drew _) |>.same D _ hK rfl
  have b0:Boxed (((W.setCell ⟨w.heap.size,0,none⟩ (.slice A1 n k1)).setCell ⟨w.heap.size+1,0,none⟩ (.slice A2 n k2)).setCell ⟨w.heap.size+2,0,none⟩ (.int .i64 0)).drew w.heap.size 128 (.slice A1 n k1):=
    boxed_other (boxed_other (h.r0.set _) (by omega) _) (by omega) _
  have b1:Boxed (((W.setCell ⟨w.heap.size,0,none⟩ (.slice A1 n k1)).setCell ⟨w.heap.size+1,0,none⟩ (.slice A2 n k2)).setCell ⟨w.heap.size+2,0,none⟩ (.int .i64 0)).drew (w.heap.size+1) 129 (.slice A2 n k2):=
    boxed_other ((boxed_other h.r1 (by omega) _).set _) (by omega) _
  have b2:Boxed (((W.setCell ⟨w.heap.size,0,none⟩ (.slice A1 n k1)).setCell ⟨w.heap.size+1,0,none⟩ (.slice A2 n k2)).setCell ⟨w.heap.size+2,0,none⟩ (.int .i64 0)).drew (w.heap.size+2) 27 (.int .i64 0):=
    (boxed_other (boxed_other h.r2 (by omega) _) (by omega) _).set _
  have o1:=own_box (u':=.int .i64 0) (own_box (u':=.slice A2 n k2) (own_box (u':=.slice A1 n k1) h.o1 h.r0 (by decide)) (boxed_other h.r1 (by omega) _) (by decide)) (boxed_other (boxed_other h.r2 (by omega) _) (by omega) _) (by decide)
  have o2:=own_box (u':=.int .i64 0) (own_box (u':=.slice A2 n k2) (own_box (u':=.slice A1 n k1) h.o2 h.r0 (by decide)) (boxed_other h.r1 (by omega) _) (by decide)) (boxed_other (boxed_other h.r2 (by omega) _) (by omega) _) (by decide)
  have o1':=own_kept (B:=(((W.setCell ⟨w.heap.size,0,none⟩ (.slice A1 n k1)).setCell ⟨w.heap.size+1,0,none⟩ (.slice A2 n k2)).setCell ⟨w.heap.size+2,0,none⟩ (.int .i64 0)).drew) o1 (grown_below (Below.refl _ _).drew) (fun r e=>by cases e)
  have o2':=own_kept (B:=(((W.setCell ⟨w.heap.size,0,none⟩ (.slice A1 n k1)).setCell ⟨w.heap.size+1,0,none⟩ (.slice A2 n k2)).setCell ⟨w.heap.size+2,0,none⟩ (.int .i64 0)).drew) o2 (grown_below (Below.refl _ _).drew) (fun r e=>by cases e)
  refine ⟨k0,(boxed_kept b0 (grownBy_putObj' _ D _) (nonCells k0)).cell,(boxed_kept b1 (grownBy_putObj' _ D _) (nonCells k0)).cell,(boxed_kept b2 (grownBy_putObj' _ D _) (nonCells k0)).cell,
    intRow_own (own_kept o1' (grownBy_putObj' _ D _) (nonCells k0)),insRow_own (own_kept o2' (grownBy_putObj' _ D _) (nonCells k0)) hw,?_⟩
  refine Below.trans ?_ (belowK_b (w:=w) (Nat.le_refl _) _ D _ _ (by omega) k0 rfl rfl)
  exact ((((hB.setCell (p:=⟨w.heap.size,0,none⟩) (Nat.le_refl _) _).setCell (p:=⟨w.heap.size+1,0,none⟩) (Nat.le_add_right _ 1) _).setCell (p:=⟨w.heap.size+2,0,none⟩) (Nat.le_add_right _ 2) _)).drew
structure StopS (s D:Nat) (w:World) (W:World):Prop where
  c0:(W.putObj D (.deferred none)).cell? ⟨s,0,none⟩=some (.slice none 0 0)
  c1:(W.putObj D (.deferred none)).cell? ⟨s+1,0,none⟩=some (.slice none 0 0)
  c2:(W.putObj D (.deferred none)).cell? ⟨s+2,0,none⟩=some (.int .i64 2)
  bel:Below s w (W.putObj D (.deferred none))
theorem stop_s {w W:World} {D:Nat} (b0:Boxed W w.heap.size 128 (.slice none 0 0)) (b1:Boxed W (w.heap.size+1) 129 (.slice none 0 0)) (b2:Boxed W (w.heap.size+2) 27 (.int .i64 2)) (hB:Below w.heap.size w W) (hD:w.heap.size+6≤D) (hK:W.heap[D]?=some (.deferred (some []))) :
    StopS w.heap.size D w W:=
  ⟨(boxed_kept b0 (grownBy_putObj' _ D _) (nonCells hK)).cell,(boxed_kept b1 (grownBy_putObj' _ D _) (nonCells hK)).cell,(boxed_kept b2 (grownBy_putObj' _ D _) (nonCells hK)).cell,
    hB.trans (belowK_b (w:=w) (Nat.le_refl _) _ D _ _ (by omega) hK rfl rfl)⟩
theorem good_snoc {code:List Int} {m:Nat} {pre:List { k:Nat // k < m }} {y:{ k:Nat // k < m }} {B:List (Nat×InsV)} (h:GoodL code pre) (hs:scanAt (bunL code y.1) 0=some B) (hl:B.length≤32) (ho:∀ p∈B,p.2.Ok) :
    GoodL code (pre ++ [y])∧accB code ((pre ++ [y]).map (·.1))=accB code (pre.map (·.1)) ++ shiftP (32 * y.1) B:=by
  have e:accB code ((pre ++ [y]).map (·.1))=accB code (pre.map (·.1)) ++ shiftP (32 * y.1) B:=by
    rw [List.map_append];exact accB_snoc code _ y.1 hs
  obtain ⟨g1,g2,g3⟩:=h
  refine ⟨⟨fun z hz=>?_,?_,fun p hp=>?_⟩,e⟩
  · rcases List.mem_append.1 hz with hz | hz
    · exact g1 z hz
    · simp at hz;subst hz;rw [hs];rfl
  · rw [e,List.length_append,shift_len,List.length_append,List.length_singleton];omega
  · rw [e] at hp
    rcases List.mem_append.1 hp with hp | hp
    · exact g3 p hp
    · obtain ⟨q,hq,rfl⟩:=List.mem_map.1 hp
      exact ho q hq
theorem kpb_of {W W':World} {B:Nat} {cv:Value} (h:Boxed W B 39 cv) (h':Boxed W' B 39 cv):KpB B W W':=fun v hv=>by
  have e:=(show W.heap[B]?=_ from hv).symm.trans h
  simp at e
  rw [e]
  exact h'
theorem pos_snoc (A:List Int) (b:Nat) (Bc:List (Nat×InsV)) (k:Nat) (x:InsV):A ++ posI (shiftP b Bc) ++ [(b:Int)+(k:Int)]=A ++ posI (shiftP b (Bc ++ [(k,x)])):=by
  rw [shift_snoc,posI_app,List.append_assoc];simp [posI]
theorem ins_snoc (A:List InsV) (b:Nat) (Bc:List (Nat×InsV)) (k:Nat) (x:InsV):A ++ insI (shiftP b Bc) ++ [x]=A ++ insI (shiftP b (Bc ++ [(k,x)])):=by
  rw [shift_snoc,insI_app,List.append_assoc];simp [insI]
theorem wf_of {L:List (Nat×InsV)} {b:Nat} {Bc:List (Nat×InsV)} (g:∀ p∈L,p.2.Ok) (h:∀ p∈Bc,p.2.Ok):∀ x∈insI L ++ insI (shiftP b Bc),x.Wf:=fun x hx=>by
  rcases List.mem_append.1 hx with hx | hx
  · obtain ⟨p,hp,rfl⟩:=List.mem_map.1 hx;exact ok_wf (g p hp)
  · obtain ⟨p,hp,rfl⟩:=List.mem_map.1 hx
    obtain ⟨q,hq,rfl⟩:=List.mem_map.1 hp
    exact ok_wf (h q hq)
set_option maxRecDepth 100000 in
set_option maxHeartbeats 4000000 in
theorem read_main (x:Addr) (cap m len:Nat) (code:List Int) (hl:code.length=len) (hm:len=32 * m) (h1:1≤m) (h128:m≤128) (w:World) (r:RowAt w (some x) cap code) :
    Calls Tryz.prog 124 #[.slice (some x) len cap] w (ReadP w code):=by
  have hc:=mayBe_any len (by unfold maxLen;omega)
  rw [(sizeB_iff len).2 (by omega)] at hc
  have HC:=Lib.hid hc;clear hc
  have hcap:len≤cap:=by have:=r.1;omega
  have HM:=Lib.hid hm
  have HL:=Lib.hid hl
  have R:=Lib.hid r
  have hlen:len≤4096:=by omega
  clear hm hl r
  refine (callsIn_wide (n:=3)).1 ?_
  refine callsIn_of_wp_marks Tryz.func124 rfl trivial ?_ rfl
  simp only [Tryz.ntmps124,List.size_toArray,List.length_cons,List.length_nil,Nat.reduceAdd,Nat.reduceSub,Array.replicate_succ,Array.replicate_zero,List.push_toArray,List.append_toArray,List.nil_append,List.cons_append]
  gi_wp2_with (first
    | (refine ⟨trivial,?_⟩;gi_at_call 136;(with_reducible refine CallsIn.mono (callsIn_wide.2 (HC.out _)) ?_);rintro e w' ⟨rfl,rfl⟩)
    | (refine ⟨trivial,?_⟩;gi_at_call 137;refine CallsIn.mono (bundles_in Fence.wide _ trivial rfl _ _ _ _) ?_;rintro e w' ⟨rfl,rfl⟩))
  have hB0:Below w.heap.size w ((((((w.alloc (.cells #[.slice none 0 0] 128)).alloc (.cells #[.slice none 0 0] 129)).alloc (.cells #[.int .i64 0] 27)).alloc (.cells #[.slice none 0 0] 128)).alloc (.cells #[.slice none 0 0] 129)).alloc (.cells #[.slice (some x) len cap] 39)):=
    bel_al (bel_al (bel_al (bel_al (bel_al (bel_al (Below.refl _ _) _) _) _) _) _) _
  have hI0:=rdI_start code w (.slice (some x) len cap) (m:=m)
  simp only [Nat.add_assoc,Nat.reduceAdd]
  refine wpIn_rangeFunc_ownG rfl (by omega) (gf:=142) (lb:=#[.pointer (some ⟨w.heap.size+5,0,none⟩)]) rfl trivial (enters_of Tryz.func142 (by kernel_rfl) rfl)
    (iter_stops Fence.wide _ trivial rfl (by omega) (w.heap.size+5) x m len cap HM.out hcap (by omega) _ hI0.choose_spec.choose_spec.code) KpB.trans (fun W l o o' k1 k2 k3 k4=>KpB.put (n:=w.heap.size+6) (by omega) W l o o' (by simp at k1;omega) k2 k3 k4) (Below.refl _ _) (fun _=>rfl)
    (fun pre W=>(GoodL code pre∧RdI code w.heap.size (.slice (some x) len cap) pre W)∧Below w.heap.size w W)
    (fun c pre W=>BadL code w.heap.size c pre W∧Below w.heap.size w W)
    (OwnFrom.and (OwnFrom.and (ownFrom_pure _ _) ((rdI_own _ _ _).from _)) (ownFrom_below (Nat.le_refl _) (by simp;omega)))
    (fun c=>OwnFrom.and ((badL_own _ _ c).from _) (ownFrom_below (Nat.le_refl _) (by simp;omega)))
    ⟨⟨good_nil code,hI0⟩,hB0⟩
    (fun y=>{ tmps:=#[.slice (some x) len cap,undef,.pointer (some ⟨w.heap.size,0,none⟩),.pointer (some ⟨w.heap.size+1,0,none⟩),.pointer (some ⟨w.heap.size+2,0,none⟩),.pointer (some ⟨w.heap.size+3,0,none⟩),.pointer (some ⟨w.heap.size+4,0,none⟩),.int .i64 ((32 * y.1:Nat):Int),.slice (some (x.add (32 * y.1))) 32 (cap - 32 * y.1),undef,undef,undef,.slice (some x) len cap,.int .i64 len,.bool true,.bool false,.slice (some x) len cap,.func (.func 142) #[] #[.pointer (some ⟨w.heap.size+5,0,none⟩)],.int .i64 ((32 * y.1:Nat):Int),.slice (some (x.add (32 * y.1))) 32 (cap - 32 * y.1),undef,undef,undef,undef,undef,undef,undef,undef,undef,undef,undef,undef,undef,undef,undef,undef,undef,undef,undef,undef,undef,undef,undef,undef,undef,undef,undef],defers:=[] }) ?assign ?body ?done ?stop
  case assign=>
    intro l y W K hK
    unfold bunE
    gi_wp2
    exact hK
  case body=>
    rintro l pre y W ⟨⟨good,u1,u2,ht⟩,hB⟩ hlt
    have hy32:32 * y.1+32≤code.length:=by have:=y.2;have:=HL.out;have:=HM.out;omega
    have hb4:32 * y.1≤4096:=by have:=HL.out;omega
    have HBL:=Lib.hid (bunL_len hy32)
    have HBY:=Lib.hid (bunL_byte R.out.2.2.1 y.1)
    have HRB:Hid (∀ w1,Below w.heap.size w w1→RowAt w1 (some (x.add (32 * y.1))) (cap - 32 * y.1) (bunL code y.1)):=Lib.hid (fun w1 b1=>row_take (row_drop (R.out.below b1) (32 * y.1)) 32)
    have hn0:(accB code (pre.map (·.1))).length≤4096:=by have:=good.2.1;omega
    have HG:=Lib.hid good
    have HW0:=Lib.hid ht.code
    have HEND:Hid (∀ B W',Come (bunL code y.1) 32 B→KeepsOthers W W'→Below w.heap.size w W'→(∃ u1 u2,RdT w.heap.size (.slice (some x) len cap) u1 u2 u1 u2 ((accB code (pre.map (·.1))).length+B.length) ((accB code (pre.map (·.1))).length+B.length) (posI (accB code (pre.map (·.1))) ++ posI (shiftP (32 * y.1) B)) (insI (accB code (pre.map (·.1))) ++ insI (shiftP (32 * y.1) B)) W') →
        KpB (w.heap.size+5) W W'∧(GoodL code (pre ++ [y])∧RdI code w.heap.size (.slice (some x) len cap) (pre ++ [y]) W')∧Below w.heap.size w W'):=Lib.hid (by
      rintro B W' hc hk hb ⟨v1,v2,h⟩
      obtain ⟨g,e⟩:=good_snoc good (come_end HBL.out hc) hc.2.1 hc.2.2.1
      refine ⟨kpb_of ht.code h.code,⟨g,v1,v2,?_⟩,hb⟩
      rw [e,List.length_append,shift_len,posI_app,insI_app]
      exact h)
    have HBAD:Hid (∀ k B,Come (bunL code y.1) k B→k < 32→rdB ((bunL code y.1).drop k)=false→∃ z∈pre ++ [y],scanAt (bunL code z.1) 0=none):=Lib.hid (fun k B hc hk hr=>⟨y,by simp,come_no HBY.out HBL.out hc hk hr⟩)
    have HWFA:Hid (∀ Bc b,(∀ p∈Bc,p.2.Ok)→∀ z∈insI (accB code (pre.map (·.1))) ++ insI (shiftP b Bc),z.Wf):=Lib.hid (fun Bc b h=>wf_of good.2.2 h)
    have HT:=Lib.hid ht
    have HBB:=Lib.hid hB
    clear good ht hB hB0 hI0 hlt hy32
    generalize insI (accB code (pre.map (·.1)))=BI at *
    generalize posI (accB code (pre.map (·.1)))=PI at *
    generalize (accB code (pre.map (·.1))).length=n0 at *
    generalize bunL code y.1=bun at HBL HBY HRB HEND HBAD
    generalize 32 * y.1=b at *
    gi_wp2
    gi_loopw [9] (fun i wr=>∃ (k:Nat) (Bc:List (Nat×InsV)) (v1 v2:Value),i=.int .i64 (k:Int)∧k≤32∧Hid (Come bun k Bc)∧Hid (RdT w.heap.size (.slice (some x) len cap) v1 v2 v1 v2 (n0+Bc.length) (n0+Bc.length) (PI ++ posI (shiftP b Bc)) (BI ++ insI (shiftP b Bc)) wr)∧Hid (Below w.heap.size w wr)∧Hid (KeepsOthers W wr)) (fun i _=>32 - (intOf i).toNat)
    case atStart=>exact ⟨0,[],u1,u2,rfl,by omega,Lib.hid (come_0 bun),Lib.hid (by simpa [shiftP,posI,insI] using HT.out),HBB,Lib.hid (KeepsOthers.refl W)⟩
    case round=>
      obtain ⟨k,Bc,v1,v2,rfl,hk,HC1,HT1,HB1,HK1⟩:=hrel
      by_cases hlt:k < 32
      · cases hr:rdB (bun.drop k)
        · have HR:Hid (Calls Tryz.prog 85 #[.slice (some (x.add b)) 32 (cap - b),.int .i64 k] wr fun e w'=>e=.returned (.tuple #[.agg #[.int .i64 0,.int .i64 0,.int .i64 0,.int .u32 0],.int .i64 0])∧Below wr.heap.size wr w'):=Lib.hid (by
            have:=Go.Proofs.YteefmjhemhlapaaGreat.Read_no bun (some (x.add b)) (cap - b) k (by rw [HBL.out];omega) (.inr (.inr (by rw [Int.toNat_natCast];exact hr))) wr (HRB.out wr HB1.out)
            rw [HBL.out] at this
            exact this)
          have HBD:=Lib.hid (HBAD.out k Bc HC1.out hlt hr)
          clear hr HBAD HEND HC1
          gi_wp2_with (refine ⟨trivial,?_⟩;gi_at_call 85;(with_reducible refine CallsIn.mono (CallsIn.inRound l (callsIn_wide.2 HR.out)) ?_);rintro e w5 ⟨rfl,hb5⟩;have T5:=Lib.hid ((HT1.out.below hb5).alloc (.cells #[.int .i64 0,.int .i64 0,.int .i64 0,.int .u32 0] 134));have B5:=Lib.hid (bel_al (bel_then HB1.out hb5) (.cells #[.int .i64 0,.int .i64 0,.int .i64 0,.int .u32 0] 134));have K5:=Lib.hid ((HK1.out.trans (keeps_below hb5)).trans (KeepsOthers.alloc w5 (.cells #[.int .i64 0,.int .i64 0,.int .i64 0,.int .u32 0] 134)));clear hb5;have d0:=T5.out.r0.cell;have d1:=T5.out.r1.cell;have d2:=T5.out.r2.cell;have f0:=T5.out.r0.frozen;have f1:=T5.out.r1.frozen;have f2:=T5.out.r2.frozen)
          exact ⟨(((K5.out.trans (KeepsOthers.setCell _ _ _)).trans (KeepsOthers.setCell _ _ _)).trans (KeepsOthers.setCell _ _ _)).from _,
            ⟨⟨rfl,HBD.out⟩,boxed_other (boxed_other (T5.out.r0.set _) (by omega) _) (by omega) _,boxed_other ((boxed_other T5.out.r1 (by omega) _).set _) (by omega) _,(boxed_other (boxed_other T5.out.r2 (by omega) _) (by omega) _).set _⟩,
            ((B5.out.setCell (p:=⟨w.heap.size,0,none⟩) (Nat.le_refl _) _).setCell (p:=⟨w.heap.size+1,0,none⟩) (Nat.le_add_right _ 1) _).setCell (p:=⟨w.heap.size+2,0,none⟩) (Nat.le_add_right _ 2) _⟩
        · obtain ⟨hok,hn1,hcm⟩:=come_yes HBY.out HBL.out HC1.out hlt hr
          have hrd:=rd_xn hr
          have hnb:=hcm.1
          have HCM:=Lib.hid hcm
          have HOK:=Lib.hid hok
          clear hcm hok
          generalize rdX (bun.drop k)=yv at *
          generalize rdN (bun.drop k)=nn at *
          have HR:Hid (Calls Tryz.prog 85 #[.slice (some (x.add b)) 32 (cap - b),.int .i64 k] wr fun e w'=>e=.returned (.tuple #[.agg #[.int .i64 yv.op,.int .i64 yv.a,.int .i64 yv.b,.int .u32 yv.imm],.int .i64 nn])∧Below wr.heap.size wr w'):=Lib.hid (by
            have:=Go.Proofs.YteefmjhemhlapaaGreat.Read_yes bun (some (x.add b)) (cap - b) k yv.op yv.a yv.b yv.imm nn (by rw [HBL.out];omega) hrd wr (HRB.out wr HB1.out)
            rw [HBL.out] at this
            exact this)
          clear hrd hr HBAD HEND
          have hnz:((nn:Int) == 0)=false:=by simp;omega
          have hw:IntKind.i64.wrap ((b:Int)+(k:Int))=(b:Int)+(k:Int):=IntWalk.i64_in _ (by omega)
          have HWW:=Lib.hid hw
          clear hw
          gi_wp2_with (refine ⟨trivial,?_⟩;gi_at_call 85;(with_reducible refine CallsIn.mono (CallsIn.inRound l (callsIn_wide.2 HR.out)) ?_);rintro e w5 ⟨rfl,hb5⟩;have T5:=Lib.hid (HT1.out.below hb5);have B5:=Lib.hid (bel_then HB1.out hb5);have K5:=Lib.hid (HK1.out.trans (keeps_below hb5));clear hb5)
          refine region_add w.heap.size w5.heap.size (n0+Bc.length) b k (.slice (some x) len cap) v1 v2 (PI ++ posI (shiftP b Bc)) (BI ++ insI (shiftP b Bc)) yv _ _ _ _ _ _ _ _ _ _ _ _ _ _ _ _ _ _ _ _ _ _ _ _ _ _ _ _ _ _ _ _ _ _ _ _ _ _ _ _ _ _ _ (T5.out.alloc _) (Ins4.new w5 yv) (ok_wf HOK.out) (HWFA.out Bc b HC1.out.2.2.1) (by have:=HC1.out.2.1;omega) HWW.out ?_
          rintro y32 y33 y34 y35 y36 y37 y38 y39 y40 y41 A1 c1 A2 c2 w6 t6 b6 k6
          have T6:=Lib.hid t6
          have B6:=Lib.hid ((bel_al B5.out _).trans b6)
          have K6:=Lib.hid ((K5.out.trans (KeepsOthers.alloc _ _)).trans k6)
          clear t6 b6 k6
          gi_wp2
          have T7:=Lib.hid (show RdT w.heap.size (.slice (some x) len cap) (.slice A1 (n0+Bc.length+1) c1) (.slice A2 (n0+Bc.length+1) c2) (.slice A1 (n0+Bc.length+1) c1) (.slice A2 (n0+Bc.length+1) c2) (n0+(Bc ++ [(k,yv)]).length) (n0+(Bc ++ [(k,yv)]).length) (PI ++ posI (shiftP b (Bc ++ [(k,yv)]))) (BI ++ insI (shiftP b (Bc ++ [(k,yv)]))) w6 by
            have t:=T6.out
            rw [pos_snoc,ins_snoc] at t
            rw [List.length_append,List.length_singleton]
            exact t)
          exact ⟨⟨k+nn,Bc ++ [(k,yv)],.slice A1 (n0+Bc.length+1) c1,.slice A2 (n0+Bc.length+1) c2,by go_num,hnb,HCM,T7,B6,K6⟩,by simp [intOf];omega⟩
      · obtain rfl:k=32:=by omega
        clear HBAD
        gi_wp2
        obtain ⟨q1,q2,q3⟩:=HEND.out Bc wr HC1.out HK1.out HB1.out ⟨v1,v2,HT1.out⟩
        exact ⟨HK1.out.from _,q1,q2,q3⟩
  case done=>
    rintro D ys W hD hys ⟨⟨good,u1,u2,ht⟩,hB⟩ hK
    have hD6:w.heap.size+6≤D:=by simp at hD;omega
    have hsc:=acc_all R.out.2.2.1 (HL.out.trans HM.out) (fun k hk=>by
      obtain ⟨y,hy,rfl⟩:=List.mem_map.1 (show k∈ys.map (·.1) by rw [hys];exact List.mem_range.2 hk)
      exact good.1 y hy)
    obtain ⟨g1,g2,g3⟩:=good
    rw [hys] at ht g3
    generalize accB code (List.range m)=L at ht g3 hsc
    obtain ⟨e1,e2⟩:=scanE_0 ((sizeB_iff _).2 (by have:=HL.out;have:=HM.out;omega)) hsc
    have HWF:Hid (∀ x∈insI L,x.Wf):=Lib.hid (fun x hx=>by
      obtain ⟨p,hp,rfl⟩:=List.mem_map.1 hx
      exact ok_wf (g3 p hp))
    obtain ⟨A1,k1,rfl,j1,j2⟩:=int_of_own ht.o1
    obtain ⟨A2,k2,rfl,j3,j4⟩:=ins_of_own ht.o2 HWF.out
    clear j1 j2 j3 j4
    have DS:=Lib.hid (done_s ht HWF.out hB hD6 hK)
    have c1:=ht.b1.cell
    have c2:=ht.b2.cell
    have d0:=ht.r0.cell
    have d1:=ht.r1.cell
    have d2:=ht.r2.cell
    have f0:=ht.r0.frozen
    have f1:=ht.r1.frozen
    have f2:=ht.r2.frozen
    have HP:Hid (∀ w',IntRow w' A1 k1 (posI L)→InsRow w' A2 k2 (insI L)→Below w.heap.size w w'→ReadP w code (.returned (.tuple #[.slice A1 L.length k1,.slice A2 L.length k2,.int .i64 0])) w'):=
      Lib.hid (fun w' i1 i2 b=>⟨A1,k1,A2,k2,by rw [e1,e2],by rw [e2];exact i1,by rw [e2];exact i2,b⟩)
    clear hB0 hI0 ht hK hB hys hD g1 g2 g3 hsc e1 e2
    generalize L.length=n at *
    gi_wp2
    gi_region
    all_goals gi_wp2
    all_goals refine ⟨by simp,.inl ⟨_,_,rfl,run_takeDeferred DS.out.hK,?_⟩⟩
    all_goals have q0:=DS.out.c0
    all_goals have q1:=DS.out.c1
    all_goals have q2:=DS.out.c2
    all_goals exact ⟨.tuple #[.slice A1 n k1,.slice A2 n k2,.int .i64 0],by simp [results,Tryz.f124,go_sem,q0,q1,q2],HP.out _ DS.out.r1 DS.out.r2 DS.out.bel⟩
  case stop=>
    rintro D c pre W hD _ ⟨⟨⟨rfl,hbad⟩,hb0,hb1,hb2⟩,hB⟩ hK
    have hD6:w.heap.size+6≤D:=by simp at hD;omega
    obtain ⟨y,_,hy⟩:=hbad
    have hsc:=bun_no m code R.out.2.2.1 (HL.out.trans HM.out) ⟨y.1,y.2,hy⟩
    obtain ⟨e1,e2⟩:=scanE_2 ((sizeB_iff _).2 (by have:=HL.out;have:=HM.out;omega)) hsc
    have HP:Hid (∀ w',Below w.heap.size w w'→ReadP w code (.returned (.tuple #[.slice none 0 0,.slice none 0 0,.int .i64 2])) w'):=
      Lib.hid (fun w' b=>⟨none,0,none,0,by rw [e1,e2];rfl,by rw [e2];exact intRow_nil _,by rw [e2];exact insRow_nil _,b⟩)
    have SS:=Lib.hid (stop_s hb0 hb1 hb2 hB hD6 hK)
    have HK:=Lib.hid hK
    clear hB0 hI0 hB hK hb0 hb1 hb2 hD hsc e1 e2 hy
    gi_wp2
    refine ⟨by simp,.inl ⟨_,_,rfl,run_takeDeferred HK.out,?_⟩⟩
    have q0:=SS.out.c0
    have q1:=SS.out.c1
    have q2:=SS.out.c2
    exact ⟨.tuple #[.slice none 0 0,.slice none 0 0,.int .i64 2],by simp [results,Tryz.f124,go_sem,q0,q1,q2],HP.out _ SS.out.bel⟩
end Go.Proofs.YteefmjhemhlapaaGreat.Mm
namespace Go.Proofs.YteefmjhemhlapaaGreat.Mm
open Go.ChangeShapes Go.WideShapes Go.ChangeAt Go.RowKit
set_option linter.unusedVariables false
set_option maxRecDepth 10000
theorem read_any (A:Option Addr) (cap n:Nat) (code:List Int) (hn:code.length=n) (w:World) (r:RowAt w A cap code):Calls Tryz.prog 124 #[.slice A n cap] w (ReadP w code):=by
  subst hn
  cases h:sizeB code.length
  · exact read_size A cap code (by have:=r.1;have:=r.2.1;omega) h w
  · obtain ⟨h1,h2,h3⟩:=(sizeB_iff _).1 h
    obtain ⟨x,rfl,_⟩:=r.2.2.2 (by intro e;rw [e] at h1;simp at h1)
    exact read_main x cap (code.length / 32) code.length code rfl (by omega) (by omega) (by omega) w r
def StartsP (w:World) (code:List Int) (e:Ending) (w':World):Prop:=
  ∃ A c,e=.returned (.tuple #[.slice A (scanL code).length c,.int .i64 (scanE code)])∧IntRow w' A c (posI (scanL code))∧Below w.heap.size w w'
def ListP (w:World) (code:List Int) (e:Ending) (w':World):Prop:=
  ∃ A c,e=.returned (.tuple #[.slice A (scanL code).length c,.int .i64 (scanE code)])∧InsRow w' A c (insI (scanL code))∧Below w.heap.size w w'
theorem Starts_any (A:Option Addr) (cap n:Nat) (code:List Int) (hn:code.length=n) (w:World) (r:RowAt w A cap code):Calls Tryz.prog 106 #[.slice A n cap] w (StartsP w code):=by
  have C:=Lib.hid (read_any A cap n code hn w r)
  clear r hn
  go_enter Tryz.func106,Tryz.ntmps106
  go_wp2_with fail
  refine C.out.mono ?_
  rintro e w1 ⟨A1,c1,A2,c2,rfl,i1,i2,hb⟩
  have I1:=Lib.hid i1
  have HB:=Lib.hid hb
  clear i1 i2 hb
  go_wp2
  go_ret2
  exact ⟨A1,c1,rfl,I1.out,HB.out⟩
theorem Listing_any (A:Option Addr) (cap n:Nat) (code:List Int) (hn:code.length=n) (w:World) (r:RowAt w A cap code):Calls Tryz.prog 107 #[.slice A n cap] w (ListP w code):=by
  have C:=Lib.hid (read_any A cap n code hn w r)
  clear r hn
  go_enter Tryz.func107,Tryz.ntmps107
  go_wp2_with fail
  refine C.out.mono ?_
  rintro e w1 ⟨A1,c1,A2,c2,rfl,i1,i2,hb⟩
  have I2:=Lib.hid i2
  have HB:=Lib.hid hb
  clear i1 i2 hb
  go_wp2
  go_ret2
  exact ⟨A2,c2,rfl,I2.out,HB.out⟩
theorem has_set {w:World} {g:Nat} {t:TypeId} {cs:List Value} (h:HasB w g t cs) (i:Nat) (u:Value):HasB (w.setCell ⟨g,i,none⟩ u) g t (cs.set i u):=by
  unfold HasB at h ⊢
  simp [World.setCell,Array.getElem?_modify,h]
theorem made_rep (n:Nat) (v:Value) (h:v.cells=#[v]):madeCells v.cells n=(List.replicate n v).toArray:=by
  rw [h]
  apply Array.ext
  · rw [size_madeCells];simp
  · intro i h1 h2
    simp [madeCells,Nat.mod_one]
set_option maxRecDepth 100000 in
theorem make_32 (w:World) :
    (Instr.makeSlice 39 (.int .i64 32) (.int .i64 32)).run Tryz.prog w=.ok (.slice (some ⟨w.heap.size,0,none⟩) 32 32) (w.alloc (.cells ((List.replicate 32 (0:Int)).map (Value.int .u8)).toArray 5)):=by
  obtain ⟨i,hi,hz,hs,hb⟩:=info_parts u8_info
  have:=run_makeSlice (P:=Tryz.prog) w 39 5 i (.int .u8 0) Tryz.underlying39 hi hz .i64 .i64 32 32 (by omega) (by omega) (by rw [hs];omega) (by rw [hb];omega) (by omega)
  rw [hs,made_rep _ _ rfl] at this
  rw [List.map_replicate]
  exact this
end Go.Proofs.YteefmjhemhlapaaGreat.Mm
