/- Merged by wip/tools/regroup: IsaReads, IsaReadAny, IsaBase. -/
import Derived.Test.YteefmjhemhlapaaGreatVIsA
import Derived.Deep.RegionWith
import Derived.Deep.RegionHeld3
namespace Go.Proofs.YteefmjhemhlapaaGreat
open Go.ChangeShapes Go.WideShapes Go.ChangeAt Go.RowKit
set_option linter.unusedVariables false
set_option maxRecDepth 10000
def noIns:Value:=.tuple #[.agg #[.int .i64 0,.int .i64 0,.int .i64 0,.int .u32 0],.int .i64 0]
theorem Read_out (l:List Int) (A:Option Addr) (cap:Nat) (k:Int) (hl:l.length≤20000) (h:k < 0∨(l.length:Int)≤k) (w:World) :
    Calls Tryz.prog 85 #[.slice A l.length cap,.int .i64 k] w fun e w'=>e=.returned noIns∧Below w.heap.size w w':=by
  by_cases hk:k < 0
  · go_enter Tryz.func85,Tryz.ntmps85
    go_wp2_with fail
    exact bodyPost_ret (v:=noIns) (by simp [results,Tryz.results85,go_sem];rfl) rfl ⟨rfl,bel_al (Below.refl _ _) _⟩
  · have hk0:0≤k:=by omega
    have hk1:(l.length:Int)≤k:=by omega
    go_enter Tryz.func85,Tryz.ntmps85
    go_wp2_with fail
    exact bodyPost_ret (v:=noIns) (by simp [results,Tryz.results85,go_sem];rfl) rfl ⟨rfl,bel_al (Below.refl _ _) _⟩
def Res (w:World) (g:Nat) (a b c d:Value):Prop:=
  g < w.heap.size∧(w.cell? ⟨g,0,none⟩=some a∧w.cell? ⟨g,1,none⟩=some b∧w.cell? ⟨g,2,none⟩=some c∧w.cell? ⟨g,3,none⟩=some d) ∧
    (w.frozen? ⟨g,0,none⟩=false∧w.frozen? ⟨g,1,none⟩=false∧w.frozen? ⟨g,2,none⟩=false∧w.frozen? ⟨g,3,none⟩=false)
theorem Res.new (w:World) (a b c d:Value) (T:TypeId):Res (w.alloc (.cells #[a,b,c,d] T)) w.heap.size a b c d:=by
  refine ⟨by simp,⟨by simp,by simp,by simp,by simp⟩,by simp,by simp,by simp,by simp⟩
theorem Res.below {w w':World} {g:Nat} {a b c d:Value} (h:Res w g a b c d) (hb:Below w.heap.size w w'):Res w' g a b c d:=by
  obtain ⟨h0,⟨h1,h2,h3,h4⟩,f1,f2,f3,f4⟩:=h
  have e:∀ j,w'.cell? ⟨g,j,none⟩=w.cell? ⟨g,j,none⟩:=fun j=>hb.cell (p:=⟨g,j,none⟩) h0
  have f:∀ j,w'.frozen? ⟨g,j,none⟩=w.frozen? ⟨g,j,none⟩:=fun j=>hb.frozen (p:=⟨g,j,none⟩) h0
  exact ⟨Nat.lt_of_lt_of_le h0 hb.size,⟨by rw [e,h1],by rw [e,h2],by rw [e,h3],by rw [e,h4]⟩,by rw [f,f1],by rw [f,f2],by rw [f,f3],by rw [f,f4]⟩
theorem Res.alloc {w:World} {g:Nat} {a b c d:Value} (h:Res w g a b c d) (o:Obj):Res (w.alloc o) g a b c d:=h.below (bel_al (Below.refl _ _) _)
theorem bel_set4 {w w':World} (h:Below w.heap.size w w') (a b c d:Value) :
    Below w.heap.size w ((((w'.setCell ⟨w.heap.size,0,none⟩ a).setCell ⟨w.heap.size,1,none⟩ b).setCell ⟨w.heap.size,2,none⟩ c).setCell ⟨w.heap.size,3,none⟩ d):=
  (((h.setCell (by simp) _).setCell (by simp) _).setCell (by simp) _).setCell (by simp) _
theorem below_drew1 {B:Nat} {w w':World} (h:Below B w w'):Below B w w'.drew:=⟨h.os,h.tape,h.output,h.size,h.block⟩
theorem Res.set_same {w:World} {g:Nat} {a b c d:Value} (h:Res w g a b c d) (a' b' c' d':Value) :
    Res ((((w.setCell ⟨g,0,none⟩ a').setCell ⟨g,1,none⟩ b').setCell ⟨g,2,none⟩ c').setCell ⟨g,3,none⟩ d') g a' b' c' d':=by
  obtain ⟨h0,⟨h1,h2,h3,h4⟩,f1,f2,f3,f4⟩:=h
  refine ⟨by simpa using h0,⟨by simp [go_sem,h1],by simp [go_sem,h2],by simp [go_sem,h3],by simp [go_sem,h4]⟩,by simpa using f1,by simpa using f2,by simpa using f3,by simpa using f4⟩
theorem Res.set_other {w:World} {g g':Nat} {a b c d:Value} (h:Res w g a b c d) (hne:g < g') (a' b' c' d':Value) :
    Res ((((w.setCell ⟨g',0,none⟩ a').setCell ⟨g',1,none⟩ b').setCell ⟨g',2,none⟩ c').setCell ⟨g',3,none⟩ d') g a b c d:=by
  have hb:Below (g+1) w ((((w.setCell ⟨g',0,none⟩ a').setCell ⟨g',1,none⟩ b').setCell ⟨g',2,none⟩ c').setCell ⟨g',3,none⟩ d'):=
    ((((Below.refl (g+1) w).setCell (by simp;omega) _).setCell (by simp;omega) _).setCell (by simp;omega) _).setCell (by simp;omega) _
  obtain ⟨h0,⟨h1,h2,h3,h4⟩,f1,f2,f3,f4⟩:=h
  have e:∀ j,_=w.cell? ⟨g,j,none⟩:=fun j=>hb.cell (p:=⟨g,j,none⟩) (by simp)
  have f:∀ j,_=w.frozen? ⟨g,j,none⟩:=fun j=>hb.frozen (p:=⟨g,j,none⟩) (by simp)
  exact ⟨Nat.lt_of_lt_of_le h0 hb.size,⟨by rw [e,h1],by rw [e,h2],by rw [e,h3],by rw [e,h4]⟩,by rw [f,f1],by rw [f,f2],by rw [f,f3],by rw [f,f4]⟩
theorem bel_set4' {w w':World} (h:Below w.heap.size w w') {g:Nat} (hg:w.heap.size≤g) (a b c d:Value) :
    Below w.heap.size w ((((w'.setCell ⟨g,0,none⟩ a).setCell ⟨g,1,none⟩ b).setCell ⟨g,2,none⟩ c).setCell ⟨g,3,none⟩ d):=
  (((h.setCell hg _).setCell hg _).setCell hg _).setCell hg _
theorem Res.drew {w:World} {g:Nat} {a b c d:Value} (h:Res w g a b c d):Res w.drew g a b c d:=h.below (below_drew1 (Below.refl _ _))
theorem res_of_drew {w2 w3:World} {a b c d:Value} {T:TypeId} (hb:Below (w2.alloc (.cells #[a,b,c,d] T)).drew.heap.size (w2.alloc (.cells #[a,b,c,d] T)).drew w3):Res w3 w2.heap.size a b c d:=by
  have h:=(Res.new w2 a b c d T).below (below_drew1 (Below.refl _ _))
  exact h.below hb
theorem Read_none (op fa fb fu fn:Int) (x:Addr) (len cap k:Nat) (hl:len≤20000) (hk:k < len) (h0:0≤op) (h1:op≤255) (w:World) (hx:x.block < w.heap.size) (hc:w.cell? (x.add k)=some (.int .u8 op))
    (c1:∀ w,Calls Tryz.prog 94 #[.int .i64 op] w fun e w'=>e=.returned (.tuple #[.agg #[.int .i64 fa,.int .i64 fb,.int .i64 fu,.int .i64 fn],.bool false])∧Below w.heap.size w w') :
    Calls Tryz.prog 85 #[.slice (some x) len cap,.int .i64 k] w fun e w'=>e=.returned noIns∧Below w.heap.size w w':=by
  have C1:=Lib.hid c1;clear c1
  have hkI:(k:Int) < (len:Int):=by omega
  have hck:(w.alloc (.cells #[.int .i64 0,.int .i64 0,.int .i64 0,.int .u32 0] 134)).cell? (x.add k)=some (.int .u8 op):=by
    rw [World.cell?_alloc_lt _ _ _ (by rw [block_add];exact hx)];exact hc
  clear hc
  go_enter Tryz.func85,Tryz.ntmps85
  go_wp2_with fail
  refine (C1.out _).mono ?_;rintro e w1 ⟨rfl,hb1⟩
  have HR:=(Res.new w _ _ _ _ _).below hb1
  obtain ⟨g0,⟨r1,r2,r3,r4⟩,f1,f2,f3,f4⟩:=HR
  have HB1:=Lib.hid hb1;clear hb1
  go_wp2_with fail
  refine bodyPost_ret (v:=noIns) (by simp [results,Tryz.results85,go_sem,r1,r2,r3,r4,g0];rfl) rfl ⟨rfl,?_⟩
  exact bel_al (bel_set4 (bel_then (bel_al (Below.refl _ _) _) HB1.out) _ _ _ _) _
theorem Read_short (op fa fb fu fn sz:Int) (x:Addr) (len cap k:Nat) (hl:len≤20000) (hk:k < len) (h0:0≤op) (h1:op≤255) (w:World) (hx:x.block < w.heap.size) (hc:w.cell? (x.add k)=some (.int .u8 op))
    (c1:∀ w,Calls Tryz.prog 94 #[.int .i64 op] w fun e w'=>e=.returned (.tuple #[.agg #[.int .i64 fa,.int .i64 fb,.int .i64 fu,.int .i64 fn],.bool true])∧Below w.heap.size w w')
    (c2:∀ w,Calls Tryz.prog 95 #[.agg #[.int .i64 fa,.int .i64 fb,.int .i64 fu,.int .i64 fn]] w fun e w'=>e=.returned (.int .i64 sz)∧Below w.heap.size w w')
    (hs:(len:Int) - k < sz) :
    Calls Tryz.prog 85 #[.slice (some x) len cap,.int .i64 k] w fun e w'=>e=.returned noIns∧Below w.heap.size w w':=by
  have C1:=Lib.hid c1;clear c1
  have C2:=Lib.hid c2;clear c2
  have hkI:(k:Int) < (len:Int):=by omega
  have hck:(w.alloc (.cells #[.int .i64 0,.int .i64 0,.int .i64 0,.int .u32 0] 134)).cell? (x.add k)=some (.int .u8 op):=by
    rw [World.cell?_alloc_lt _ _ _ (by rw [block_add];exact hx)];exact hc
  clear hc
  go_enter Tryz.func85,Tryz.ntmps85
  go_wp2_with fail
  refine (C1.out _).mono ?_;rintro e w1 ⟨rfl,hb1⟩
  have HR:=Lib.hid (((Res.new w _ _ _ _ _).below hb1).alloc (.cells #[.int .i64 fa,.int .i64 fb,.int .i64 fu,.int .i64 fn] 161))
  have HB1:=Lib.hid hb1;clear hb1
  go_wp2_with fail
  refine (C2.out _).mono ?_;rintro e w2 ⟨rfl,hb2⟩
  have HR2:=HR.out.below hb2
  obtain ⟨g0,⟨r1,r2,r3,r4⟩,f1,f2,f3,f4⟩:=HR2
  have HB2:=Lib.hid hb2;clear hb2
  go_wp2_with fail
  refine bodyPost_ret (v:=noIns) (by simp [results,Tryz.results85,go_sem,r1,r2,r3,r4];rfl) rfl ⟨rfl,?_⟩
  exact bel_set4 (bel_then (bel_al (bel_then (bel_al (Below.refl _ _) _) HB1.out) _) HB2.out) _ _ _ _
set_option maxHeartbeats 8000000 in
theorem Read_in2 (op fa fb fu sz a b imm:Int) (n:Nat) (x:Addr) (len cap k:Nat) (ok:Bool) (hl:len≤20000) (hk:k < len) (h0:0≤op) (h1:op≤255) (w:World) (hx:x.block < w.heap.size) (hc:w.cell? (x.add k)=some (.int .u8 op))
    (hcap:len≤cap) (hcc:cap≠k+1)
    (c1:∀ w,Calls Tryz.prog 94 #[.int .i64 op] w fun e w'=>e=.returned (.tuple #[.agg #[.int .i64 fa,.int .i64 fb,.int .i64 fu,.int .i64 n],.bool true])∧Below w.heap.size w w')
    (c2:∀ w,Calls Tryz.prog 95 #[.agg #[.int .i64 fa,.int .i64 fb,.int .i64 fu,.int .i64 n]] w fun e w'=>e=.returned (.int .i64 sz)∧Below w.heap.size w w')
    (c3:∀ w1,Below w.heap.size w w1→Calls Tryz.prog 96 #[.agg #[.int .i64 fa,.int .i64 fb,.int .i64 fu,.int .i64 n],.int .i64 op,.slice (some ⟨x.block,x.off+(k+1),none⟩) (len - (k+1)) (cap - (k+1))] w1
      fun e w'=>e=.returned (.agg #[.int .i64 op,.int .i64 a,.int .i64 b,.int .u32 imm])∧Below w1.heap.size w1 w')
    (c4:∀ w,Calls Tryz.prog 97 #[.agg #[.int .i64 fa,.int .i64 fb,.int .i64 fu,.int .i64 n],.agg #[.int .i64 op,.int .i64 a,.int .i64 b,.int .u32 imm]] w
      fun e w'=>e=.returned (.bool ok)∧Below w.heap.size w w')
    (hs:sz≤(len:Int) - k) :
    Calls Tryz.prog 85 #[.slice (some x) len cap,.int .i64 k] w fun e w'=>e=.returned (if ok then .tuple #[.agg #[.int .i64 op,.int .i64 a,.int .i64 b,.int .u32 imm],.int .i64 sz] else noIns)∧Below w.heap.size w w':=by
  have C1:=Lib.hid c1;clear c1
  have C2:=Lib.hid c2;clear c2
  have C3:=Lib.hid c3;clear c3
  have C4:=Lib.hid c4;clear c4
  have hkI:(k:Int) < (len:Int):=by omega
  have hck:(w.alloc (.cells #[.int .i64 0,.int .i64 0,.int .i64 0,.int .u32 0] 134)).cell? (x.add k)=some (.int .u8 op):=by
    rw [World.cell?_alloc_lt _ _ _ (by rw [block_add];exact hx)];exact hc
  clear hc
  · go_enter Tryz.func85,Tryz.ntmps85
    go_wp2_with fail
    refine (C1.out _).mono ?_;rintro e w1 ⟨rfl,hb1⟩
    have HR:=Lib.hid (((Res.new w _ _ _ _ _).below hb1).alloc (.cells #[.int .i64 fa,.int .i64 fb,.int .i64 fu,.int .i64 n] 161))
    have HB1:=Lib.hid hb1;clear hb1
    go_wp2_with fail
    refine (C2.out _).mono ?_;rintro e w2 ⟨rfl,hb2⟩
    have HR2:=HR.out.below hb2
    have HF2:=(Res.new w1 _ _ _ _ _).below hb2
    have HB2:=Lib.hid (bel_then (bel_al (bel_then (bel_al (Below.refl w.heap.size w) _) HB1.out) _) hb2);clear hb2 HB1 HR
    go_wp2_with fail
    have HF:=Lib.hid HF2
    have HR:=Lib.hid HR2
    obtain ⟨g0,⟨r1,r2,r3,r4⟩,_⟩:=HF2
    clear HR2
    have e1:IntKind.i64.wrap ((k:Int)+1)=(k:Int)+1:=IntWalk.i64_in _ (by omega)
    have e2:(0:Int)≤(k:Int)+1:=by omega
    have e3:((k:Int)+1).toNat=k+1:=by omega
    have e4:(k:Int)+1≤(len:Int):=by omega
    go_region_with (go_at_call 96;refine (C3.out _ (by first | exact below_drew1 HB2.out | exact bel_al (below_drew1 HB2.out) _)).mono ?_;rintro e w3 ⟨rfl,hb3⟩;(first | (have HH:=res_of_drew hb3;obtain ⟨k0,⟨q1,q2,q3,q4⟩,p1,p2,p3,p4⟩:=HH) | skip))
    all_goals
      (first
        | (have HX:=Lib.hid (Res.set_same (res_of_drew hb3) (.int .i64 op) (.int .i64 a) (.int .i64 b) (.int .u32 imm))
           have HRX:=Lib.hid (((HR.out.alloc (.cells #[.int .i64 0,.int .i64 0,.int .i64 0,.int .u32 0] 134)).drew.below hb3).set_other HR.out.1 (.int .i64 op) (.int .i64 a) (.int .i64 b) (.int .u32 imm))
           have HFX:=Lib.hid (((HF.out.alloc (.cells #[.int .i64 0,.int .i64 0,.int .i64 0,.int .u32 0] 134)).drew.below hb3).set_other HF.out.1 (.int .i64 op) (.int .i64 a) (.int .i64 b) (.int .u32 imm))
           have HBX:=Lib.hid (bel_set4' (bel_then (below_drew1 (bel_al HB2.out (.cells #[.int .i64 0,.int .i64 0,.int .i64 0,.int .u32 0] 134))) hb3) HB2.out.size (.int .i64 op) (.int .i64 a) (.int .i64 b) (.int .u32 imm))
           clear hb3 k0 q1 q2 q3 q4 p1 p2 p3 p4 e1 e2 e3 e4 g0 r1 r2 r3 r4 HF HR HB2
           generalize w2.heap.size=gx at *
           generalize (((w3.setCell ⟨gx,0,none⟩ (.int .i64 op)).setCell ⟨gx,1,none⟩ (.int .i64 a)).setCell ⟨gx,2,none⟩ (.int .i64 b)).setCell ⟨gx,3,none⟩ (.int .u32 imm)=W at *)
        | (have HX:=Lib.hid (Res.new w3 (.int .i64 op) (.int .i64 a) (.int .i64 b) (.int .u32 imm) 134)
           have HRX:=Lib.hid ((HR.out.drew.below hb3).alloc (.cells #[.int .i64 op,.int .i64 a,.int .i64 b,.int .u32 imm] 134))
           have HFX:=Lib.hid ((HF.out.drew.below hb3).alloc (.cells #[.int .i64 op,.int .i64 a,.int .i64 b,.int .u32 imm] 134))
           have HBX:=Lib.hid (bel_al (bel_then (below_drew1 HB2.out) hb3) (.cells #[.int .i64 op,.int .i64 a,.int .i64 b,.int .u32 imm] 134))
           clear hb3 e1 e2 e3 e4 g0 r1 r2 r3 r4 HF HR HB2
           generalize w3.heap.size=gx at *
           generalize w3.alloc (.cells #[.int .i64 op,.int .i64 a,.int .i64 b,.int .u32 imm] 134)=W at *))
      have FX:=HX.out
      obtain ⟨x0,⟨x1,x2,x3,x4⟩,_⟩:=FX
      have FF:=HFX.out
      obtain ⟨y0,⟨y1,y2,y3,y4⟩,_⟩:=FF
      go_wp2_with fail
      refine (C4.out _).mono ?_;rintro e w4 ⟨rfl,hb4⟩
      clear x0 x1 x2 x3 x4 y0 y1 y2 y3 y4
      have HR4:=Lib.hid (HRX.out.below hb4)
      have HX4:=Lib.hid (HX.out.below hb4)
      have HF4:=Lib.hid (HFX.out.below hb4)
      have HB4:=Lib.hid (bel_then HBX.out hb4)
      clear hb4 HRX HX HFX HBX C1 C3 C4
      cases ok
      · have FR:=HR4.out
        obtain ⟨g0,⟨r1,r2,r3,r4⟩,f1,f2,f3,f4⟩:=FR
        go_wp2_with fail
        refine bodyPost_ret (v:=noIns) (by simp [results,Tryz.results85,go_sem,r1,r2,r3,r4];rfl) rfl ⟨rfl,?_⟩
        exact bel_set4 HB4.out _ _ _ _
      · have FX:=HX4.out
        obtain ⟨x0,⟨x1,x2,x3,x4⟩,_⟩:=FX
        have FF:=HF4.out
        obtain ⟨y0,⟨y1,y2,y3,y4⟩,_⟩:=FF
        go_wp2_with fail
        go_region_with (go_at_call 95;refine (C2.out _).mono ?_;rintro e w5 ⟨rfl,hb5⟩;obtain ⟨g5,⟨r1,r2,r3,r4⟩,f1,f2,f3,f4⟩:=HR4.out.drew.below hb5;obtain ⟨k5,⟨q1,q2,q3,q4⟩,_⟩:=HX4.out.drew.below hb5)
        all_goals
          go_wp2_with fail
          refine bodyPost_ret (v:=.tuple #[.agg #[.int .i64 op,.int .i64 a,.int .i64 b,.int .u32 imm],.int .i64 sz]) (by simp [results,Tryz.results85,go_sem,r1,r2,r3,r4]) rfl ⟨rfl,?_⟩
          exact bel_set4 (bel_then (below_drew1 HB4.out) hb5) _ _ _ _
set_option maxHeartbeats 8000000 in
theorem Read_in1 (op fa fb fu sz a b imm:Int) (n:Nat) (x:Addr) (k:Nat) (ok:Bool) (hl:k+1≤20000) (h0:0≤op) (h1:op≤255) (w:World) (hx:x.block < w.heap.size) (hc:w.cell? (x.add k)=some (.int .u8 op))
    (c1:∀ w,Calls Tryz.prog 94 #[.int .i64 op] w fun e w'=>e=.returned (.tuple #[.agg #[.int .i64 fa,.int .i64 fb,.int .i64 fu,.int .i64 n],.bool true])∧Below w.heap.size w w')
    (c2:∀ w,Calls Tryz.prog 95 #[.agg #[.int .i64 fa,.int .i64 fb,.int .i64 fu,.int .i64 n]] w fun e w'=>e=.returned (.int .i64 sz)∧Below w.heap.size w w')
    (c3:∀ w1,Below w.heap.size w w1→Calls Tryz.prog 96 #[.agg #[.int .i64 fa,.int .i64 fb,.int .i64 fu,.int .i64 n],.int .i64 op,.slice (some x) 0 0] w1
      fun e w'=>e=.returned (.agg #[.int .i64 op,.int .i64 a,.int .i64 b,.int .u32 imm])∧Below w1.heap.size w1 w')
    (c4:∀ w,Calls Tryz.prog 97 #[.agg #[.int .i64 fa,.int .i64 fb,.int .i64 fu,.int .i64 n],.agg #[.int .i64 op,.int .i64 a,.int .i64 b,.int .u32 imm]] w
      fun e w'=>e=.returned (.bool ok)∧Below w.heap.size w w')
    (hs:sz≤1) :
    Calls Tryz.prog 85 #[.slice (some x) (k+1) (k+1),.int .i64 k] w fun e w'=>e=.returned (if ok then .tuple #[.agg #[.int .i64 op,.int .i64 a,.int .i64 b,.int .u32 imm],.int .i64 sz] else noIns)∧Below w.heap.size w w':=by
  have C1:=Lib.hid c1;clear c1
  have C2:=Lib.hid c2;clear c2
  have C3:=Lib.hid c3;clear c3
  have C4:=Lib.hid c4;clear c4
  have hck:(w.alloc (.cells #[.int .i64 0,.int .i64 0,.int .i64 0,.int .u32 0] 134)).cell? (x.add k)=some (.int .u8 op):=by
    rw [World.cell?_alloc_lt _ _ _ (by rw [block_add];exact hx)];exact hc
  clear hc
  · go_enter Tryz.func85,Tryz.ntmps85
    go_wp2_with fail
    refine (C1.out _).mono ?_;rintro e w1 ⟨rfl,hb1⟩
    have HR:=Lib.hid (((Res.new w _ _ _ _ _).below hb1).alloc (.cells #[.int .i64 fa,.int .i64 fb,.int .i64 fu,.int .i64 n] 161))
    have HB1:=Lib.hid hb1;clear hb1
    go_wp2_with fail
    refine (C2.out _).mono ?_;rintro e w2 ⟨rfl,hb2⟩
    have HR2:=HR.out.below hb2
    have HF2:=(Res.new w1 _ _ _ _ _).below hb2
    have HB2:=Lib.hid (bel_then (bel_al (bel_then (bel_al (Below.refl w.heap.size w) _) HB1.out) _) hb2);clear hb2 HB1 HR
    go_wp2_with fail
    have HF:=Lib.hid HF2
    have HR:=Lib.hid HR2
    obtain ⟨g0,⟨r1,r2,r3,r4⟩,_⟩:=HF2
    clear HR2
    have e1:IntKind.i64.wrap ((k:Int)+1)=(k:Int)+1:=IntWalk.i64_in _ (by omega)
    have e2:(0:Int)≤(k:Int)+1:=by omega
    have e3:((k:Int)+1).toNat=k+1:=by omega
    have e4:(k:Int)+1≤((k+1:Nat):Int):=by omega
    go_region_with (go_at_call 96;refine (C3.out _ (by first | exact below_drew1 HB2.out | exact bel_al (below_drew1 HB2.out) _)).mono ?_;rintro e w3 ⟨rfl,hb3⟩;(first | (have HH:=res_of_drew hb3;obtain ⟨k0,⟨q1,q2,q3,q4⟩,p1,p2,p3,p4⟩:=HH) | skip))
    all_goals
      (first
        | (have HX:=Lib.hid (Res.set_same (res_of_drew hb3) (.int .i64 op) (.int .i64 a) (.int .i64 b) (.int .u32 imm))
           have HRX:=Lib.hid (((HR.out.alloc (.cells #[.int .i64 0,.int .i64 0,.int .i64 0,.int .u32 0] 134)).drew.below hb3).set_other HR.out.1 (.int .i64 op) (.int .i64 a) (.int .i64 b) (.int .u32 imm))
           have HFX:=Lib.hid (((HF.out.alloc (.cells #[.int .i64 0,.int .i64 0,.int .i64 0,.int .u32 0] 134)).drew.below hb3).set_other HF.out.1 (.int .i64 op) (.int .i64 a) (.int .i64 b) (.int .u32 imm))
           have HBX:=Lib.hid (bel_set4' (bel_then (below_drew1 (bel_al HB2.out (.cells #[.int .i64 0,.int .i64 0,.int .i64 0,.int .u32 0] 134))) hb3) HB2.out.size (.int .i64 op) (.int .i64 a) (.int .i64 b) (.int .u32 imm))
           clear hb3 k0 q1 q2 q3 q4 p1 p2 p3 p4 e1 e2 e3 e4 g0 r1 r2 r3 r4 HF HR HB2
           generalize w2.heap.size=gx at *
           generalize (((w3.setCell ⟨gx,0,none⟩ (.int .i64 op)).setCell ⟨gx,1,none⟩ (.int .i64 a)).setCell ⟨gx,2,none⟩ (.int .i64 b)).setCell ⟨gx,3,none⟩ (.int .u32 imm)=W at *)
        | (have HX:=Lib.hid (Res.new w3 (.int .i64 op) (.int .i64 a) (.int .i64 b) (.int .u32 imm) 134)
           have HRX:=Lib.hid ((HR.out.drew.below hb3).alloc (.cells #[.int .i64 op,.int .i64 a,.int .i64 b,.int .u32 imm] 134))
           have HFX:=Lib.hid ((HF.out.drew.below hb3).alloc (.cells #[.int .i64 op,.int .i64 a,.int .i64 b,.int .u32 imm] 134))
           have HBX:=Lib.hid (bel_al (bel_then (below_drew1 HB2.out) hb3) (.cells #[.int .i64 op,.int .i64 a,.int .i64 b,.int .u32 imm] 134))
           clear hb3 e1 e2 e3 e4 g0 r1 r2 r3 r4 HF HR HB2
           generalize w3.heap.size=gx at *
           generalize w3.alloc (.cells #[.int .i64 op,.int .i64 a,.int .i64 b,.int .u32 imm] 134)=W at *))
      have FX:=HX.out
      obtain ⟨x0,⟨x1,x2,x3,x4⟩,_⟩:=FX
      have FF:=HFX.out
      obtain ⟨y0,⟨y1,y2,y3,y4⟩,_⟩:=FF
      go_wp2_with fail
      refine (C4.out _).mono ?_;rintro e w4 ⟨rfl,hb4⟩
      clear x0 x1 x2 x3 x4 y0 y1 y2 y3 y4
      have HR4:=Lib.hid (HRX.out.below hb4)
      have HX4:=Lib.hid (HX.out.below hb4)
      have HF4:=Lib.hid (HFX.out.below hb4)
      have HB4:=Lib.hid (bel_then HBX.out hb4)
      clear hb4 HRX HX HFX HBX C1 C3 C4
      cases ok
      · have FR:=HR4.out
        obtain ⟨g0,⟨r1,r2,r3,r4⟩,f1,f2,f3,f4⟩:=FR
        go_wp2_with fail
        refine bodyPost_ret (v:=noIns) (by simp [results,Tryz.results85,go_sem,r1,r2,r3,r4];rfl) rfl ⟨rfl,?_⟩
        exact bel_set4 HB4.out _ _ _ _
      · have FX:=HX4.out
        obtain ⟨x0,⟨x1,x2,x3,x4⟩,_⟩:=FX
        have FF:=HF4.out
        obtain ⟨y0,⟨y1,y2,y3,y4⟩,_⟩:=FF
        go_wp2_with fail
        go_region_with (go_at_call 95;refine (C2.out _).mono ?_;rintro e w5 ⟨rfl,hb5⟩;obtain ⟨g5,⟨r1,r2,r3,r4⟩,f1,f2,f3,f4⟩:=HR4.out.drew.below hb5;obtain ⟨k5,⟨q1,q2,q3,q4⟩,_⟩:=HX4.out.drew.below hb5)
        all_goals
          go_wp2_with fail
          refine bodyPost_ret (v:=.tuple #[.agg #[.int .i64 op,.int .i64 a,.int .i64 b,.int .u32 imm],.int .i64 sz]) (by simp [results,Tryz.results85,go_sem,r1,r2,r3,r4]) rfl ⟨rfl,?_⟩
          exact bel_set4 (bel_then (below_drew1 HB4.out) hb5) _ _ _ _
end Go.Proofs.YteefmjhemhlapaaGreat
namespace Go.Proofs.YteefmjhemhlapaaGreat
open Go.ChangeShapes Go.WideShapes Go.ChangeAt Go.RowKit
set_option linter.unusedVariables false
set_option maxRecDepth 10000
def insV (op a b imm n:Int):Value:=.tuple #[.agg #[.int .i64 op,.int .i64 a,.int .i64 b,.int .u32 imm],.int .i64 n]
theorem RowAt.below {w w1:World} {A:Option Addr} {cap:Nat} {l:List Int} (h:RowAt w A cap l) (hb:Below w.heap.size w w1):RowAt w1 A cap l:=by
  obtain ⟨h1,h2,h3,h4⟩:=h
  refine ⟨h1,h2,h3,fun hne=>?_⟩
  obtain ⟨x,rfl,hx,hc⟩:=h4 hne
  exact ⟨x,rfl,Nat.lt_of_lt_of_le hx hb.size,fun i hi=>by rw [hb.cell (p:=x.add i) (by rw [block_add];exact hx)];exact hc i hi⟩
theorem row_tail {w:World} {x:Addr} {cap k:Nat} {l:List Int} (h:RowAt w (some x) cap l) (hk:k < l.length) :
    RowAt w (some ⟨x.block,x.off+(k+1),none⟩) (cap - (k+1)) (l.drop (k+1)):=by
  obtain ⟨h1,h2,h3,h4⟩:=h
  obtain ⟨y,hy,hx,hc⟩:=h4 (by intro h;subst h;simp at hk)
  injection hy with hy;subst hy
  refine ⟨by rw [List.length_drop];omega,by omega,fun z hz=>h3 z (List.mem_of_mem_drop hz),fun _=>⟨_,rfl,hx,fun i hi=>?_⟩⟩
  rw [List.length_drop] at hi
  have e:(⟨x.block,x.off+(k+1),none⟩:Addr).add i=x.add (k+1+i):=by unfold Addr.add;by_cases h:i=0 <;> simp [h,Nat.add_assoc]
  rw [e,hc _ (by omega)]
  simp [List.getD,List.getElem?_drop]
theorem read_any (op:Int) (n:Nat) (hN:fN op=n) (t:List Int) (A:Option Addr) (cap:Nat) (w:World) (hr:RowAt w A cap t) (hs:szV (fU op) n≤(t.length:Int)+1) :
    Calls Tryz.prog 96 #[.agg #[.int .i64 (fA op),.int .i64 (fB op),.int .i64 (fU op),.int .i64 n],.int .i64 op,.slice A t.length cap] w
      fun e w'=>e=.returned (.agg #[.int .i64 op,.int .i64 (xA (fU op) t),.int .i64 (xB (fU op) t),.int .u32 (xI (fU op) n t)])∧Below w.heap.size w w':=by
  have F:=form_of op
  rw [hN] at F
  unfold Form at F
  unfold szV at hs
  by_cases hu:0 < fU op
  · rw [if_pos hu] at hs
    match t,hr,hs with
    | [],hr,hs=>simp at hs;omega
    | h :: t,hr,hs=>
      have e1:xA (fU op) (h :: t)=h / fU op:=by unfold xA;rw [if_pos hu];rfl
      have e2:xB (fU op) (h :: t)=h % fU op:=by unfold xB;rw [if_pos hu];rfl
      have e3:xI (fU op) n (h :: t)=numV (t.take n):=by unfold xI;rw [if_pos hu];rfl
      rw [e1,e2,e3]
      exact read_u _ _ _ op n hu (by omega) (by omega) h t A cap w hr (by simp at hs;omega)
  · rw [if_neg hu] at hs
    have e1:xA (fU op) t=0:=by unfold xA;rw [if_neg hu]
    have e2:xB (fU op) t=0:=by unfold xB;rw [if_neg hu]
    have e3:xI (fU op) n t=numV (t.take n):=by unfold xI;rw [if_neg hu];rfl
    rw [e1,e2,e3]
    exact read_0 _ _ _ op n hu (by omega) t A cap w hr (by omega)
theorem Read_at (l:List Int) (A:Option Addr) (cap k:Nat) (op:Int) (t:List Int) (hl:l.length≤20000) (hk:k < l.length) (hd:l.drop k=op :: t) (w:World) (hr:RowAt w A cap l) :
    Calls Tryz.prog 85 #[.slice A l.length cap,.int .i64 k] w
      fun e w'=>e=.returned (if rdB (op :: t) then insV op (xA (fU op) t) (xB (fU op) t) (xI (fU op) (fN op) t) (szO op) else noIns)∧Below w.heap.size w w':=by
  have hr0:=hr
  obtain ⟨h1,h2,h3,h4⟩:=hr
  obtain ⟨x,rfl,hx,hc⟩:=h4 (by intro h;subst h;simp at hk)
  have hop:l.getD k 0=op:=by
    have e:=List.drop_eq_getElem_cons hk
    rw [hd] at e
    injection e with e _
    simp [List.getD,List.getElem?_eq_getElem hk,e]
  have ht:t=l.drop (k+1):=by
    have e:=List.drop_eq_getElem_cons hk
    rw [hd] at e
    injection e
  have hck:=hc k hk
  have hbd:=row_byte h3 k hk
  rw [hop] at hck hbd
  have htl:t.length=l.length - (k+1):=by rw [ht,List.length_drop]
  have hf:=formOf_any op
  have F:=form_of op
  obtain ⟨z1,z2,n0,n1⟩:=szV_bd _ _ _ _ F
  obtain ⟨n,hn⟩:∃ n:Nat,fN op=n:=⟨(fN op).toNat,by omega⟩
  have hsz:=size_any (fA op) (fB op) (fU op) (fN op) n0 n1
  cases hK:fK op
  · have e:rdB (op :: t)=false:=by show (fK op && _)=false;rw [hK];rfl
    rw [e]
    rw [hK] at hf
    exact Read_none op _ _ _ _ x l.length cap k hl hk hbd.1 hbd.2 w hx hck hf
  · rw [hK] at hf
    have hO:szO op=szV (fU op) (fN op):=by unfold szO;rw [hK];rfl
    by_cases hs:szV (fU op) (fN op)≤(l.length:Int) - k
    · have hsl:szV (fU op) (fN op)≤(t.length:Int)+1:=by omega
      have hbt:Bytes t:=by rw [ht];exact fun z hz=>h3 z (List.mem_of_mem_drop hz)
      have himm:0≤xI (fU op) (fN op) t∧xI (fU op) (fN op) t < 4294967296:=(read_lay op _ _ _ _ t F hbt hsl).2
      have hft:=fits_any (fA op) (fB op) (fU op) (fN op) op (xA (fU op) t) (xB (fU op) t) (xI (fU op) (fN op) t) F himm.1 himm.2
      have e:rdB (op :: t)=fitsB (fA op) (fB op) (fN op) (xA (fU op) t) (xB (fU op) t) (xI (fU op) (fN op) t):=by
        show (fK op && (decide (szO op≤t.length+1) && _))=_
        rw [hK,hO,decide_eq_true hsl];rfl
      rw [e,hO]
      rw [hn] at hf hsz hft hs hsl ⊢
      by_cases hcap:cap=k+1
      · have hlen:l.length=k+1:=by omega
        have h0:t=[]:=List.eq_nil_of_length_eq_zero (by omega)
        rw [hcap,hlen]
        refine Read_in1 op _ _ _ _ _ _ _ n x k _ (by omega) hbd.1 hbd.2 w hx hck hf hsz (fun w1 hb=>?_) hft (by omega)
        have hrt:RowAt w1 (some x) 0 []:=⟨Nat.le_refl _,by omega,fun z hz=>by simp at hz,fun h=>absurd rfl h⟩
        have:=read_any op n hn [] (some x) 0 w1 hrt (by rw [h0] at hsl;exact hsl)
        rw [h0]
        exact this
      · refine Read_in2 op _ _ _ _ _ _ _ n x l.length cap k _ hl hk hbd.1 hbd.2 w hx hck h1 hcap hf hsz (fun w1 hb=>?_) hft hs
        have:=read_any op n hn t _ _ w1 (by rw [ht];exact (row_tail hr0 hk).below hb) hsl
        rw [htl] at this
        exact this
    · have e:rdB (op :: t)=false:=by
        show (fK op && (decide (szO op≤t.length+1) && _))=false
        rw [hK,hO,decide_eq_false (by omega)];rfl
      rw [e]
      exact Read_short op _ _ _ _ _ x l.length cap k hl hk hbd.1 hbd.2 w hx hck hf hsz (by omega)
theorem Read_yes (l:List Int) (A:Option Addr) (cap k:Nat) (op a b imm n:Int) (hl:l.length≤20000) (h:Rd (l.drop k) op a b imm n) (w:World) (hr:RowAt w A cap l) :
    Calls Tryz.prog 85 #[.slice A l.length cap,.int .i64 k] w fun e w'=>e=.returned (insV op a b imm n)∧Below w.heap.size w w':=by
  obtain ⟨h1,t,h2,rfl,rfl,rfl,rfl⟩:=h
  have hk:k < l.length:=by
    rcases Nat.lt_or_ge k l.length with h | h
    · exact h
    · rw [List.drop_eq_nil_of_le h] at h2;cases h2
  have:=Read_at l A cap k op t hl hk h2 w hr
  rw [h2] at h1
  rw [h1] at this
  exact this
theorem Read_no (l:List Int) (A:Option Addr) (cap:Nat) (k:Int) (hl:l.length≤20000) (h:k < 0∨(l.length:Int)≤k∨rdB (l.drop k.toNat)=false) (w:World) (hr:RowAt w A cap l) :
    Calls Tryz.prog 85 #[.slice A l.length cap,.int .i64 k] w fun e w'=>e=.returned (insV 0 0 0 0 0)∧Below w.heap.size w w':=by
  by_cases h0:k < 0
  · exact Read_out l A cap k hl (.inl h0) w
  by_cases h1:(l.length:Int)≤k
  · exact Read_out l A cap k hl (.inr h1) w
  · obtain ⟨j,rfl⟩:∃ j:Nat,k=j:=⟨k.toNat,by omega⟩
    have hj:j < l.length:=by omega
    have e:=List.drop_eq_getElem_cons hj
    have h':rdB (l.drop j)=false:=by
      rcases h with h | h | h
      · exact absurd h h0
      · exact absurd h h1
      · exact h
    have:=Read_at l A cap j _ _ hl hj e w hr
    rw [e] at h'
    rw [h'] at this
    exact this
end Go.Proofs.YteefmjhemhlapaaGreat
namespace Go.Proofs.YteefmjhemhlapaaGreat
open Go.ChangeShapes Go.WideShapes Go.ChangeAt Go.RowKit
set_option linter.unusedVariables false
set_option maxRecDepth 10000
def Two (w:World) (g h:Nat) (a b c d a' b' c' d':Value) (w':World):Prop:=Res w' g a b c d∧Res w' h a' b' c' d'∧Below w.heap.size w w'
theorem Two.of {w:World} {a b c d a' b' c' d':Value} {T T':TypeId} {w1:World} (hb:Below ((w.alloc (.cells #[a,b,c,d] T)).alloc (.cells #[a',b',c',d'] T')).heap.size ((w.alloc (.cells #[a,b,c,d] T)).alloc (.cells #[a',b',c',d'] T')) w1) :
    Two w w.heap.size (w.heap.size+1) a b c d a' b' c' d' w1:=by
  have HX:=((Res.new w a b c d T).alloc (.cells #[a',b',c',d'] T')).below hb
  have HY:=(Res.new (w.alloc (.cells #[a,b,c,d] T)) a' b' c' d' T').below hb
  rw [World.size_alloc] at HY
  exact ⟨HX,HY,bel_then (bel_al (bel_al (Below.refl _ _) _) _) hb⟩
end Go.Proofs.YteefmjhemhlapaaGreat
