/- Merged by wip/tools/regroup: StepMath, StepBase, StepFetch, StepReckon. -/
import Derived.Test.YteefmjhemhlapaaGreatVBaM
import Derived.Test.YteefmjhemhlapaaGreatVIsA
import Derived.Test.YteefmjhemhlapaaGreatVWordMath
import Derived.Test.YteefmjhemhlapaaGreatVMeA
import Derived.Test.YteefmjhemhlapaaGreatVWordWalks
import Derived.Test.YteefmjhemhlapaaGreatVMeR
import Derived.Laws.Rows
import Derived.Deep.WholeRow
import Derived.Deep.RegionHeld3
import Derived.RegionTactic
import Derived.ChangeAlike
import Derived.BigRegion
namespace Go.Proofs.YteefmjhemhlapaaGreat.Mm
open Go.RowKit
set_option linter.unusedVariables false
set_option maxRecDepth 10000
def U32 (x:Int):Prop:=0≤x∧x < 4294967296
theorem wrap_u (x:Int):U32 (IntKind.u32.wrap x):=by
  show 0≤x % 4294967296∧x % 4294967296 < 4294967296
  omega
structure Cp where
  pc:Int
  r:List Int
  b:Int
  s:Int
structure Cp.Ok (c:Cp):Prop where
  pc:U32 c.pc
  len:c.r.length=8
  r:∀ x∈c.r,U32 x
  b:U32 c.b
  s:U32 c.s
def Cp.cs (c:Cp):List Value:=.int .u32 c.pc :: (c.r.map (Value.int .u32) ++ [.int .u32 c.b,.int .u32 c.s])
def Cp.val (c:Cp):Value:=.agg c.cs.toArray
def Cp.reg (c:Cp) (i:Int):Int:=c.r.getD i.toNat 0
def Cp.setR (c:Cp) (i v:Int):Cp:={ c with r:=c.r.set i.toNat v }
def Cp.setPc (c:Cp) (v:Int):Cp:={ c with pc:=v }
section
variable {c:Cp}
theorem Cp.Ok.reg (o:c.Ok) (i:Int) (h0:0≤i) (h1:i≤7):U32 (c.reg i):=by
  unfold Cp.reg
  have h:i.toNat < c.r.length:=by rw [o.len];omega
  rw [show c.r.getD i.toNat 0=c.r[i.toNat] by simp [List.getD,List.getElem?_eq_getElem h]]
  exact o.r _ (List.getElem_mem h)
theorem Cp.Ok.setR (o:c.Ok) (i:Int) {v:Int} (hv:U32 v):(c.setR i v).Ok:=
  ⟨o.pc,by show (c.r.set _ _).length=8;rw [List.length_set];exact o.len,fun x hx=>by
    rcases List.mem_or_eq_of_mem_set hx with h | rfl
    · exact o.r x h
    · exact hv,o.b,o.s⟩
theorem Cp.Ok.setPc (o:c.Ok) {v:Int} (hv:U32 v):(c.setPc v).Ok:=⟨hv,o.len,o.r,o.b,o.s⟩
theorem Cp.Ok.eight (o:c.Ok):∃ r0 r1 r2 r3 r4 r5 r6 r7,c.r=[r0,r1,r2,r3,r4,r5,r6,r7]:=by
  obtain ⟨pc,r,b,s⟩:=c
  have h:=o.len
  simp only at h ⊢
  match r,h with
  | [r0,r1,r2,r3,r4,r5,r6,r7],_=>exact ⟨r0,r1,r2,r3,r4,r5,r6,r7,rfl⟩
theorem Cp.cs_pc:c.cs[0]?=some (.int .u32 c.pc):=rfl
theorem Cp.cs_reg (o:c.Ok) (i:Nat) (h:i < 8):c.cs[1+i]?=some (.int .u32 (c.reg i)):=by
  unfold Cp.cs Cp.reg
  rw [show 1+i=i+1 by omega,List.getElem?_cons_succ,List.getElem?_append_left (by simp [o.len];omega),List.getElem?_map,List.getElem?_eq_getElem (by rw [o.len];exact h)]
  simp [List.getD,List.getElem?_eq_getElem (show i < c.r.length by rw [o.len];exact h)]
theorem Cp.cs_setR (o:c.Ok) (i:Nat) (h:i < 8) (v:Int):c.cs.set (1+i) (.int .u32 v)=(c.setR i v).cs:=by
  unfold Cp.cs Cp.setR
  rw [show 1+i=i+1 by omega,List.set_cons_succ,List.set_append_left _ _ (by simp [o.len];omega),Int.toNat_natCast]
  simp
theorem Cp.cs_setPc (v:Int):c.cs.set 0 (.int .u32 v)=(c.setPc v).cs:=rfl
end
def fet (T:List Bool) (pc:Int):Nat→Nat
  | 0=>0
  | n+1=>if wholeB T pc ((n+1:Nat):Int) then n+1 else fet T pc n
theorem fet_le (T:List Bool) (pc:Int) (n:Nat):fet T pc n≤n:=by
  induction n with
  | zero=>exact Nat.le_refl _
  | succ n ih=>unfold fet;split <;> omega
theorem fet_whole (T:List Bool) (pc:Int) (n:Nat) (h:0 < fet T pc n):wholeB T pc ((fet T pc n:Nat):Int)=true:=by
  induction n with
  | zero=>exact absurd h (Nat.lt_irrefl 0)
  | succ n ih=>
    unfold fet at h ⊢
    split
    · assumption
    · rename_i h';rw [if_neg h'] at h;exact ih h
def codeL (B:List Int) (T:List Bool) (pc:Int):List Int:=(B.drop pc.toNat).take (fet T pc 6)
theorem codeL_byte {B:List Int} (h:Bytes B) (T:List Bool) (pc:Int):Bytes (codeL B T pc):=take_byte (drop_byte h _) _
theorem codeL_le (B:List Int) (T:List Bool) (pc:Int):(codeL B T pc).length≤6:=by
  unfold codeL;rw [List.length_take];have:=fet_le T pc 6;omega
theorem codeL_len {B:List Int} {T:List Bool} (hl:B.length=64 * T.length) (pc:Int):(codeL B T pc).length=fet T pc 6:=by
  unfold codeL
  rw [List.length_take,List.length_drop]
  by_cases h:fet T pc 6=0
  · omega
  · have hw:=fet_whole T pc 6 (by omega)
    unfold wholeB at hw
    rw [Bool.and_eq_true,liesB_iff] at hw
    omega
def restV (v u:Int):Int:=if u=0 then 0 else v % u
theorem restV_bd (v u:Int) (hv:0≤v) (hv':v < 4294967296) (hu:0≤u):0≤restV v u∧restV v u < 4294967296:=by
  unfold restV
  split
  · omega
  · have h1:=Int.emod_nonneg v (show u≠0 by omega)
    have h2:=Int.emod_lt_of_pos v (show 0 < u by omega)
    rcases Int.lt_or_le v u with h | h
    · rw [Int.emod_eq_of_lt hv h] at *
      omega
    · omega
def codeV (b s v:Int):Int:=IntKind.u32.wrap (restV v (s / 2) - restV v (s / 2) % 32+b)
def dataV (b s v:Int):Int:=IntKind.u32.wrap (IntKind.u32.wrap (restV v (s / 2)+b)+s / 2)
structure Ou where
  c:Cp
  B:List Int
  what:Int
  gate:Int
def exec (c d:Cp) (B:List Int) (T:List Bool) (op a b imm:Int):Ou:=
  if op=0 then ⟨c,B,1,0⟩
  else if op=22 then ⟨d,B,2,imm⟩
  else if op=15 then (if wholeB T (c.reg b) 4 then ⟨d.setR a (v4 B (c.reg b).toNat),B,0,0⟩ else ⟨c,B,3,0⟩)
  else if op=16 then (if wholeB T (c.reg a) 4 then ⟨d,splice B (c.reg a).toNat (b4 (c.reg b)),0,0⟩ else ⟨c,B,3,0⟩)
  else if op=23 then ⟨d,B,0,0⟩
  else if op=1 then ⟨d.setR a imm,B,0,0⟩
  else if op=2 then ⟨d.setR a (c.reg b),B,0,0⟩
  else if op=17 then ⟨d.setR a (dataV c.b c.s (c.reg a)),B,0,0⟩
  else if op=18 then ⟨d.setR a (codeV c.b c.s (c.reg a)),B,0,0⟩
  else if op=19 then ⟨d.setPc (IntKind.u32.wrap (d.pc+imm)),B,0,0⟩
  else if op=20 then (if c.reg a=0 then ⟨d.setPc (IntKind.u32.wrap (d.pc+imm)),B,0,0⟩ else ⟨d,B,0,0⟩)
  else if op=21 then ⟨d.setPc (c.reg a),B,0,0⟩
  else if doK op (c.reg b) then ⟨d.setR a (doV op (c.reg a) (c.reg b)),B,0,0⟩ else ⟨c,B,4,0⟩
section
variable (c d:Cp) (B:List Int) (T:List Bool) (a b imm:Int)
theorem exec_0:exec c d B T 0 a b imm=⟨c,B,1,0⟩:=by unfold exec;rw [if_pos rfl]
theorem exec_22:exec c d B T 22 a b imm=⟨d,B,2,imm⟩:=by unfold exec;rw [if_neg (by decide),if_pos rfl]
theorem exec_15y (h:wholeB T (c.reg b) 4=true):exec c d B T 15 a b imm=⟨d.setR a (v4 B (c.reg b).toNat),B,0,0⟩:=by unfold exec;rw [if_neg (by decide),if_neg (by decide),if_pos rfl,if_pos h]
theorem exec_15n (h:wholeB T (c.reg b) 4=false):exec c d B T 15 a b imm=⟨c,B,3,0⟩:=by unfold exec;rw [if_neg (by decide),if_neg (by decide),if_pos rfl,if_neg (by rw [h];decide)]
theorem exec_16y (h:wholeB T (c.reg a) 4=true):exec c d B T 16 a b imm=⟨d,splice B (c.reg a).toNat (b4 (c.reg b)),0,0⟩:=by unfold exec;rw [if_neg (by decide),if_neg (by decide),if_neg (by decide),if_pos rfl,if_pos h]
theorem exec_16n (h:wholeB T (c.reg a) 4=false):exec c d B T 16 a b imm=⟨c,B,3,0⟩:=by unfold exec;rw [if_neg (by decide),if_neg (by decide),if_neg (by decide),if_pos rfl,if_neg (by rw [h];decide)]
theorem exec_23:exec c d B T 23 a b imm=⟨d,B,0,0⟩:=by unfold exec;(iterate 4 rw [if_neg (by decide)]);rw [if_pos rfl]
theorem exec_1:exec c d B T 1 a b imm=⟨d.setR a imm,B,0,0⟩:=by unfold exec;(iterate 5 rw [if_neg (by decide)]);rw [if_pos rfl]
theorem exec_2:exec c d B T 2 a b imm=⟨d.setR a (c.reg b),B,0,0⟩:=by unfold exec;(iterate 6 rw [if_neg (by decide)]);rw [if_pos rfl]
theorem exec_17:exec c d B T 17 a b imm=⟨d.setR a (dataV c.b c.s (c.reg a)),B,0,0⟩:=by unfold exec;(iterate 7 rw [if_neg (by decide)]);rw [if_pos rfl]
theorem exec_18:exec c d B T 18 a b imm=⟨d.setR a (codeV c.b c.s (c.reg a)),B,0,0⟩:=by unfold exec;(iterate 8 rw [if_neg (by decide)]);rw [if_pos rfl]
theorem exec_19:exec c d B T 19 a b imm=⟨d.setPc (IntKind.u32.wrap (d.pc+imm)),B,0,0⟩:=by unfold exec;(iterate 9 rw [if_neg (by decide)]);rw [if_pos rfl]
theorem exec_20y (h:c.reg a=0):exec c d B T 20 a b imm=⟨d.setPc (IntKind.u32.wrap (d.pc+imm)),B,0,0⟩:=by unfold exec;(iterate 10 rw [if_neg (by decide)]);rw [if_pos rfl,if_pos h]
theorem exec_20n (h:¬ c.reg a=0):exec c d B T 20 a b imm=⟨d,B,0,0⟩:=by unfold exec;(iterate 10 rw [if_neg (by decide)]);rw [if_pos rfl,if_neg h]
theorem exec_21:exec c d B T 21 a b imm=⟨d.setPc (c.reg a),B,0,0⟩:=by unfold exec;(iterate 11 rw [if_neg (by decide)]);rw [if_pos rfl]
theorem exec_y (op:Int) (ho:3≤op∧op≤14) (h:doK op (c.reg b)=true):exec c d B T op a b imm=⟨d.setR a (doV op (c.reg a) (c.reg b)),B,0,0⟩:=by unfold exec;(iterate 12 rw [if_neg (by omega)]);rw [if_pos h]
theorem exec_n (op:Int) (ho:3≤op∧op≤14) (h:doK op (c.reg b)=false):exec c d B T op a b imm=⟨c,B,4,0⟩:=by unfold exec;(iterate 12 rw [if_neg (by omega)]);rw [if_neg (by rw [h];decide)]
end
def StepIs (c:Cp) (B:List Int) (T:List Bool) (o:Ou):Prop:=
  (codeL B T c.pc=[]∧o=⟨c,B,3,0⟩)∨(codeL B T c.pc≠[]∧rdB (codeL B T c.pc)=false∧o=⟨c,B,5,0⟩) ∨
  (∃ op a b imm n,Rd (codeL B T c.pc) op a b imm n∧o=exec c (c.setPc (IntKind.u32.wrap (c.pc+n))) B T op a b imm)
theorem step_or (c:Cp) (B:List Int) (T:List Bool):∃ o,StepIs c B T o:=by
  by_cases h:codeL B T c.pc=[]
  · exact ⟨_,.inl ⟨h,rfl⟩⟩
  · rcases rd_or (codeL B T c.pc) with h' | ⟨op,a,b,imm,n,h'⟩
    · exact ⟨_,.inr (.inl ⟨h,h',rfl⟩)⟩
    · exact ⟨_,.inr (.inr ⟨op,a,b,imm,n,h',rfl⟩)⟩
theorem step_fun {c:Cp} {B:List Int} {T:List Bool} {o o':Ou} (h:StepIs c B T o) (h':StepIs c B T o'):o=o':=by
  rcases h with ⟨h1,rfl⟩ | ⟨h1,h2,rfl⟩ | ⟨op,a,b,imm,n,h1,rfl⟩ <;> rcases h' with ⟨k1,rfl⟩ | ⟨k1,k2,rfl⟩ | ⟨op',a',b',imm',n',k1,rfl⟩
  · rfl
  · exact absurd h1 k1
  · obtain ⟨_,t,e,_⟩:=k1;rw [h1] at e;cases e
  · exact absurd k1 h1
  · rfl
  · have:=k1.1;rw [h2] at this;cases this
  · obtain ⟨_,t,e,_⟩:=h1;rw [k1] at e;cases e
  · have:=h1.1;rw [k2] at this;cases this
  · obtain ⟨rfl,rfl,rfl,rfl,rfl⟩:=rd_fun h1 k1;rfl
theorem rd_bds {l:List Int} {op a b imm n:Int} (hl:Bytes l) (h:Rd l op a b imm n):(0≤op∧op≤23)∧(0≤a∧a≤7)∧(0≤b∧b≤7)∧U32 imm∧(1≤n∧n≤6):=by
  obtain ⟨h1,h2,h3,h4,h5,_,_⟩:=lay_of_rd l op a b imm n hl h
  obtain ⟨h6,h7⟩:=(rightB_iff _ _ _ _).1 h1
  have hs:=szO_bd op
  unfold fitsB at h7
  have h7:=of_decide_eq_true h7
  have ha:fA op≤7:=by unfold fA;split <;> decide
  have hb:fB op≤7:=by unfold fB;split <;> decide
  exact ⟨h6,by omega,by omega,⟨h2,h3⟩,by omega⟩
end Go.Proofs.YteefmjhemhlapaaGreat.Mm
namespace Go.Proofs.YteefmjhemhlapaaGreat.Mm
open Go.ChangeShapes Go.WideShapes Go.ChangeAt Go.RowKit
set_option linter.unusedVariables false
set_option maxRecDepth 10000
def Cpu11 (w:World) (g:Nat) (t:TypeId) (v0 v1 v2 v3 v4 v5 v6 v7 v8 v9 v10:Value) (w':World):Prop:=HasB w' g t [v0,v1,v2,v3,v4,v5,v6,v7,v8,v9,v10]∧Below w.heap.size w w'
section
variable {w:World} {g:Nat} {t:TypeId} {v0 v1 v2 v3 v4 v5 v6 v7 v8 v9 v10:Value} {v w':World}
theorem Cpu11.cells (k:Cpu11 w g t v0 v1 v2 v3 v4 v5 v6 v7 v8 v9 v10 w'):w'.cell? ⟨g,0,none⟩=some v0∧w'.cell? ⟨g,1,none⟩=some v1∧w'.cell? ⟨g,2,none⟩=some v2∧w'.cell? ⟨g,3,none⟩=some v3∧w'.cell? ⟨g,4,none⟩=some v4∧w'.cell? ⟨g,5,none⟩=some v5∧w'.cell? ⟨g,6,none⟩=some v6∧w'.cell? ⟨g,7,none⟩=some v7∧w'.cell? ⟨g,8,none⟩=some v8∧w'.cell? ⟨g,9,none⟩=some v9∧w'.cell? ⟨g,10,none⟩=some v10:=
  ⟨k.1.cell 0,k.1.cell 1,k.1.cell 2,k.1.cell 3,k.1.cell 4,k.1.cell 5,k.1.cell 6,k.1.cell 7,k.1.cell 8,k.1.cell 9,k.1.cell 10⟩
theorem Cpu11.below (k:Cpu11 w g t v0 v1 v2 v3 v4 v5 v6 v7 v8 v9 v10 v) (hb:Below v.heap.size v w'):Cpu11 w g t v0 v1 v2 v3 v4 v5 v6 v7 v8 v9 v10 w':=⟨k.1.below hb,bel_then k.2 hb⟩
theorem Cpu11.s (k:Cpu11 w g t v0 v1 v2 v3 v4 v5 v6 v7 v8 v9 v10 w'):(w'.cell? ⟨g,0,none⟩=some v0∧w'.cell? ⟨g,1,none⟩=some v1∧w'.cell? ⟨g,2,none⟩=some v2∧w'.cell? ⟨g,3,none⟩=some v3∧w'.cell? ⟨g,4,none⟩=some v4∧w'.cell? ⟨g,5,none⟩=some v5∧w'.cell? ⟨g,6,none⟩=some v6∧w'.cell? ⟨g,7,none⟩=some v7∧w'.cell? ⟨g,8,none⟩=some v8∧w'.cell? ⟨g,9,none⟩=some v9∧w'.cell? ⟨g,10,none⟩=some v10)∧Cpu11 w g t v0 v1 v2 v3 v4 v5 v6 v7 v8 v9 v10 w':=⟨k.cells,k⟩
theorem Cpu11.drew (k:Cpu11 w g t v0 v1 v2 v3 v4 v5 v6 v7 v8 v9 v10 v):Cpu11 w g t v0 v1 v2 v3 v4 v5 v6 v7 v8 v9 v10 v.drew:=k.below (Below.refl _ _).drew
theorem cpu11_keep {P:Prop} (k:P∧Cpu11 w g t v0 v1 v2 v3 v4 v5 v6 v7 v8 v9 v10 v) (hb:Below v.heap.size v w'):(w'.cell? ⟨g,0,none⟩=some v0∧w'.cell? ⟨g,1,none⟩=some v1∧w'.cell? ⟨g,2,none⟩=some v2∧w'.cell? ⟨g,3,none⟩=some v3∧w'.cell? ⟨g,4,none⟩=some v4∧w'.cell? ⟨g,5,none⟩=some v5∧w'.cell? ⟨g,6,none⟩=some v6∧w'.cell? ⟨g,7,none⟩=some v7∧w'.cell? ⟨g,8,none⟩=some v8∧w'.cell? ⟨g,9,none⟩=some v9∧w'.cell? ⟨g,10,none⟩=some v10)∧Cpu11 w g t v0 v1 v2 v3 v4 v5 v6 v7 v8 v9 v10 w':=(k.2.below hb).s
end
theorem half_any (v0 v1 v2 v3 v4 v5 v6 v7 v8 v9:Value) (s:Int) (hs:0≤s) (hs':s < 4294967296) (w:World) :
    Calls Tryz.prog 119 #[.agg #[v0,v1,v2,v3,v4,v5,v6,v7,v8,v9,.int .u32 s]] w fun e w'=>e=.returned (.int .u32 (s / 2))∧Below w.heap.size w w':=by
  go_enter Tryz.func119,Tryz.ntmps119
  go_wp2_with fail
  go_ret
  exact ⟨rfl,bel_al (Below.refl _ _) _⟩
theorem rest_any (v u:Int) (hv:0≤v) (hv':v < 4294967296) (hu:0≤u) (hu':u < 4294967296) (w:World) :
    Calls Tryz.prog 118 #[.int .u32 v,.int .u32 u] w fun e w'=>e=.returned (.int .u32 (restV v u))∧w=w':=by
  by_cases h0:u=0
  · subst h0
    go_enter Tryz.func118,Tryz.ntmps118
    go_wp2_with fail
    go_ret
    exact ⟨ret_int (by rfl),rfl⟩
  · have h1:(u == 0)=false:=by simpa using h0
    have e:restV v u=v % u:=by unfold restV;rw [if_neg h0]
    have E:=Lib.hid e;clear e
    go_enter Tryz.func118,Tryz.ntmps118
    go_wp2_with fail
    go_ret
    exact ⟨ret_int E.out.symm,rfl⟩
theorem rest_bel (v u:Int) (hv:0≤v) (hv':v < 4294967296) (hu:0≤u) (hu':u < 4294967296) (w:World) :
    Calls Tryz.prog 118 #[.int .u32 v,.int .u32 u] w fun e w'=>e=.returned (.int .u32 (restV v u))∧Below w.heap.size w w':=
  (rest_any v u hv hv' hu hu' w).mono fun e w' ⟨he,hw⟩=>⟨he,hw ▸ Below.refl _ _⟩
theorem Code_any (v0 v1 v2 v3 v4 v5 v6 v7 v8:Value) (v b s:Int) (hb:0≤b) (hb':b < 4294967296) (hs:0≤s) (hs':s < 4294967296) (hv:0≤v) (hv':v < 4294967296) (w:World) :
    Calls Tryz.prog 100 #[.agg #[v0,v1,v2,v3,v4,v5,v6,v7,v8,.int .u32 b,.int .u32 s],.int .u32 v] w fun e w'=>e=.returned (.int .u32 (codeV b s v))∧Below w.heap.size w w':=by
  have g0:0≤s / 2:=by omega
  have g1:s / 2 < 4294967296:=by omega
  obtain ⟨q0,q1⟩:=restV_bd v (s / 2) hv hv' g0
  have HN:=(HasB.new w 77 [v0,v1,v2,v3,v4,v5,v6,v7,v8,.int .u32 b,.int .u32 s])
  have HN:=Lib.hid HN
  go_enter Tryz.func100,Tryz.ntmps100
  go_wp2_with fail
  refine (half_any v0 v1 v2 v3 v4 v5 v6 v7 v8 _ s hs hs' _).mono ?_;rintro e w1 ⟨rfl,hb1⟩
  have c9:=(HN.out.below hb1).cell 9
  simp only [List.getElem?_cons_succ,List.getElem?_cons_zero] at c9
  have HB:=Lib.hid hb1;clear hb1
  go_wp2_with fail
  refine (rest_any v (s / 2) hv hv' g0 g1 _).mono ?_;rintro e w' ⟨rfl,rfl⟩
  go_wp2_with fail
  go_ret
  exact ⟨ret_int rfl,bel_then (bel_al (Below.refl _ _) _) HB.out⟩
set_option maxHeartbeats 4000000 in
theorem Data_any (v0 v1 v2 v3 v4 v5 v6 v7 v8:Value) (v b s:Int) (hb:0≤b) (hb':b < 4294967296) (hs:0≤s) (hs':s < 4294967296) (hv:0≤v) (hv':v < 4294967296) (w:World) :
    Calls Tryz.prog 99 #[.agg #[v0,v1,v2,v3,v4,v5,v6,v7,v8,.int .u32 b,.int .u32 s],.int .u32 v] w fun e w'=>e=.returned (.int .u32 (dataV b s v))∧Below w.heap.size w w':=by
  have g0:0≤s / 2:=by omega
  have g1:s / 2 < 4294967296:=by omega
  obtain ⟨q0,q1⟩:=restV_bd v (s / 2) hv hv' g0
  have K:Cpu11 w w.heap.size 77 v0 v1 v2 v3 v4 v5 v6 v7 v8 (.int .u32 b) (.int .u32 s) (w.alloc (.cells #[v0,v1,v2,v3,v4,v5,v6,v7,v8,.int .u32 b,.int .u32 s] 77)):=
    ⟨HasB.new w 77 [v0,v1,v2,v3,v4,v5,v6,v7,v8,.int .u32 b,.int .u32 s],bel_al (Below.refl _ _) _⟩
  have K:=Lib.hid K
  go_enter Tryz.func99,Tryz.ntmps99
  go_wp2_with fail
  generalize w.alloc (.cells #[v0,v1,v2,v3,v4,v5,v6,v7,v8,.int .u32 b,.int .u32 s] 77)=W at *
  go_region_held3 (fun w'=>(w'.cell? ⟨w.heap.size,0,none⟩=some v0∧w'.cell? ⟨w.heap.size,1,none⟩=some v1∧w'.cell? ⟨w.heap.size,2,none⟩=some v2∧w'.cell? ⟨w.heap.size,3,none⟩=some v3∧w'.cell? ⟨w.heap.size,4,none⟩=some v4∧w'.cell? ⟨w.heap.size,5,none⟩=some v5∧w'.cell? ⟨w.heap.size,6,none⟩=some v6∧w'.cell? ⟨w.heap.size,7,none⟩=some v7∧w'.cell? ⟨w.heap.size,8,none⟩=some v8∧w'.cell? ⟨w.heap.size,9,none⟩=some (.int .u32 b)∧w'.cell? ⟨w.heap.size,10,none⟩=some (.int .u32 s))∧Cpu11 w w.heap.size 77 v0 v1 v2 v3 v4 v5 v6 v7 v8 (.int .u32 b) (.int .u32 s) w')
    (first | exact Cpu11.s K.out | exact Cpu11.s (Cpu11.drew K.out) | exact cpu11_keep ‹_∧Cpu11 _ _ _ _ _ _ _ _ _ _ _ _ _ _ _› hb)
    (first | (go_at_call 119;(with_reducible refine (half_any _ _ _ _ _ _ _ _ _ _ s hs hs' _).mono ?_);rintro e w' ⟨rfl,hb⟩) | (go_at_call 118;(with_reducible refine (rest_bel v (s / 2) hv hv' g0 g1 _).mono ?_);rintro e w' ⟨rfl,hb⟩))
  rename_i hh
  have HB:=Lib.hid hh.2.2;clear hh
  go_wp2_with fail
  go_ret
  exact ⟨ret_int rfl,HB.out⟩
end Go.Proofs.YteefmjhemhlapaaGreat.Mm
namespace Go.Proofs.YteefmjhemhlapaaGreat.Mm
open Go.ChangeShapes Go.WideShapes Go.ChangeAt Go.RowKit
set_option linter.unusedVariables false
set_option maxRecDepth 10000
def FetP (w:World) (l:List Int) (e:Ending) (w':World):Prop:=∃ A cap,e=.returned (.slice A l.length cap)∧RowAt w' A cap l∧Below w.heap.size w w'
theorem fet_succ_n {T:List Bool} {a:Int} {k:Nat} (h:wholeB T a ((k+1:Nat):Int)=false):fet T a (k+1)=fet T a k:=by
  show (if wholeB T a ((k+1:Nat):Int) then k+1 else fet T a k)=fet T a k
  rw [h];rfl
theorem fet_succ_y {T:List Bool} {a:Int} {k:Nat} (h:wholeB T a ((k+1:Nat):Int)=true):fet T a (k+1)=k+1:=by
  show (if wholeB T a ((k+1:Nat):Int) then k+1 else fet T a k)=k+1
  rw [h];rfl
set_option maxHeartbeats 4000000 in
theorem fetch_any {w:World} {p g h:Nat} {B:List Int} {T:List Bool} (m:MemAt w p g h B T) (a:Int) (h0:0≤a) (h1:a < 4294967296) :
    Calls Tryz.prog 84 #[.pointer (some ⟨p,0,none⟩),.int .u32 a] w (FetP w (codeL B T a)):=by
  have M:=Lib.hid m;clear m
  go_enter Tryz.func84,Tryz.ntmps84
  go_wp2_with fail
  go_loop [5] (fun n=>∃ k:Nat,k≤6∧n=.int .i64 k∧Hid (fet T a 6=fet T a k)) (fun n=>(intOf n).toNat)
  case atStart=>exact ⟨6,by decide,rfl,Lib.hid rfl⟩
  case round=>
    obtain ⟨k,hk,rfl,hf⟩:=hrel
    cases k with
    | zero=>
      go_wp2_with fail
      go_ret
      have e:codeL B T a=[]:=by unfold codeL;rw [hf.out];rfl
      rw [e]
      exact ⟨none,0,rfl,⟨Nat.le_refl _,Nat.zero_le _,fun x hx=>absurd hx (by simp),fun h=>absurd rfl h⟩,Below.refl _ _⟩
    | succ k=>
      have k0:(0:Int) < (((k+1:Nat):Int)):=by omega
      have k6:(((k+1:Nat):Int))≤6:=by omega
      cases hw:wholeB T a ((k+1:Nat):Int)
      · have F:=Lib.hid (hf.out.trans (fet_succ_n hw))
        have CR:=Lib.hid (read_no M.out a ((k+1:Nat):Int) (by omega) hw)
        clear hw hf
        generalize hK:((k+1:Nat):Int)=K at *
        have HK:=Lib.hid hK;clear hK
        have kd:decide (0 < K)=true:=decide_eq_true k0
        go_wp2_with fail
        refine CR.out.mono ?_;rintro e w' ⟨rfl,rfl⟩
        go_wp2_with fail
        go_round
        case rel=>exact ⟨k,by omega,by rw [show K - 1=(k:Int) by have:=HK.out;omega],F⟩
        case measure=>simp [intOf];have:=HK.out;omega
      · have F:=Lib.hid (hf.out.trans (fet_succ_y hw))
        have CR:=Lib.hid (read_i M.out a ((k+1:Nat):Int) hw)
        have HW:=Lib.hid hw
        clear hw hf
        generalize hK:((k+1:Nat):Int)=K at *
        have HK:=Lib.hid hK;clear hK
        have kd:decide (0 < K)=true:=decide_eq_true k0
        go_wp2_with fail
        refine CR.out.mono ?_;rintro e w2 ⟨rfl,hr,hb⟩
        have R:=Lib.hid hr
        have HB:=Lib.hid hb
        clear hr hb
        go_wp2_with fail
        go_ret
        have hKn:K.toNat=k+1:=by have:=HK.out;omega
        have hl:(codeL B T a).length=k+1:=by rw [codeL_len M.out.len,F.out]
        have R':=R.out
        rw [hKn] at R' ⊢
        have e:(B.drop a.toNat).take (k+1)=codeL B T a:=by unfold codeL;rw [F.out]
        rw [e] at R'
        refine ⟨some ⟨w.heap.size,0,none⟩,k+1,by rw [hl];rfl,?_,HB.out⟩
        have:=row_blk (codeL_byte M.out.byte T a) (by rw [hl];unfold maxLen;omega) R'
        rwa [hl] at this
end Go.Proofs.YteefmjhemhlapaaGreat.Mm
namespace Go.Proofs.YteefmjhemhlapaaGreat.Mm
open Go.ChangeShapes Go.WideShapes Go.ChangeAt Go.RowKit
set_option linter.unusedVariables false
set_option maxRecDepth 10000
theorem quiet_w {P:Program} {f:FuncId} {args:Array Value} {w:World} {n:Nat} {v:Value}
    (h:Calls P f args (w.drewN n) fun e w'=>e=.returned v∧w.drewN n=w'):Calls P f args (w.drewN n) fun e w''=>e=.returned v∧∃ m,w''=w.drewN m:=
  h.mono fun _ _ ⟨he,hm⟩=>⟨he,n,hm.symm⟩
theorem chg_new {g h:Nat} {W w:World} (c:Chg g h W w) (b:Nat) (hb:W.heap.size≤b) (i:Nat) (u:Value):Chg g h W (w.setCell ⟨b,i,none⟩ u):=
  ⟨c.os,c.tape,c.output,by simpa using c.size,fun k hk h1 h2=>(Below.heap_setCell _ _ _ _ (by show k≠b;omega)).trans (c.block k hk h1 h2)⟩
theorem boxed {w:World} {X:Nat} {t:TypeId} {cs:List Value} (hX:HasB w X t cs) (op a b imm:Int) (n:Nat) :
    ∃ W1,(((w.alloc (.cells #[.int .i64 op,.int .i64 a,.int .i64 b,.int .u32 imm] 134)).alloc (.cells #[.int .i64 0,.int .i64 0] 137)).drewN n)=W1∧HasB W1 X t cs∧HasB W1 w.heap.size 134 [.int .i64 op,.int .i64 a,.int .i64 b,.int .u32 imm]∧HasB W1 (w.heap.size+1) 137 [.int .i64 0,.int .i64 0]∧Below w.heap.size w W1:=
  ⟨_,rfl,(hX.al _).al _,(HasB.newAt w _ _ _ rfl).al _,HasB.newAt _ _ _ _ (by simp),below_drewN (bel_al (bel_al (Below.refl _ _) _) _) _⟩
set_option maxHeartbeats 4000000 in
theorem reckon_y {w:World} {X:Nat} {d:Cp} (o:d.Ok) (hX:HasB w X 77 d.cs) (op imm:Int) (a b:Nat) (ha:a < 8) (hb:b < 8) (ho:3≤op∧op≤14) (hk:doK op (d.reg b)=true) :
    Calls Tryz.prog 101 #[.pointer (some ⟨X,0,none⟩),.agg #[.int .i64 op,.int .i64 a,.int .i64 b,.int .u32 imm]] w fun e w'=>e=.returned (.agg #[.int .i64 0,.int .i64 0])∧HasB w' X 77 (d.setR a (doV op (d.reg a) (d.reg b))).cs∧Chg X X w w':=by
  have ca:=hX.cell (1+a)
  have cb:=hX.cell (1+b)
  rw [Cp.cs_reg o a ha] at ca
  rw [Cp.cs_reg o b hb] at cb
  obtain ⟨a0,a1⟩:=o.reg a (by omega) (by omega)
  obtain ⟨b0,b1⟩:=o.reg b (by omega) (by omega)
  have hl:=hX.lt
  have HX:=Lib.hid hX
  have CD:=fun w=>do_any op (d.reg a) (d.reg b) a0 a1 b0 b1 w
  replace CD:=Lib.hid CD
  clear hX
  have A0:(0:Int)≤(a:Int):=by omega
  have A1:(a:Int) < 8:=by omega
  have B0:(0:Int)≤(b:Int):=by omega
  have B1:(b:Int) < 8:=by omega
  generalize hra:d.reg a=ra at *
  generalize hrb:d.reg b=rb at *
  go_enter Tryz.func101,Tryz.ntmps101
  go_wp2_with fail
  go_quiet ((go_at_call 120;exact quiet_w (CD.out _)))
  obtain ⟨W1,e1,K1,K2,K3,K4⟩:=boxed HX.out op a b imm nq
  rw [e1]
  have c1:=K2.cell 1
  have f1:=K1.frozen (1+a)
  have s1:=(Cp.cs_reg o a ha)
  have c2:=K1.cell (1+a)
  rw [s1] at c2
  have o1:=K3.cell 0
  have o2:=K3.cell 1
  have p1:=K3.frozen 0
  have p2:=K3.frozen 1
  simp only [List.getElem?_cons_succ,List.getElem?_cons_zero] at c1 o1 o2
  have K1:=Lib.hid K1
  clear s1 e1
  go_wp2_with fail
  go_region
  all_goals go_wp2_with fail
  have hXO:X≠w.heap.size+1:=by omega
  refine bodyPost_ret (v:=.agg #[.int .i64 0,.int .i64 0]) (by simp [results,Tryz.results101,go_sem,o1,o2]) rfl ⟨rfl,?_,?_⟩
  · rw [← Cp.cs_setR o a ha]
    exact drew_has (has_far (has_far (has_set K1.out (1+a) _) hXO 0 _) hXO 1 _)
  · exact chg_drew (chg_new (chg_new (chg_set (Chg.of K4) X (.inl rfl) _ _) _ (by omega) _ _) _ (by omega) _ _)
set_option maxHeartbeats 4000000 in
theorem reckon_n {w:World} {X:Nat} {d:Cp} (o:d.Ok) (hX:HasB w X 77 d.cs) (op imm:Int) (a b:Nat) (ha:a < 8) (hb:b < 8) (ho:3≤op∧op≤14) (hk:doK op (d.reg b)=false) :
    Calls Tryz.prog 101 #[.pointer (some ⟨X,0,none⟩),.agg #[.int .i64 op,.int .i64 a,.int .i64 b,.int .u32 imm]] w fun e w'=>e=.returned (.agg #[.int .i64 4,.int .i64 0])∧Below w.heap.size w w':=by
  have ca:=hX.cell (1+a)
  have cb:=hX.cell (1+b)
  rw [Cp.cs_reg o a ha] at ca
  rw [Cp.cs_reg o b hb] at cb
  obtain ⟨a0,a1⟩:=o.reg a (by omega) (by omega)
  obtain ⟨b0,b1⟩:=o.reg b (by omega) (by omega)
  have hl:=hX.lt
  have HX:=Lib.hid hX
  have CD:=fun w=>do_any op (d.reg a) (d.reg b) a0 a1 b0 b1 w
  replace CD:=Lib.hid CD
  clear hX
  have A0:(0:Int)≤(a:Int):=by omega
  have A1:(a:Int) < 8:=by omega
  have B0:(0:Int)≤(b:Int):=by omega
  have B1:(b:Int) < 8:=by omega
  generalize hra:d.reg a=ra at *
  generalize hrb:d.reg b=rb at *
  go_enter Tryz.func101,Tryz.ntmps101
  go_wp2_with fail
  go_quiet ((go_at_call 120;exact quiet_w (CD.out _)))
  obtain ⟨W1,e1,K1,K2,K3,K4⟩:=boxed HX.out op a b imm nq
  rw [e1]
  have o1:=K3.cell 0
  have o2:=K3.cell 1
  have p1:=K3.frozen 0
  have p2:=K3.frozen 1
  simp only [List.getElem?_cons_succ,List.getElem?_cons_zero] at o1 o2
  clear e1
  go_wp2_with fail
  refine bodyPost_ret (v:=.agg #[.int .i64 4,.int .i64 0]) (by simp [results,Tryz.results101,go_sem,o1,o2]) rfl ⟨rfl,?_⟩
  exact ((K4.setCell (by simp) _).setCell (by simp) _)
set_option maxHeartbeats 4000000 in
theorem load_y {w:World} {X p g h:Nat} {B:List Int} {T:List Bool} {d:Cp} (m:MemAt w p g h B T) (o:d.Ok) (hX:HasB w X 77 d.cs) (imm:Int) (a b:Nat) (ha:a < 8) (hb:b < 8) (hk:wholeB T (d.reg b) 4=true) :
    Calls Tryz.prog 98 #[.pointer (some ⟨X,0,none⟩),.agg #[.int .i64 15,.int .i64 a,.int .i64 b,.int .u32 imm],.pointer (some ⟨p,0,none⟩)] w fun e w'=>e=.returned (.agg #[.int .i64 0,.int .i64 0])∧HasB w' X 77 (d.setR a (v4 B (d.reg b).toNat)).cs∧Chg X X w w':=by
  have cb:=hX.cell (1+b)
  rw [Cp.cs_reg o b hb] at cb
  obtain ⟨b0,b1⟩:=o.reg b (by omega) (by omega)
  have hl:=hX.lt
  have HX:=Lib.hid hX
  have bel:∀ n,Below w.heap.size w (((w.alloc (.cells #[.int .i64 15,.int .i64 a,.int .i64 b,.int .u32 imm] 134)).alloc (.cells #[.int .i64 0,.int .i64 0] 137)).drewN n):=fun n=>below_drewN (bel_al (bel_al (Below.refl _ _) _) _) n
  have CD:=fun n=>get_i (m.below (bel n)) (d.reg b) hk
  replace CD:=Lib.hid CD
  clear hX bel hk m
  have A0:(0:Int)≤(a:Int):=by omega
  have A1:(a:Int) < 8:=by omega
  have B0:(0:Int)≤(b:Int):=by omega
  have B1:(b:Int) < 8:=by omega
  generalize hrb:d.reg b=rb at *
  generalize hv:v4 B rb.toNat=v at *
  go_enter Tryz.func98,Tryz.ntmps98
  go_wp2_with fail
  go_quiet ((go_at_call 117;exact quiet_w (CD.out _)))
  obtain ⟨W1,e1,K1,K2,K3,K4⟩:=boxed HX.out 15 a b imm nq
  rw [e1]
  have c1:=K2.cell 1
  have f1:=K1.frozen (1+a)
  have c2:=K1.cell (1+a)
  rw [Cp.cs_reg o a ha] at c2
  have o1:=K3.cell 0
  have o2:=K3.cell 1
  have p1:=K3.frozen 0
  have p2:=K3.frozen 1
  simp only [List.getElem?_cons_succ,List.getElem?_cons_zero] at c1 o1 o2
  replace K1:=Lib.hid K1
  clear e1
  go_wp2_with fail
  go_region
  all_goals go_wp2_with fail
  have hXO:X≠w.heap.size+1:=by omega
  refine bodyPost_ret (v:=.agg #[.int .i64 0,.int .i64 0]) (by simp [results,Tryz.results98,go_sem,o1,o2]) rfl ⟨rfl,?_,?_⟩
  · rw [← Cp.cs_setR o a ha]
    exact drew_has (has_far (has_far (has_set K1.out (1+a) _) hXO 0 _) hXO 1 _)
  · exact chg_drew (chg_new (chg_new (chg_set (Chg.of K4) X (.inl rfl) _ _) _ (by omega) _ _) _ (by omega) _ _)
set_option maxHeartbeats 4000000 in
theorem load_n {w:World} {X p g h:Nat} {B:List Int} {T:List Bool} {d:Cp} (m:MemAt w p g h B T) (o:d.Ok) (hX:HasB w X 77 d.cs) (imm:Int) (a b:Nat) (ha:a < 8) (hb:b < 8) (hk:wholeB T (d.reg b) 4=false) :
    Calls Tryz.prog 98 #[.pointer (some ⟨X,0,none⟩),.agg #[.int .i64 15,.int .i64 a,.int .i64 b,.int .u32 imm],.pointer (some ⟨p,0,none⟩)] w fun e w'=>e=.returned (.agg #[.int .i64 3,.int .i64 0])∧Below w.heap.size w w':=by
  have cb:=hX.cell (1+b)
  rw [Cp.cs_reg o b hb] at cb
  obtain ⟨b0,b1⟩:=o.reg b (by omega) (by omega)
  have hl:=hX.lt
  have HX:=Lib.hid hX
  have bel:∀ n,Below w.heap.size w (((w.alloc (.cells #[.int .i64 15,.int .i64 a,.int .i64 b,.int .u32 imm] 134)).alloc (.cells #[.int .i64 0,.int .i64 0] 137)).drewN n):=fun n=>below_drewN (bel_al (bel_al (Below.refl _ _) _) _) n
  have CD:=fun n=>get_no (m.below (bel n)) (d.reg b) b0 b1 hk
  replace CD:=Lib.hid CD
  clear hX bel hk m
  have A0:(0:Int)≤(a:Int):=by omega
  have A1:(a:Int) < 8:=by omega
  have B0:(0:Int)≤(b:Int):=by omega
  have B1:(b:Int) < 8:=by omega
  generalize hrb:d.reg b=rb at *
  go_enter Tryz.func98,Tryz.ntmps98
  go_wp2_with fail
  go_quiet ((go_at_call 117;exact quiet_w (CD.out _)))
  obtain ⟨W1,e1,K1,K2,K3,K4⟩:=boxed HX.out 15 a b imm nq
  rw [e1]
  have o1:=K3.cell 0
  have o2:=K3.cell 1
  have p1:=K3.frozen 0
  have p2:=K3.frozen 1
  simp only [List.getElem?_cons_succ,List.getElem?_cons_zero] at o1 o2
  clear e1
  go_wp2_with fail
  refine bodyPost_ret (v:=.agg #[.int .i64 3,.int .i64 0]) (by simp [results,Tryz.results98,go_sem,o1,o2]) rfl ⟨rfl,?_⟩
  exact ((K4.setCell (by simp) _).setCell (by simp) _)
def TS (g X I O:Nat) (cs:List Value) (op a b imm:Int) (w:World):Prop:=
  HasB w X 77 cs∧HasB w I 134 [.int .i64 op,.int .i64 a,.int .i64 b,.int .u32 imm]∧HasB w O 137 [.int .i64 0,.int .i64 0]∧g≠X∧g≠I∧g≠O
theorem ts_chg {g X I O:Nat} {cs:List Value} {op a b imm:Int} {w w':World} (t:TS g X I O cs op a b imm w) (c:Chg g g w w'):TS g X I O cs op a b imm w':=
  ⟨t.1.chg c t.2.2.2.1.symm t.2.2.2.1.symm,t.2.1.chg c t.2.2.2.2.1.symm t.2.2.2.2.1.symm,t.2.2.1.chg c t.2.2.2.2.2.symm t.2.2.2.2.2.symm,t.2.2.2⟩
theorem ts_drew {g X I O:Nat} {cs:List Value} {op a b imm:Int} {w:World} (t:TS g X I O cs op a b imm w):TS g X I O cs op a b imm w.drew:=t
theorem ts_s {g X I O:Nat} {cs:List Value} {op imm:Int} {a b:Nat} {w:World} (t:TS g X I O cs op a b imm w) {ra rb:Value} (xa:cs[1+a]?=some ra) (xb:cs[1+b]?=some rb) :
    (w.cell? ⟨I,1,none⟩=some (.int .i64 a)∧w.cell? ⟨I,2,none⟩=some (.int .i64 b)∧w.cell? ⟨X,1+a,none⟩=some ra∧w.cell? ⟨X,1+b,none⟩=some rb)∧TS g X I O cs op a b imm w:=
  ⟨⟨t.2.1.cell 1,t.2.1.cell 2,(t.1.cell _).trans xa,(t.1.cell _).trans xb⟩,t⟩
theorem ts_keep {g X I O:Nat} {cs:List Value} {op imm:Int} {a b:Nat} {w w':World} {P:Prop} (k:P∧TS g X I O cs op a b imm w) (c:Chg g g w w') {ra rb:Value} (xa:cs[1+a]?=some ra) (xb:cs[1+b]?=some rb) :
    (w'.cell? ⟨I,1,none⟩=some (.int .i64 a)∧w'.cell? ⟨I,2,none⟩=some (.int .i64 b)∧w'.cell? ⟨X,1+a,none⟩=some ra∧w'.cell? ⟨X,1+b,none⟩=some rb)∧TS g X I O cs op a b imm w':=ts_s (ts_chg k.2 c) xa xb
set_option maxHeartbeats 4000000 in
theorem store_y {w:World} {X p g h:Nat} {B:List Int} {T:List Bool} {d:Cp} (m:MemAt w p g h B T) (o:d.Ok) (hX:HasB w X 77 d.cs) (imm:Int) (a b:Nat) (ha:a < 8) (hb:b < 8) (hk:wholeB T (d.reg a) 4=true) :
    Calls Tryz.prog 98 #[.pointer (some ⟨X,0,none⟩),.agg #[.int .i64 16,.int .i64 a,.int .i64 b,.int .u32 imm],.pointer (some ⟨p,0,none⟩)] w fun e w'=>e=.returned (.agg #[.int .i64 0,.int .i64 0])∧MemAt w' p g h (splice B (d.reg a).toNat (b4 (d.reg b))) T∧Chg g g w w':=by
  have xa:=Cp.cs_reg o a ha
  have xb:=Cp.cs_reg o b hb
  obtain ⟨a0,a1⟩:=o.reg a (by omega) (by omega)
  obtain ⟨b0,b1⟩:=o.reg b (by omega) (by omega)
  have hl:=hX.lt
  have HX:=Lib.hid hX
  have HM:=Lib.hid m
  have HK:=Lib.hid hk
  clear hX hk m
  have A0:(0:Int)≤(a:Int):=by omega
  have A1:(a:Int) < 8:=by omega
  have B0:(0:Int)≤(b:Int):=by omega
  have B1:(b:Int) < 8:=by omega
  generalize hra:d.reg a=ra at *
  generalize hrb:d.reg b=rb at *
  have XA:=Lib.hid xa
  have XB:=Lib.hid xb
  clear xa xb
  go_enter Tryz.func98,Tryz.ntmps98
  go_wp2_with fail
  obtain ⟨W1,e1,K1,K2,K3,K4⟩:=boxed HX.out 16 a b imm 0
  have e1:(w.alloc (.cells #[.int .i64 16,.int .i64 a,.int .i64 b,.int .u32 imm] 134)).alloc (.cells #[.int .i64 0,.int .i64 0] 137)=W1:=e1
  rw [e1]
  have TS0:=Lib.hid (show TS g X w.heap.size (w.heap.size+1) d.cs 16 a b imm W1 from ⟨K1,K2,K3,(HM.out.below K4).bytes.ne K1 (by decide),(HM.out.below K4).bytes.ne K2 (by decide),(HM.out.below K4).bytes.ne K3 (by decide)⟩)
  have M1:=Lib.hid (HM.out.below K4)
  have HK4:=Lib.hid K4
  clear e1 K1 K2 K3 K4
  generalize hI:w.heap.size=I at *
  have HI:=Lib.hid hI
  clear hI
  go_region_held3 (fun w'=>(w'.cell? ⟨I,1,none⟩=some (.int .i64 a)∧w'.cell? ⟨I,2,none⟩=some (.int .i64 b)∧w'.cell? ⟨X,1+a,none⟩=some (.int .u32 ra)∧w'.cell? ⟨X,1+b,none⟩=some (.int .u32 rb))∧TS g X I (I+1) d.cs 16 a b imm w')
    (first | exact ts_s TS0.out XA.out XB.out | exact ts_s (ts_drew TS0.out) XA.out XB.out | exact ts_keep ‹_∧TS _ _ _ _ _ _ _ _ _ _› sc XA.out XB.out)
    (first | (go_at_call 116;(with_reducible refine (put_yes (M1.out.below (Below.refl _ _).drew) ra rb a0 a1 b0 b1 HK.out).mono ?_);rintro e w' ⟨rfl,sm,sc⟩))
  rename_i hh
  have TS2:=Lib.hid hh.2
  have o1:=hh.2.2.2.1.cell 0
  have o2:=hh.2.2.2.1.cell 1
  have p1:=hh.2.2.2.1.frozen 0
  have p2:=hh.2.2.2.1.frozen 1
  simp only [List.getElem?_cons_succ,List.getElem?_cons_zero] at o1 o2
  clear hh
  go_wp2_with fail
  have hXO:X≠I+1:=by omega
  refine bodyPost_ret (v:=.agg #[.int .i64 0,.int .i64 0]) (by simp [results,Tryz.results98,go_sem,o1,o2]) rfl ⟨rfl,?_⟩
  have c0:Chg g g w _:=(Chg.of (HI.out.symm ▸ HK4.out)).trans ((Chg.of (Below.refl _ _).drew).trans sc)
  have c1:Chg (I+1) (I+1) w' ((w'.setCell ⟨I+1,0,none⟩ (.int .i64 0)).setCell ⟨I+1,1,none⟩ (.int .i64 0)):=chg_set (chg_set (Chg.refl _ _ _) _ (.inl rfl) _ _) _ (.inl rfl) _ _
  have n1:=sm.own.ne TS2.out.2.2.1 (by decide)
  have n2:=sm.bytes.ne TS2.out.2.2.1 (by decide)
  have n3:=sm.zones.ne TS2.out.2.2.1 (by decide)
  exact ⟨sm.chg c1 n1 n1 n2 n2 n3 n3,chg_new (chg_new c0 _ (by have:=HI.out;omega) _ _) _ (by have:=HI.out;omega) _ _⟩
set_option maxHeartbeats 4000000 in
theorem store_n {w:World} {X p g h:Nat} {B:List Int} {T:List Bool} {d:Cp} (m:MemAt w p g h B T) (o:d.Ok) (hX:HasB w X 77 d.cs) (imm:Int) (a b:Nat) (ha:a < 8) (hb:b < 8) (hk:wholeB T (d.reg a) 4=false) :
    Calls Tryz.prog 98 #[.pointer (some ⟨X,0,none⟩),.agg #[.int .i64 16,.int .i64 a,.int .i64 b,.int .u32 imm],.pointer (some ⟨p,0,none⟩)] w fun e w'=>e=.returned (.agg #[.int .i64 3,.int .i64 0])∧Below w.heap.size w w':=by
  have xa:=Cp.cs_reg o a ha
  have xb:=Cp.cs_reg o b hb
  obtain ⟨a0,a1⟩:=o.reg a (by omega) (by omega)
  obtain ⟨b0,b1⟩:=o.reg b (by omega) (by omega)
  have hl:=hX.lt
  have HX:=Lib.hid hX
  have HM:=Lib.hid m
  have HK:=Lib.hid hk
  clear hX hk m
  have A0:(0:Int)≤(a:Int):=by omega
  have A1:(a:Int) < 8:=by omega
  have B0:(0:Int)≤(b:Int):=by omega
  have B1:(b:Int) < 8:=by omega
  generalize hra:d.reg a=ra at *
  generalize hrb:d.reg b=rb at *
  have XA:=Lib.hid xa
  have XB:=Lib.hid xb
  clear xa xb
  go_enter Tryz.func98,Tryz.ntmps98
  go_wp2_with fail
  obtain ⟨W1,e1,K1,K2,K3,K4⟩:=boxed HX.out 16 a b imm 0
  have e1:(w.alloc (.cells #[.int .i64 16,.int .i64 a,.int .i64 b,.int .u32 imm] 134)).alloc (.cells #[.int .i64 0,.int .i64 0] 137)=W1:=e1
  rw [e1]
  have TS0:=Lib.hid (show TS g X w.heap.size (w.heap.size+1) d.cs 16 a b imm W1 from ⟨K1,K2,K3,(HM.out.below K4).bytes.ne K1 (by decide),(HM.out.below K4).bytes.ne K2 (by decide),(HM.out.below K4).bytes.ne K3 (by decide)⟩)
  have M1:=Lib.hid (HM.out.below K4)
  have HK4:=Lib.hid K4
  clear e1 K1 K2 K3 K4
  generalize hI:w.heap.size=I at *
  have HI:=Lib.hid hI
  clear hI
  go_region_held3 (fun w'=>(w'.cell? ⟨I,1,none⟩=some (.int .i64 a)∧w'.cell? ⟨I,2,none⟩=some (.int .i64 b)∧w'.cell? ⟨X,1+a,none⟩=some (.int .u32 ra)∧w'.cell? ⟨X,1+b,none⟩=some (.int .u32 rb))∧TS g X I (I+1) d.cs 16 a b imm w')
    (first | exact ts_s TS0.out XA.out XB.out | exact ts_s (ts_drew TS0.out) XA.out XB.out | exact ts_keep ‹_∧TS _ _ _ _ _ _ _ _ _ _› sc XA.out XB.out)
    (first | (go_at_call 116;(with_reducible refine (put_no (M1.out.below (Below.refl _ _).drew) ra rb a0 a1 b0 b1 HK.out).mono ?_);rintro e w' ⟨rfl,sb⟩;have sc:Chg g g _ w':=Chg.of sb))
  rename_i hh
  have TS2:=Lib.hid hh.2
  have o1:=hh.2.2.2.1.cell 0
  have o2:=hh.2.2.2.1.cell 1
  have p1:=hh.2.2.2.1.frozen 0
  have p2:=hh.2.2.2.1.frozen 1
  simp only [List.getElem?_cons_succ,List.getElem?_cons_zero] at o1 o2
  clear hh
  go_wp2_with fail
  have hXO:X≠I+1:=by omega
  refine bodyPost_ret (v:=.agg #[.int .i64 3,.int .i64 0]) (by simp [results,Tryz.results98,go_sem,o1,o2]) rfl ⟨rfl,?_⟩
  have c0:Below w.heap.size w w':=bel_then (HI.out.symm ▸ HK4.out) (bel_then (Below.refl _ _).drew sb)
  exact ((c0.setCell (by have:=HI.out;simp;omega) _).setCell (by have:=HI.out;simp;omega) _)
end Go.Proofs.YteefmjhemhlapaaGreat.Mm
