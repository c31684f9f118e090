/- Merged by wip/tools/regroup: ScanMath, ScanPad, ScanReg, ScanRow, ScanBun, ScanIter, ScanState. -/
import Derived.Test.YteefmjhemhlapaaGreatVIsA
import Derived.Test.YteefmjhemhlapaaGreatVBaM
import Derived.OrdersHeld
import Derived.StillTail
import Derived.Deep.RegionHeld
import Derived.RangeFuncCalls
import Derived.OwnWalkIn
import Derived.RangeFuncBox
import Derived.RangeFuncLeaves
import Derived.RangeFuncNested
import Derived.WalkKit
import Derived.TacticsInMore
import Derived.LoopNIn
import Derived.LoopIn
namespace Go.Proofs.YteefmjhemhlapaaGreat.Mm
set_option linter.unusedVariables false
set_option maxRecDepth 10000
structure InsV where
  op:Int
  a:Int
  b:Int
  imm:Int
deriving DecidableEq
def InsV.right (x:InsV):Bool:=Go.Proofs.YteefmjhemhlapaaGreat.rightB x.op x.a x.b x.imm
def InsV.lay (x:InsV):List Int:=Go.Proofs.YteefmjhemhlapaaGreat.layL x.op x.a x.b x.imm
def nopI:InsV:=⟨23,0,0,0⟩
def InsV.Ok (x:InsV):Prop:=x.right=true∧0≤x.imm∧x.imm < 4294967296
def rdX:List Int→InsV
  | []=>⟨0,0,0,0⟩
  | op :: t=>if rdB (op :: t) then ⟨op,xA (fU op) t,xB (fU op) t,xI (fU op) (fN op) t⟩ else ⟨0,0,0,0⟩
def rdN:List Int→Nat
  | []=>0
  | op :: t=>if rdB (op :: t) then (szO op).toNat else 0
theorem rd_x {l:List Int} {op a b imm n:Int} (h:Rd l op a b imm n):rdX l=⟨op,a,b,imm⟩∧(rdN l:Int)=n:=by
  obtain ⟨h1,t,rfl,rfl,rfl,rfl,rfl⟩:=h
  have e1:rdX (op :: t)=⟨op,xA (fU op) t,xB (fU op) t,xI (fU op) (fN op) t⟩:=if_pos h1
  have e2:rdN (op :: t)=(szO op).toNat:=if_pos h1
  exact ⟨e1,by rw [e2];exact Int.toNat_of_nonneg (szO_bd op).1⟩
theorem rd_xn {l:List Int} (h:rdB l=true):Rd l (rdX l).op (rdX l).a (rdX l).b (rdX l).imm (rdN l):=by
  rcases rd_or l with h' | ⟨op,a,b,imm,n,h'⟩
  · rw [h] at h';cases h'
  · obtain ⟨e1,e2⟩:=rd_x h'
    rw [e1,e2];exact h'
theorem rd_facts {l:List Int} (hl:Go.Proofs.YteefmjhemhlapaaGreat.Bytes l) (h:rdB l=true):(rdX l).Ok∧1≤rdN l∧rdN l≤6∧rdN l≤l.length∧l.take (rdN l)=(rdX l).lay:=by
  obtain ⟨h1,h2,h3,h4,h5,h6,h7⟩:=lay_of_rd _ _ _ _ _ _ hl (rd_xn h)
  have:=szO_bd (rdX l).op
  refine ⟨⟨h1,h2,h3⟩,by omega,by omega,by omega,?_⟩
  rw [Int.toNat_natCast] at h7
  exact h7
theorem lay_len {x:InsV} (h:x.Ok):1≤x.lay.length∧x.lay.length≤6:=by
  have h1:=layL_len (op:=x.op) (a:=x.a) (b:=x.b) (imm:=x.imm) h.1
  have h2:=szO_pos ((rightB_iff _ _ _ _).1 h.1).1
  have h3:=szO_bd x.op
  unfold InsV.lay
  omega
theorem lay_byte (x:InsV):Go.Proofs.YteefmjhemhlapaaGreat.Bytes x.lay:=layL_byte _ _ _ _
theorem rd_lay {x:InsV} (h:x.Ok) (post:List Int):rdB (x.lay ++ post)=true∧rdX (x.lay ++ post)=x∧rdN (x.lay ++ post)=x.lay.length:=by
  have r:=rd_of_lay x.op x.a x.b x.imm h.1 h.2.1 post
  have h1:=layL_len (op:=x.op) (a:=x.a) (b:=x.b) (imm:=x.imm) h.1
  obtain ⟨e1,e2⟩:=rd_x r
  refine ⟨r.1,e1,?_⟩
  unfold InsV.lay
  omega
def okAt (code:List Int) (i:Nat):Bool:=rdB (code.drop i) && decide (i % 32+rdN (code.drop i)≤32)
def scanF (code:List Int):Nat→Nat→Option (List (Nat×InsV))
  | 0,_=>some []
  | f+1,i=>if i < code.length then (if okAt code i then (scanF code f (i+rdN (code.drop i))).map ((i,rdX (code.drop i)) :: ·) else none) else some []
def scanAt (code:List Int) (i:Nat):Option (List (Nat×InsV)):=scanF code (code.length - i) i
theorem ok_iff (code:List Int) (i:Nat):okAt code i=true↔rdB (code.drop i)=true∧i % 32+rdN (code.drop i)≤32:=by
  unfold okAt;rw [Bool.and_eq_true,decide_eq_true_iff]
theorem dropB {l:List Int} (h:Go.Proofs.YteefmjhemhlapaaGreat.Bytes l) (k:Nat):Go.Proofs.YteefmjhemhlapaaGreat.Bytes (l.drop k):=fun x hx=>h x (List.mem_of_mem_drop hx)
theorem scanF_enough (code:List Int) (hb:Go.Proofs.YteefmjhemhlapaaGreat.Bytes code):∀ (f g i:Nat),code.length - i≤f→code.length - i≤g→scanF code f i=scanF code g i:=by
  intro f
  induction f with
  | zero=>
    intro g i hf hg
    cases g with
    | zero=>rfl
    | succ g=>unfold scanF;rw [if_neg (by omega)]
  | succ f ih=>
    intro g i hf hg
    cases g with
    | zero=>unfold scanF;rw [if_neg (by omega)]
    | succ g=>
      unfold scanF
      by_cases h:i < code.length
      · rw [if_pos h,if_pos h]
        cases ho:okAt code i
        · rfl
        · have hn:=(rd_facts (dropB hb i) ((ok_iff _ _).1 ho).1).2.1
          rw [ih g (i+rdN (code.drop i)) (by omega) (by omega)]
      · rw [if_neg h,if_neg h]
theorem scan_end {code:List Int} {i:Nat} (h:code.length≤i):scanAt code i=some []:=by
  unfold scanAt
  rw [show code.length - i=0 by omega]
  rfl
theorem scan_no {code:List Int} {i:Nat} (h:i < code.length) (ho:okAt code i=false):scanAt code i=none:=by
  unfold scanAt
  obtain ⟨k,hk⟩:∃ k,code.length - i=k+1:=⟨code.length - i - 1,by omega⟩
  rw [hk]
  unfold scanF
  rw [if_pos h,ho]
  rfl
theorem scan_yes {code:List Int} (hb:Go.Proofs.YteefmjhemhlapaaGreat.Bytes code) {i:Nat} (h:i < code.length) (ho:okAt code i=true):scanAt code i=(scanAt code (i+rdN (code.drop i))).map ((i,rdX (code.drop i)) :: ·):=by
  have hn:=(rd_facts (dropB hb i) ((ok_iff _ _).1 ho).1).2.1
  unfold scanAt
  obtain ⟨k,hk⟩:∃ k,code.length - i=k+1:=⟨code.length - i - 1,by omega⟩
  rw [hk]
  conv=>lhs;unfold scanF
  rw [if_pos h,ho]
  simp only [if_true]
  rw [scanF_enough code hb k (code.length - (i+rdN (code.drop i))) _ (by omega) (Nat.le_refl _)]
def sizeB (n:Nat):Bool:=decide (32≤n∧n≤4096∧n % 32=0)
def scanE (code:List Int):Int:=if sizeB code.length=false then 4 else if (scanAt code 0).isNone then 2 else 0
def scanL (code:List Int):List (Nat×InsV):=if scanE code=0 then (scanAt code 0).getD [] else []
theorem sizeB_iff (n:Nat):sizeB n=true↔32≤n∧n≤4096∧n % 32=0:=by unfold sizeB;exact decide_eq_true_iff
theorem scanE_4 {code:List Int} (h:sizeB code.length=false):scanE code=4∧scanL code=[]:=by
  have e:scanE code=4:=by unfold scanE;rw [if_pos h]
  exact ⟨e,by unfold scanL;rw [e];rfl⟩
theorem scanE_2 {code:List Int} (h:sizeB code.length=true) (hn:scanAt code 0=none):scanE code=2∧scanL code=[]:=by
  have e:scanE code=2:=by unfold scanE;rw [if_neg (by rw [h];decide),hn];rfl
  exact ⟨e,by unfold scanL;rw [e];rfl⟩
theorem scanE_0 {code:List Int} {L:List (Nat×InsV)} (h:sizeB code.length=true) (hn:scanAt code 0=some L):scanE code=0∧scanL code=L:=by
  have e:scanE code=0:=by unfold scanE;rw [if_neg (by rw [h];decide),hn];rfl
  exact ⟨e,by unfold scanL;rw [e,hn];rfl⟩
theorem scan_cases (code:List Int):(sizeB code.length=false∧scanE code=4∧scanL code=[])∨(sizeB code.length=true∧scanAt code 0=none∧scanE code=2∧scanL code=[]) ∨
    (sizeB code.length=true∧∃ L,scanAt code 0=some L∧scanE code=0∧scanL code=L):=by
  cases h:sizeB code.length
  · exact .inl ⟨rfl,scanE_4 h⟩
  · cases hn:scanAt code 0 with
    | none=>exact .inr (.inl ⟨rfl,rfl,scanE_2 h hn⟩)
    | some L=>exact .inr (.inr ⟨rfl,L,rfl,scanE_0 h hn⟩)
def Covers (code:List Int):Nat→List (Nat×InsV)→Prop
  | i,[]=>code.length≤i
  | i,(j,x) :: t=>j=i∧i < code.length∧x.Ok∧i % 32+x.lay.length≤32∧(code.drop i).take x.lay.length=x.lay∧Covers code (i+x.lay.length) t
theorem rd_len {l:List Int} (hl:Go.Proofs.YteefmjhemhlapaaGreat.Bytes l) (h:rdB l=true):rdN l=(rdX l).lay.length:=by
  obtain ⟨_,_,_,h4,h5⟩:=rd_facts hl h
  rw [← h5,List.length_take];omega
theorem scan_covers {code:List Int} (hb:Go.Proofs.YteefmjhemhlapaaGreat.Bytes code):∀ (f i:Nat) (L:List (Nat×InsV)),code.length - i≤f→scanAt code i=some L→Covers code i L:=by
  intro f
  induction f with
  | zero=>
    intro i L hf h
    rw [scan_end (by omega)] at h
    injection h with h
    subst h
    show code.length≤i
    omega
  | succ f ih=>
    intro i L hf h
    by_cases hi:i < code.length
    · cases ho:okAt code i
      · rw [scan_no hi ho] at h;cases h
      · rw [scan_yes hb hi ho] at h
        obtain ⟨M,hM,hL⟩:=Option.map_eq_some_iff.1 h
        subst hL
        obtain ⟨h1,h2⟩:=(ok_iff _ _).1 ho
        have hl:=rd_len (dropB hb i) h1
        obtain ⟨k1,k2,k3,k4,k5⟩:=rd_facts (dropB hb i) h1
        rw [hl] at h2 hM k5
        exact ⟨rfl,hi,k1,h2,k5,ih _ _ (by omega) hM⟩
    · rw [scan_end (by omega)] at h
      injection h with h
      subst h
      show code.length≤i
      omega
theorem covers_scan {code:List Int} (hb:Go.Proofs.YteefmjhemhlapaaGreat.Bytes code):∀ (L:List (Nat×InsV)) (i:Nat),Covers code i L→scanAt code i=some L:=by
  intro L
  induction L with
  | nil=>intro i h;exact scan_end h
  | cons p t ih=>
    intro i h
    obtain ⟨j,x⟩:=p
    obtain ⟨rfl,hi,hx,hf,hl,hc⟩:=h
    have e:code.drop j=x.lay ++ (code.drop j).drop x.lay.length:=by
      conv=>lhs;rw [← List.take_append_drop x.lay.length (code.drop j)]
      rw [hl]
    obtain ⟨r1,r2,r3⟩:=rd_lay hx ((code.drop j).drop x.lay.length)
    rw [← e] at r1 r2 r3
    rw [scan_yes hb hi ((ok_iff _ _).2 ⟨r1,by rw [r3];exact hf⟩),r2,r3,ih _ hc]
    rfl
def flatI (l:List InsV):List Int:=l.flatMap InsV.lay
def withPos:Nat→List InsV→List (Nat×InsV)
  | _,[]=>[]
  | i,x :: t=>(i,x) :: withPos (i+x.lay.length) t
def Fits:Nat→List InsV→Prop
  | _,[]=>True
  | i,x :: t=>x.Ok∧i % 32+x.lay.length≤32∧Fits (i+x.lay.length) t
theorem flatI_cons (x:InsV) (t:List InsV):flatI (x :: t)=x.lay ++ flatI t:=by simp [flatI]
theorem flatI_app (a b:List InsV):flatI (a ++ b)=flatI a ++ flatI b:=by simp [flatI]
theorem flatI_byte (l:List InsV):Go.Proofs.YteefmjhemhlapaaGreat.Bytes (flatI l):=fun x hx=>by
  obtain ⟨y,_,h⟩:=List.mem_flatMap.1 hx
  exact lay_byte y x h
theorem withPos_ins (l:List InsV):∀ i,(withPos i l).map Prod.snd=l:=by
  induction l with
  | nil=>intro i;rfl
  | cons x t ih=>intro i;show x :: (withPos _ t).map Prod.snd=_;rw [ih]
theorem withPos_app (a b:List InsV):∀ i,withPos i (a ++ b)=withPos i a ++ withPos (i+(flatI a).length) b:=by
  induction a with
  | nil=>intro i;simp [withPos,flatI]
  | cons x t ih=>
    intro i
    show (i,x) :: withPos _ (t ++ b)=(i,x) :: (withPos _ t ++ _)
    rw [ih,flatI_cons,List.length_append,Nat.add_assoc]
theorem fits_app (a b:List InsV):∀ i,Fits i (a ++ b)↔Fits i a∧Fits (i+(flatI a).length) b:=by
  induction a with
  | nil=>intro i;simp [Fits,flatI]
  | cons x t ih=>
    intro i
    show (_∧_∧Fits _ (t ++ b))↔(_∧_∧Fits _ t)∧_
    rw [ih,flatI_cons,List.length_append,Nat.add_assoc]
    constructor
    · rintro ⟨h1,h2,h3,h4⟩;exact ⟨⟨h1,h2,h3⟩,h4⟩
    · rintro ⟨⟨h1,h2,h3⟩,h4⟩;exact ⟨h1,h2,h3,h4⟩
theorem fits_covers (pre:List Int):∀ (l:List InsV) (i:Nat) (code:List Int),code.length=i+(flatI l).length→code.drop i=flatI l→Fits i l→Covers code i (withPos i l):=by
  intro l
  induction l with
  | nil=>intro i code hl _ _;show code.length≤i;rw [hl];simp [flatI]
  | cons x t ih=>
    intro i code hl hd hf
    obtain ⟨h1,h2,h3⟩:=hf
    have hx:=lay_len h1
    rw [flatI_cons] at hl hd
    rw [List.length_append] at hl
    refine ⟨rfl,by omega,h1,h2,by rw [hd,List.take_left],ih _ _ (by omega) ?_ h3⟩
    rw [← List.drop_drop,hd,List.drop_left]
theorem scan_flat (l:List InsV) (h:Fits 0 l):scanAt (flatI l) 0=some (withPos 0 l):=
  covers_scan (flatI_byte l) _ _ (fits_covers [] l 0 (flatI l) (by omega) rfl h)
theorem covers_flat {code:List Int}:∀ (L:List (Nat×InsV)) (i:Nat),Covers code i L→i≤code.length→(∀ p∈L,p.1+p.2.lay.length≤code.length)→code.drop i=flatI (L.map Prod.snd)∧Fits i (L.map Prod.snd)∧L=withPos i (L.map Prod.snd):=by
  intro L
  induction L with
  | nil=>
    intro i h hi _
    exact ⟨by rw [List.drop_eq_nil_of_le h];rfl,trivial,rfl⟩
  | cons p t ih=>
    intro i h hi hm
    obtain ⟨j,x⟩:=p
    obtain ⟨rfl,h1,h2,h3,h4,h5⟩:=h
    have hle:=hm (j,x) (by simp)
    obtain ⟨k1,k2,k3⟩:=ih _ h5 hle (fun p hp=>hm p (by simp [hp]))
    refine ⟨?_,⟨h2,h3,k2⟩,?_⟩
    · show code.drop j=flatI (x :: t.map Prod.snd)
      rw [flatI_cons,← k1,← List.drop_drop]
      conv=>lhs;rw [← List.take_append_drop x.lay.length (code.drop j)]
      rw [h4]
    · show (j,x) :: t=(j,x) :: withPos (j+x.lay.length) (t.map Prod.snd)
      rw [← k3]
theorem covers_in {code:List Int}:∀ (L:List (Nat×InsV)) (i:Nat),Covers code i L→∀ p∈L,p.1+p.2.lay.length≤code.length:=by
  intro L
  induction L with
  | nil=>intro i _ p hp;cases hp
  | cons q t ih=>
    intro i h p hp
    obtain ⟨j,x⟩:=q
    obtain ⟨rfl,h1,h2,h3,h4,h5⟩:=h
    rcases List.mem_cons.1 hp with rfl | hp
    · have:=congrArg List.length h4
      rw [List.length_take,List.length_drop] at this
      show j+x.lay.length≤_
      omega
    · exact ih _ h5 p hp
theorem scan_some {code:List Int} (hb:Go.Proofs.YteefmjhemhlapaaGreat.Bytes code) {L:List (Nat×InsV)} (h:scanAt code 0=some L):code=flatI (L.map Prod.snd)∧Fits 0 (L.map Prod.snd)∧L=withPos 0 (L.map Prod.snd):=by
  have hc:=scan_covers hb _ 0 L (Nat.le_refl _) h
  have:=covers_flat L 0 hc (Nat.zero_le _) (covers_in L 0 hc)
  rwa [List.drop_zero] at this
end Go.Proofs.YteefmjhemhlapaaGreat.Mm
namespace Go.Proofs.YteefmjhemhlapaaGreat.Mm
set_option linter.unusedVariables false
set_option maxRecDepth 10000
theorem fits_shift (k:Nat):∀ (l:List InsV) (i:Nat),Fits (i+32 * k) l↔Fits i l:=by
  intro l
  induction l with
  | nil=>intro i;exact Iff.rfl
  | cons x t ih=>
    intro i
    show (x.Ok∧(i+32 * k) % 32+x.lay.length≤32∧Fits (i+32 * k+x.lay.length) t)↔(x.Ok∧i % 32+x.lay.length≤32∧Fits (i+x.lay.length) t)
    rw [show i+32 * k+x.lay.length=i+x.lay.length+32 * k by omega,ih,show (i+32 * k) % 32=i % 32 by omega]
theorem fits_split (m:Nat) (hm:m % 32=0):∀ (l:List InsV) (i:Nat),Fits i l→i≤m→m≤i+(flatI l).length→∃ a b,l=a ++ b∧i+(flatI a).length=m:=by
  intro l
  induction l with
  | nil=>intro i _ h1 h2;exact ⟨[],[],rfl,by simp [flatI] at h2 ⊢;omega⟩
  | cons x t ih=>
    intro i hf h1 h2
    obtain ⟨k1,k2,k3⟩:=hf
    by_cases he:i=m
    · exact ⟨[],x :: t,rfl,by simp [flatI];omega⟩
    · rw [flatI_cons,List.length_append] at h2
      obtain ⟨a,b,hab,hl⟩:=ih _ k3 (by omega) (by omega)
      refine ⟨x :: a,b,by rw [hab];rfl,?_⟩
      rw [flatI_cons,List.length_append]
      omega
theorem parts_yes {a b:List Int} (ha:Go.Proofs.YteefmjhemhlapaaGreat.Bytes a) (hb:Go.Proofs.YteefmjhemhlapaaGreat.Bytes b) (h32:a.length % 32=0) {L M:List (Nat×InsV)} (h1:scanAt a 0=some L) (h2:scanAt b 0=some M) :
    ∃ K,scanAt (a ++ b) 0=some K∧K.map Prod.snd=L.map Prod.snd ++ M.map Prod.snd:=by
  obtain ⟨e1,f1,g1⟩:=scan_some ha h1
  obtain ⟨e2,f2,g2⟩:=scan_some hb h2
  have hf:Fits 0 (L.map Prod.snd ++ M.map Prod.snd):=by
    rw [fits_app]
    refine ⟨f1,?_⟩
    rw [← e1]
    have:=(fits_shift (a.length / 32) (M.map Prod.snd) 0).2 f2
    rwa [show 0+32 * (a.length / 32)=0+a.length by omega] at this
  have:=scan_flat _ hf
  rw [flatI_app,← e1,← e2] at this
  exact ⟨_,this,withPos_ins _ _⟩
theorem parts_no {a b:List Int} (ha:Go.Proofs.YteefmjhemhlapaaGreat.Bytes a) (hb:Go.Proofs.YteefmjhemhlapaaGreat.Bytes b) (h32:a.length % 32=0) (h:scanAt a 0=none∨scanAt b 0=none):scanAt (a ++ b) 0=none:=by
  cases hK:scanAt (a ++ b) 0 with
  | none=>rfl
  | some K=>
    exfalso
    have hab:Go.Proofs.YteefmjhemhlapaaGreat.Bytes (a ++ b):=fun x hx=>(List.mem_append.1 hx).elim (ha x) (hb x)
    obtain ⟨e1,f1,_⟩:=scan_some hab hK
    have hl:=congrArg List.length e1
    rw [List.length_append] at hl
    obtain ⟨A,B,e2,e3⟩:=fits_split a.length h32 _ 0 f1 (Nat.zero_le _) (by omega)
    rw [e2] at e1 f1
    rw [flatI_app] at e1
    obtain ⟨k1,k2⟩:=List.append_inj e1 (by omega)
    rw [fits_app] at f1
    obtain ⟨p1,p2⟩:=f1
    have s1:=scan_flat A p1
    rw [← k1] at s1
    have s2:=scan_flat B (by
      rw [← k1] at p2
      have:=(fits_shift (a.length / 32) B 0).1
      rw [show 0+32 * (a.length / 32)=0+a.length by omega] at this
      exact this p2)
    rw [← k2] at s2
    rcases h with h | h
    · rw [s1] at h;cases h
    · rw [s2] at h;cases h
def gapN (s t:Nat):Nat:=if s % 32+t≤32 then 0 else 32 - s % 32
def fillN (s:Nat):Nat:=(32 - s % 32) % 32
def padI:Nat→List InsV→List InsV
  | s,[]=>List.replicate (fillN s) nopI
  | s,x :: t=>List.replicate (gapN s x.lay.length) nopI ++ x :: padI (s+gapN s x.lay.length+x.lay.length) t
def padL (l:List InsV):List Int:=flatI (padI 0 l)
theorem nop_lay:nopI.lay=[23]:=by decide
theorem nop_ok:nopI.Ok:=⟨by decide,by decide,by decide⟩
theorem flat_nops (n:Nat):flatI (List.replicate n nopI)=List.replicate n 23:=by
  induction n with
  | zero=>rfl
  | succ n ih=>rw [List.replicate_succ,flatI_cons,ih,nop_lay];rfl
theorem nops_len (n:Nat):(flatI (List.replicate n nopI)).length=n:=by rw [flat_nops,List.length_replicate]
theorem fits_nops:∀ (n s:Nat),Fits s (List.replicate n nopI):=by
  intro n
  induction n with
  | zero=>intro s;trivial
  | succ n ih=>intro s;rw [List.replicate_succ];exact ⟨nop_ok,by rw [nop_lay];show s % 32+1≤32;omega,ih _⟩
theorem pad_fits:∀ (l:List InsV) (s:Nat),(∀ x∈l,x.Ok)→Fits s (padI s l)∧(s+(flatI (padI s l)).length) % 32=0:=by
  intro l
  induction l with
  | nil=>
    intro s _
    refine ⟨fits_nops _ _,?_⟩
    show (s+(flatI (List.replicate (fillN s) nopI)).length) % 32=0
    rw [nops_len]
    unfold fillN
    omega
  | cons x t ih=>
    intro s h
    have hx:=h x (by simp)
    have h6:=lay_len hx
    obtain ⟨k1,k2⟩:=ih (s+gapN s x.lay.length+x.lay.length) (fun y hy=>h y (by simp [hy]))
    have hg:(s+gapN s x.lay.length) % 32+x.lay.length≤32:=by
      unfold gapN
      by_cases h1:s % 32+x.lay.length≤32
      · rw [if_pos h1];exact h1
      · rw [if_neg h1];omega
    constructor
    · show Fits s (List.replicate (gapN s x.lay.length) nopI ++ x :: padI _ t)
      rw [fits_app]
      exact ⟨fits_nops _ _,hx,by rw [nops_len];exact hg,by rw [nops_len];exact k1⟩
    · show (s+(flatI (List.replicate (gapN s x.lay.length) nopI ++ x :: padI _ t)).length) % 32=0
      rw [flatI_app,List.length_append,nops_len,flatI_cons,List.length_append]
      rw [← k2]
      congr 1
      omega
theorem pad_scan (l:List InsV) (h:∀ x∈l,x.Ok):scanAt (padL l) 0=some (withPos 0 (padI 0 l)):=scan_flat _ (pad_fits l 0 h).1
theorem pad_len32 (l:List InsV) (h:∀ x∈l,x.Ok):(padL l).length % 32=0:=by
  have:=(pad_fits l 0 h).2
  rwa [Nat.zero_add] at this
end Go.Proofs.YteefmjhemhlapaaGreat.Mm
namespace Go.Proofs.YteefmjhemhlapaaGreat.Mm
open Go
set_option linter.unusedVariables false
set_option maxRecDepth 10000
def OnlyN (Q:Exit→Act→World→Prop):Exit→Act→World→Prop
  | .normal,a,w=>Q .normal a w
  | _,_,_=>False
theorem OnlyN.normal {Q:Exit→Act→World→Prop} {a:Act} {w:World} (h:Q .normal a w):OnlyN Q .normal a w:=h
theorem OnlyN.lets {Q:Exit→Act→World→Prop}:¬ LetsOut (OnlyN Q):=fun ⟨_,_,h⟩=>h
theorem OnlyN.hQ {Q:Exit→Act→World→Prop} {d:Option Tmp} {v:Value}:∀ c a w,OnlyN Q (.panic c) (Act.put a d v) w→OnlyN Q (.panic c) a w:=fun _ _ _ h=>h
section
variable {P:Program} {ops:Array Oper} {Q:Exit→Act→World→Prop} {md:Region.Mode} {S:World→Prop}
theorem oper_in {o:Oper} {a:Act} {w:World} {K K':Act→World→Prop} {l n:Nat} (hd:∀ c,o.op≠.defer c) (hK:∀ a w,K a w→K' a w)
    (h:o.wp P a w K (OnlyN Q)):o.wpIn (Fence.wide.inRound l) n P a w K' Q:=by
  refine ⟨fun _ _=>trivial,?_⟩
  rw [Oper.semAt_plain _ _ _ hd]
  unfold Oper.wp at h
  generalize (execOp a.eval o).run P w=r at *
  cases r with
  | ok x w'=>
    cases x <;> simp only [Oper.upon,Oper.uponIn] at h ⊢
    case value v=>exact hK _ _ h
    case skip=>exact hK _ _ h
    case defer d=>exact hK _ _ h
    case enter f args=>
      refine ⟨fun h0=>(by cases h0),CallsIn.inRound l (callsIn_wide.2 (Calls.mono h fun e w'' he=>?_))⟩
      cases e with
      | returned v=>exact hK _ _ he
      | panicked c=>exact (he:False).elim
      | outgrown=>exact absurd he OnlyN.lets
    case row row args=>exact ⟨fun h0=>(by cases h0),fun c cs _=>let ⟨v,w',r,s⟩:=h c cs;⟨v,w',hK _ _ r,stepsIn_wide.2 s⟩⟩
  | halt x w'=>
    cases x <;> simp only [Oper.upon,Oper.uponIn] at h ⊢
    case panic v=>exact (h:False).elim
theorem ops_in {l n:Nat} (hd:∀ (i:Nat) (o:Oper) c,ops[i]?=some o→o.op≠.defer c):∀ (L:List Nat) (a:Act) (w:World),wpOps P ops (OnlyN Q) L a w→wpOpsIn (Fence.wide.inRound l) n P ops Q L a w
  | [],_,_,h=>h
  | i :: rest,a,w,h=>by
    simp only [wpOps,wpOpsIn] at h ⊢
    cases ho:ops[i]? with
    | none=>simp only [ho] at h ⊢;exact ops_in hd rest a w h
    | some o=>
      simp only [ho] at h ⊢
      by_cases hw:Region.wanted o (yielded ops a.tmps)=true
      · simp only [hw,if_true] at h ⊢
        rcases h with h | ⟨_,h⟩
        · exact oper_in (fun c=>hd i o c ho) (fun a w=>ops_in hd rest a w) h
        · exact absurd h OnlyN.lets
      · simp only [hw,if_false,Bool.false_eq_true] at h ⊢
        exact ⟨fun _ _=>trivial,ops_in hd rest _ w h⟩
def noDefer (ops:Array Oper):Bool:=ops.all fun o=>match o.op with | .defer _=>false | _=>true
theorem noDefer_spec (h:noDefer ops=true):∀ (i:Nat) (o:Oper) c,ops[i]?=some o→o.op≠.defer c:=by
  intro i o c hi e
  obtain ⟨hlt,rfl⟩:=Array.getElem?_eq_some_iff.1 hi
  have:=Array.all_eq_true.1 h i hlt
  rw [e] at this
  cases this
theorem region_in {l n id:Nat} {a:Act} {w:World} (hm:P.follows .mixedOrders=true) (hd:noDefer ops=true)
    (h:wpAny P .any ops (OnlyN Q) ops.size (Array.replicate ops.size false) a w.drew):(Code.region id ops true).wpIn (Fence.wide.inRound l) n P Q a w:=
  wpIn_region_draw fun t=>by
    refine ops_in (noDefer_spec hd) _ _ _ ?_
    simp only [Region.schedule,hm,Bool.true_or,if_true]
    exact wpAny_sound ops.size t _ a _ h
/-! ### What yields under S, taken first, up to a tail -/
def wpT (P:Program) (md:Region.Mode) (ops:Array Oper) (Q:Exit→Act→World→Prop) (S:World→Prop) (n g:Nat):Nat→Array Bool→Act→World→Prop
  | 0,listed,a,w=>(∀ j∈Region.ready md ops listed,n≤j)∧wpAny P md ops Q g listed a w
  | f+1,listed,a,w=>Region.ready md ops listed≠[]∧∀ i∈Region.ready md ops listed,i < n∧wpOp P ops Q i (fun a' w'=>S w'∧wpT P md ops Q S n g f (listed.setIfInBounds i true) a' w') a w
theorem any_of_T {n g:Nat}:∀ (f:Nat) (listed:Array Bool) (a:Act) (w:World),wpT P md ops Q S n g f listed a w→wpAny P md ops Q (f+g) listed a w
  | 0,listed,a,w,h=>by rw [Nat.zero_add];exact h.2
  | f+1,listed,a,w,h=>by
    rw [show f+1+g=(f+g)+1 by omega]
    exact ⟨fun h0=>absurd h0 h.1,fun i hi=>wpOp_mono (fun a' w' h'=>any_of_T f _ a' w' h'.2) (h.2 i hi).2⟩
theorem T_first {n g i:Nat} {oi:Oper} {v:Value} (hi:ops[i]?=some oi) (hsel:∀ (j:Nat) (o:Oper) cs b,ops[j]?=some o→o.op≠.select cs b)
    (hQ:∀ c a w,Q (.panic c) (a.put oi.dst v) w→Q (.panic c) a w) (hs:Region.sinkB md ops n=true) (hc:Region.chainB md ops n=true) (hn:n < ops.size) (hin:i < n) :
    ∀ (f:Nat) (listed:Array Bool) (a:Act) (w:World),HeadInv md ops n listed →
      (∀ j oj,ops[j]?=some oj→j≠i→listed.getD j true=false→(∀ e∈oj.after,Region.binds md e=true→e.on≠i)→oi.apart ops oj=true) →
      i∈Region.ready md ops listed→YieldsIf P ops S oi v a→S w →
      wpT P md ops Q S n g f (listed.setIfInBounds i true) (a.put oi.dst v) w→wpT P md ops Q S n g (f+1) listed a w:=by
  intro f
  induction f with
  | zero=>
    intro listed a w inv _ hr hy hS H
    have hun:=(mem_ready.1 hr).1
    refine ⟨fun h=>(by rw [h] at hr;cases hr),fun j hj=>?_⟩
    have hjn:j < n:=by
      rcases Nat.lt_or_ge j n with h | h
      · exact h
      · exact absurd hj (tail_waits hs hc hn inv _ i rfl hin hun j h)
    refine ⟨hjn,?_⟩
    by_cases hji:j=i
    · subst hji;exact hy.wpOp hi hS ⟨hS,H⟩
    · have:=H.1 j (ready_mono hj hji)
      omega
  | succ f ih=>
    intro listed a w inv hfree hr hy hS H
    have hun:=(mem_ready.1 hr).1
    refine ⟨fun h=>(by rw [h] at hr;cases hr),fun j hj=>?_⟩
    have hjn:j < n:=by
      rcases Nat.lt_or_ge j n with h | h
      · exact h
      · exact absurd hj (tail_waits hs hc hn inv _ i rfl hin hun j h)
    refine ⟨hjn,?_⟩
    by_cases hji:j=i
    · subst hji;exact hy.wpOp hi hS ⟨hS,H⟩
    · have h1:=(H.2 j (ready_mono hj hji)).2
      obtain ⟨hjun,oj,hoj,hall⟩:=mem_ready.1 hj
      have hnot:∀ e∈oj.after,Region.binds md e=true→e.on≠i:=fun e he hb heq=>by
        have h1:=hall e he hb
        rw [heq,getD_both hun] at h1
        cases h1
      have h2:=wpOp_putIf hoj (hfree j oj hoj hji hjun hnot) (fun cs b=>hsel i oi cs b hi) (fun cs b=>hsel j oj cs b hoj) hQ hy h1
      have hfree':∀ k ok,ops[k]?=some ok→k≠i→(listed.setIfInBounds j true).getD k true=false →
          (∀ e∈ok.after,Region.binds md e=true→e.on≠i)→oi.apart ops ok=true:=fun k ok hk hki hun hno=>by
        refine hfree k ok hk hki ?_ hno
        by_cases hjk:j=k
        · subst hjk;exact hjun
        · rw [getD_set_ne true hjk] at hun;exact hun
      refine wpOp_mono (fun a' w' h3=>⟨h3.2.1,ih (listed.setIfInBounds j true) a' w' (inv.set hj hjn) hfree' (ready_mono hr (Ne.symm hji)) h3.1 h3.2.1 ?_⟩) h2
      rw [Array.setIfInBounds_comm _ _ hji]
      exact h3.2.2
def tailB (md:Region.Mode) (ops:Array Oper) (n:Nat):Bool:=Region.noSelect ops && decide (n < ops.size) && Region.sinkB md ops n && Region.chainB md ops n
def headB (md:Region.Mode) (ops:Array Oper) (n:Nat) (listed:Array Bool):Bool:=
  decide (listed.size=ops.size) && (List.range ops.size).all (fun j=>match ops[j]? with
    | some oj=>!listed.getD j false || oj.after.all fun e=>!Region.binds md e || listed.getD e.on false
    | none=>true) && (List.range ops.size).all fun t=>decide (t < n) || !listed.getD t true
theorem headB_spec {n:Nat} {listed:Array Bool} (h:headB md ops n listed=true):HeadInv md ops n listed:=by
  unfold headB at h
  simp only [Bool.and_eq_true,decide_eq_true_eq] at h
  obtain ⟨⟨h1,h2⟩,h3⟩:=h
  refine ⟨h1,fun j oj hj hl e he hb=>?_,fun t ht ht'=>?_⟩
  · have:=List.all_eq_true.1 h2 j (List.mem_range.2 (Array.getElem?_eq_some_iff.1 hj).1)
    simp only [hj,hl,Bool.not_true,Bool.false_or] at this
    obtain ⟨k,hk,rfl⟩:=Array.mem_iff_getElem.1 he
    have:=Array.all_eq_true.1 this k hk
    rw [hb] at this
    simpa using this
  · have:=List.all_eq_true.1 h3 t (List.mem_range.2 ht')
    simp only [Bool.or_eq_true,decide_eq_true_eq] at this
    rcases this with h | h
    · omega
    · simpa using h
theorem T_take {n g i:Nat} {oi:Oper} {v:Value} {f:Nat} {listed:Array Bool} {a:Act} {w:World} (hi:ops[i]?=some oi)
    (ht:tailB md ops n=true) (hin:decide (i < n)=true) (hh:headB md ops n listed=true) (hf:Region.free md ops listed i=true) (hr:(Region.ready md ops listed).contains i=true)
    (hQ:∀ c a w,Q (.panic c) (a.put oi.dst v) w→Q (.panic c) a w) (hy:YieldsIf P ops S oi v a) (hS:S w)
    (h:wpT P md ops Q S n g f (listed.setIfInBounds i true) (a.put oi.dst v) w):wpT P md ops Q S n g (f+1) listed a w:=by
  unfold tailB at ht
  simp only [Bool.and_eq_true,decide_eq_true_eq] at ht
  obtain ⟨⟨⟨hs,hn⟩,h1⟩,h2⟩:=ht
  exact T_first hi (Region.noSelect_spec hs) hQ h1 h2 hn (of_decide_eq_true hin) f listed a w (headB_spec hh) (Region.free_spec hi hf) (by simpa using hr) hy hS h
def AllT (P:Program) (md:Region.Mode) (ops:Array Oper) (Q:Exit→Act→World→Prop) (S:World→Prop) (n g fuel:Nat) (listed:Array Bool) (a:Act) (w:World) (rs:List Nat):Prop:=
  ∀ i∈rs,wpOp P ops Q i (fun a' w'=>S w'∧wpT P md ops Q S n g fuel (listed.setIfInBounds i true) a' w') a w
theorem AllT.nil {n g fuel:Nat} {listed:Array Bool} {a:Act} {w:World}:AllT P md ops Q S n g fuel listed a w []:=fun _ h=>by cases h
theorem AllT.cons {n g fuel:Nat} {listed:Array Bool} {a:Act} {w:World} {i:Nat} {o:Oper} {rs:List Nat} (ho:ops[i]?=some o)
    (h:∀ K':Act→World→Prop,Shut (∀ a w,S w→(S w→wpT P md ops Q S n g fuel (listed.setIfInBounds i true) a w)→K' a w)→if Region.wanted o (yielded ops a.tmps)=true then Oper.wp P o a w K' Q else K' (a.put o.dst undef) w)
    (hs:AllT P md ops Q S n g fuel listed a w rs):AllT P md ops Q S n g fuel listed a w (i :: rs):=fun j hj=>by
  rcases List.mem_cons.1 hj with rfl | hj
  · exact wpOp_step ho (fun K' hK=>h K' (fun a w hS hW=>hK a w ⟨hS,hW hS⟩))
  · exact hs j hj
theorem T_ready {n g:Nat} {rs:List Nat} {fuel:Nat} {listed:Array Bool} {a:Act} {w:World} (hr:Region.ready md ops listed=rs) (hne:rs≠[]) (hn:rs.all (fun i=>decide (i < n))=true)
    (h:AllT P md ops Q S n g fuel listed a w rs):wpT P md ops Q S n g (fuel+1) listed a w:=
  ⟨fun h0=>absurd (hr ▸ h0) hne,fun i hi=>⟨by rw [hr] at hi;exact of_decide_eq_true (List.all_eq_true.1 hn i hi),h i (hr ▸ hi)⟩⟩
theorem T_tail {n:Nat} {tl:List Oper} {listed:Array Bool} {a:Act} {w:World} (hl:ops.toList.drop n=tl) (hB:Region.seqB md ops tl.length n listed=true) (h:wpList P ops Q tl a w) :
    wpT P md ops Q S n tl.length 0 listed a w:=⟨seqB_ready hB,wpAny_of_seq tl n listed a w (fun j=>by rw [← hl,List.getElem?_drop,Array.getElem?_toList]) hB h⟩
theorem region_T {l m id n:Nat} {a:Act} {w:World} (hm:P.follows .mixedOrders=true) (hd:noDefer ops=true) (g:Nat) (hg:n+g=ops.size) (hS:S w.drew)
    (h:S w.drew→wpT P .any ops (OnlyN Q) S n g n (Array.replicate ops.size false) a w.drew):(Code.region id ops true).wpIn (Fence.wide.inRound l) m P Q a w:=by
  refine region_in hm hd ?_
  have:=any_of_T n _ _ _ (h hS)
  rwa [hg] at this
end
end Go.Proofs.YteefmjhemhlapaaGreat.Mm
namespace Go.Proofs.YteefmjhemhlapaaGreat.Mm
open Go.ChangeShapes Go.WideShapes Go.ChangeAt Go.RowKit
set_option linter.unusedVariables false
set_option maxRecDepth 10000
def insC (x:InsV):List Value:=[.int .i64 x.op,.int .i64 x.a,.int .i64 x.b,.int .u32 x.imm]
def InsV.agg (x:InsV):Value:=.agg #[.int .i64 x.op,.int .i64 x.a,.int .i64 x.b,.int .u32 x.imm]
def InsV.Wf (x:InsV):Prop:=(-9223372036854775808≤x.op∧x.op≤9223372036854775807)∧(-9223372036854775808≤x.a∧x.a≤9223372036854775807)∧(-9223372036854775808≤x.b∧x.b≤9223372036854775807)∧0≤x.imm∧x.imm < 4294967296
structure InsAt (w:World) (p:Addr) (x:InsV):Prop where
  c0:w.cell? p=some (.int .i64 x.op)
  c1:w.cell? ⟨p.block,p.off+1,none⟩=some (.int .i64 x.a)
  c2:w.cell? ⟨p.block,p.off+2,none⟩=some (.int .i64 x.b)
  c3:w.cell? ⟨p.block,p.off+3,none⟩=some (.int .u32 x.imm)
def insD:InsV:=⟨0,0,0,0⟩
def InsRow (w:World) (A:Option Addr) (cap:Nat) (l:List InsV):Prop:=
  l.length≤cap∧cap≤maxLen∧(∀ x∈l,x.Wf)∧(l≠[]→∃ p,A=some p∧p.block < w.heap.size∧∀ i,i < l.length→InsAt w (p.add (i * 4)) (l.getD i insD))
def IntRow (w:World) (A:Option Addr) (cap:Nat) (l:List Int):Prop:=
  l.length≤cap∧cap≤maxLen∧(l≠[]→∃ p,A=some p∧p.block < w.heap.size∧∀ i,i < l.length→w.cell? (p.add i)=some (.int .i64 (l.getD i 0)))
theorem InsAt.below {w w':World} {p:Addr} {x:InsV} (h:InsAt w p x) (hp:p.block < w.heap.size) (b:Below w.heap.size w w'):InsAt w' p x:=
  ⟨by rw [b.cell hp];exact h.c0,(b.cell (p:=⟨p.block,p.off+1,none⟩) hp).trans h.c1,(b.cell (p:=⟨p.block,p.off+2,none⟩) hp).trans h.c2,(b.cell (p:=⟨p.block,p.off+3,none⟩) hp).trans h.c3⟩
theorem InsRow.below {w w':World} {A:Option Addr} {cap:Nat} {l:List InsV} (h:InsRow w A cap l) (b:Below w.heap.size w w'):InsRow w' A cap l:=by
  obtain ⟨h1,h2,h3,h4⟩:=h
  refine ⟨h1,h2,h3,fun hn=>?_⟩
  obtain ⟨p,hp,hb,hc⟩:=h4 hn
  exact ⟨p,hp,Nat.lt_of_lt_of_le hb b.size,fun i hi=>(hc i hi).below (by rw [block_add];exact hb) b⟩
theorem IntRow.below {w w':World} {A:Option Addr} {cap:Nat} {l:List Int} (h:IntRow w A cap l) (b:Below w.heap.size w w'):IntRow w' A cap l:=by
  obtain ⟨h1,h2,h4⟩:=h
  refine ⟨h1,h2,fun hn=>?_⟩
  obtain ⟨p,hp,hb,hc⟩:=h4 hn
  exact ⟨p,hp,Nat.lt_of_lt_of_le hb b.size,fun i hi=>by rw [b.cell (by rw [block_add];exact hb)];exact hc i hi⟩
theorem insRow_nil (w:World):InsRow w none 0 []:=⟨Nat.le_refl _,Nat.zero_le _,fun x hx=>(by cases hx),fun h=>absurd rfl h⟩
theorem intRow_nil (w:World):IntRow w none 0 []:=⟨Nat.le_refl _,Nat.zero_le _,fun h=>absurd rfl h⟩
theorem flatC_len (L:List InsV):(L.flatMap insC).length=L.length * 4:=by
  induction L with
  | nil=>rfl
  | cons x t ih=>rw [List.flatMap_cons,List.length_append,ih,List.length_cons];show 4+_=_;omega
theorem flatC_get (L:List InsV):∀ i,i < L.length→∀ j,j < 4→(L.flatMap insC)[i * 4+j]?=(insC (L.getD i insD))[j]?:=by
  induction L with
  | nil=>intro i hi;simp at hi
  | cons x t ih=>
    intro i hi j hj
    rw [List.flatMap_cons]
    cases i with
    | zero=>rw [List.getElem?_append_left (by show _ < 4;omega)];simp
    | succ i=>
      rw [List.getElem?_append_right (by show 4≤_;omega)]
      rw [show (i+1) * 4+j - (insC x).length=i * 4+j by show (i+1) * 4+j - 4=_;omega,ih i (by simp at hi;omega) j hj]
      simp
theorem flatC_app (L M:List InsV):(L ++ M).flatMap insC=L.flatMap insC ++ M.flatMap insC:=by simp
theorem flatC_one (x:InsV):[x].flatMap insC=insC x:=by simp
theorem insC_one (x:InsV):∀ u∈insC x,u.oneCell'=true:=by
  intro u hu
  simp only [insC,List.mem_cons,List.not_mem_nil,or_false] at hu
  rcases hu with rfl | rfl | rfl | rfl <;> rfl
theorem int_info:(Tryz.prog.info? 3).map (fun i=>(i.zero,i.size,i.bytes))=some (some (.int .i64 0),1,8):=by kernel_rfl
theorem ins_info:(Tryz.prog.info? 134).map (fun i=>(i.zero,i.size,i.bytes))=some (some (.agg #[.int .i64 0,.int .i64 0,.int .i64 0,.int .u32 0]),4,32):=by kernel_rfl
theorem addr0 (g k:Nat):(⟨g,0,none⟩:Addr).add k=⟨g,k,none⟩:=by
  unfold Addr.add
  by_cases h0:k=0
  · subst h0;rfl
  · rw [if_neg h0];simp
theorem ins_of_own {w:World} {base n:Nat} {v:Value} {L:List InsV} (h:w.ownsRow base 134 4 v n (L.flatMap insC)) (hw:∀ x∈L,x.Wf):∃ A cap,v=.slice A n cap∧n=L.length∧InsRow w A cap L:=by
  have hl:L.length=n:=by have:=h.1;rw [flatC_len] at this;omega
  rcases h.2 with ⟨rfl,rfl⟩ | ⟨g,cap,cur,rfl,_,hh,hc,hm,_⟩
  · have:L=[]:=List.eq_nil_of_length_eq_zero hl
    subst this
    exact ⟨none,0,rfl,rfl,insRow_nil w⟩
  · refine ⟨_,cap,rfl,hl.symm,by omega,hm,hw,fun hne=>⟨_,rfl,(h.lt g rfl).2,fun i hi=>?_⟩⟩
    have key:∀ j,j < 4→w.cell? ⟨g,i * 4+j,none⟩=(insC (L.getD i insD))[j]?:=fun j hj=>by
      have e:=flatC_get L i hi j hj
      have hs:∃ u,(insC (L.getD i insD))[j]?=some u:=⟨_,List.getElem?_eq_getElem (show j < (insC _).length from hj)⟩
      obtain ⟨u,hu⟩:=hs
      rw [hu] at e ⊢
      have:=h.cells (g:=g) rfl _ u e
      rw [addr0] at this
      exact this
    rw [addr0]
    exact ⟨key 0 (by decide),key 1 (by decide),key 2 (by decide),key 3 (by decide)⟩
theorem int_of_own {w:World} {base n:Nat} {v:Value} {L:List Int} (h:w.ownsRow base 3 1 v n (L.map (Value.int .i64))):∃ A cap,v=.slice A n cap∧n=L.length∧IntRow w A cap L:=by
  have hl:L.length=n:=by have:=h.1;simpa using this
  rcases h.2 with ⟨rfl,rfl⟩ | ⟨g,cap,cur,rfl,_,hh,hc,hm,_⟩
  · have:L=[]:=List.eq_nil_of_length_eq_zero hl
    subst this
    exact ⟨none,0,rfl,rfl,intRow_nil w⟩
  · exact ⟨_,cap,rfl,hl.symm,by omega,hm,fun hne=>⟨_,rfl,(h.lt g rfl).2,fun i hi=>h.cells (g:=g) rfl i (.int .i64 (L.getD i 0)) (by simp [List.getElem?_eq_getElem hi,List.getD])⟩⟩
theorem own_apart {w w':World} {b1 b2 s1 s2 n1 n2:Nat} {e1 e2:TypeId} {v1 v2:Value} {xs1 xs2:List Value} (h2:w.ownsRow b2 e2 s2 v2 n2 xs2) (h1:w.ownsRow b1 e1 s1 v1 n1 xs1) (hne:e1≠e2) (hg:w.grownBy w' v1.ownBlock):w'.ownsRow b2 e2 s2 v2 n2 xs2:=by
  refine h2.kept hg ?_
  rcases h2.2 with ⟨rfl,_⟩ | ⟨g2,_,_,rfl,_,hg2,_⟩
  · exact .inl rfl
  · rcases h1.2 with ⟨rfl,_⟩ | ⟨g1,_,_,rfl,_,hg1,_⟩
    · exact .inr (by simp [Value.ownBlock])
    · refine .inr fun e=>?_
      simp only [Value.ownBlock,Option.some.injEq] at e
      rw [e,hg1] at hg2
      simp at hg2
      exact hne hg2.2
theorem below_of_own {w w':World} {base e size n:Nat} {v:Value} {xs:List Value} (h:w.ownsRow base e size v n xs) (hb:base≤w.heap.size) (hg:w.grownBy w' v.ownBlock):Below base w w':=
  (Below.refl base w).grown hg hb (fun k hk=>(h.lt k hk).1)
theorem append_int {w:World} {ops:Array Oper} {rest:List Oper} {o:Oper} {a:Act} {Q:Exit→Act→World→Prop} (hgd:o.guard=none) (s x:Operand)
    (ho:o.op=.call { callee:=.builtin .append,args:=#[s,x],argTypes:=#[128,128] })
    (base:Nat) (v:Value) (n:Nat) (L:List Int) (hs:a.eval s=v) (hown:w.ownsRow base 3 1 v n (L.map (Value.int .i64)))
    (g c:Nat) (y:Int) (hx:a.eval x=.slice (some ⟨g,0,none⟩) 1 c) (hT:w.cell? ⟨g,0,none⟩=some (.int .i64 y)) (n':Nat) (hn':n'=n+1) (hlen:n≤100000) (hbase:base≤w.heap.size)
    (h:∀ A' cap' w',w'.ownsRow base 3 1 (.slice A' n' cap') n' ((L ++ [y]).map (Value.int .i64))→w.grownBy w' v.ownBlock→IntRow w' A' cap' (L ++ [y])→Below base w w'→wpList Tryz.prog ops Q rest (a.put o.dst (.slice A' n' cap')) w') :
    wpList Tryz.prog ops Q (o :: rest) a w:=by
  subst hn'
  obtain ⟨u0,hu0,hz0,hz1,hz2⟩:=info_parts int_info
  refine wpList_append_own w hgd s x 128 ho base 3 u0 _ 1 8 Tryz.underlying128 hu0 hz0 hz1 hz2 rfl (by decide) v n (L.map (Value.int .i64)) hs hown ⟨g,0,none⟩ 1 c [.int .i64 y] hx rfl
    (fun j u hj=>?_) (by intro u hu;simp at hu;subst hu;rfl) (by unfold maxLen;omega) (by omega) hbase ?_
  · match j,hj with
    | 0,hj=>simp at hj;subst hj;simpa [Addr.add] using hT
    | j+1,hj=>simp at hj
  · intro v' w' hown' hg _
    have hown':w'.ownsRow base 3 1 v' (n+1) ((L ++ [y]).map (Value.int .i64)):=by simpa using hown'
    obtain ⟨A',cap',rfl,_,hrow⟩:=int_of_own hown'
    exact h A' cap' w' hown' hg hrow (below_of_own hown hbase hg)
theorem cells4 {w:World} {g:Nat} {t:InsV} (h:InsAt w ⟨g,0,none⟩ t):∀ j u,(insC t)[j]?=some u→w.cell? ((⟨g,0,none⟩:Addr).add j)=some u:=by
  intro j u hj
  match j,hj with
  | 0,hj=>simp [insC] at hj;subst hj;simpa [Addr.add] using h.c0
  | 1,hj=>simp [insC] at hj;subst hj;simpa [Addr.add] using h.c1
  | 2,hj=>simp [insC] at hj;subst hj;simpa [Addr.add] using h.c2
  | 3,hj=>simp [insC] at hj;subst hj;simpa [Addr.add] using h.c3
  | j+4,hj=>simp [insC] at hj
theorem append_ins {w:World} {ops:Array Oper} {rest:List Oper} {o:Oper} {a:Act} {Q:Exit→Act→World→Prop} (hgd:o.guard=none) (s x:Operand)
    (ho:o.op=.call { callee:=.builtin .append,args:=#[s,x],argTypes:=#[129,129] })
    (base:Nat) (v:Value) (n:Nat) (L:List InsV) (hs:a.eval s=v) (hown:w.ownsRow base 134 4 v n (L.flatMap insC)) (hW:∀ x∈L,x.Wf)
    (g c:Nat) (y:InsV) (hx:a.eval x=.slice (some ⟨g,0,none⟩) 1 c) (hT:InsAt w ⟨g,0,none⟩ y) (hy:y.Wf) (n':Nat) (hn':n'=n+1) (hlen:n≤100000) (hbase:base≤w.heap.size)
    (h:∀ A' cap' w',w'.ownsRow base 134 4 (.slice A' n' cap') n' ((L ++ [y]).flatMap insC)→w.grownBy w' v.ownBlock→InsRow w' A' cap' (L ++ [y])→Below base w w'→wpList Tryz.prog ops Q rest (a.put o.dst (.slice A' n' cap')) w') :
    wpList Tryz.prog ops Q (o :: rest) a w:=by
  subst hn'
  obtain ⟨u0,hu0,hz0,hz1,hz2⟩:=info_parts ins_info
  refine wpList_append_own w hgd s x 129 ho base 134 u0 _ 4 32 Tryz.underlying129 hu0 hz0 hz1 hz2 rfl (by decide) v n (L.flatMap insC) hs hown ⟨g,0,none⟩ 1 c (insC y) hx rfl
    (cells4 hT) (insC_one y) (by unfold maxLen;omega) (by omega) hbase ?_
  intro v' w' hown' hg _
  rw [← flatC_one y,← flatC_app] at hown'
  obtain ⟨A',cap',rfl,_,hrow⟩:=ins_of_own hown' (fun z hz=>(List.mem_append.1 hz).elim (hW z) (fun h=>by simp at h;subst h;exact hy))
  exact h A' cap' w' hown' hg hrow (below_of_own hown hbase hg)
theorem ok_wf {x:InsV} (h:x.Ok):x.Wf:=by
  obtain ⟨h1,h2,h3⟩:=h
  obtain ⟨⟨o0,o1⟩,hf⟩:=(Go.Proofs.YteefmjhemhlapaaGreat.rightB_iff _ _ _ _).1 h1
  rw [Go.Proofs.YteefmjhemhlapaaGreat.fitsB_iff] at hf
  have ha:Go.Proofs.YteefmjhemhlapaaGreat.fA x.op≤7:=by unfold Go.Proofs.YteefmjhemhlapaaGreat.fA;split <;> omega
  have hb:Go.Proofs.YteefmjhemhlapaaGreat.fB x.op≤7:=by unfold Go.Proofs.YteefmjhemhlapaaGreat.fB;split <;> omega
  exact ⟨by omega,by omega,by omega,h2,h3⟩
end Go.Proofs.YteefmjhemhlapaaGreat.Mm
namespace Go.Proofs.YteefmjhemhlapaaGreat.Mm
set_option linter.unusedVariables false
set_option maxRecDepth 10000
def bunL (code:List Int) (k:Nat):List Int:=(code.drop (32 * k)).take 32
def shiftP (b:Nat) (L:List (Nat×InsV)):List (Nat×InsV):=L.map fun p=>(b+p.1,p.2)
theorem bunL_len {code:List Int} {k:Nat} (h:32 * k+32≤code.length):(bunL code k).length=32:=by
  unfold bunL;rw [List.length_take,List.length_drop];omega
theorem bunL_byte {code:List Int} (hb:Go.Proofs.YteefmjhemhlapaaGreat.Bytes code) (k:Nat):Go.Proofs.YteefmjhemhlapaaGreat.Bytes (bunL code k):=fun x hx=>hb x (List.mem_of_mem_drop (List.mem_of_mem_take hx))
theorem withPos_shift (b:Nat) (l:List InsV):∀ i,withPos (b+i) l=shiftP b (withPos i l):=by
  induction l with
  | nil=>intro i;rfl
  | cons x t ih=>
    intro i
    show (b+i,x) :: withPos (b+i+x.lay.length) t=(b+i,x) :: shiftP b (withPos (i+x.lay.length) t)
    rw [← ih,Nat.add_assoc]
theorem bunL_take {code:List Int} {m k:Nat} (hk:k < m):bunL (code.take (32 * m)) k=bunL code k:=by
  unfold bunL
  rw [List.drop_take,List.take_take]
  congr 1
  omega
theorem bunL_last {code:List Int} {m:Nat} (hl:code.length=32 * (m+1)):code.drop (32 * m)=bunL code m:=by
  unfold bunL
  rw [List.take_of_length_le]
  rw [List.length_drop];omega
theorem bun_yes (f:Nat→List (Nat×InsV)):∀ (m:Nat) (code:List Int),Go.Proofs.YteefmjhemhlapaaGreat.Bytes code→code.length=32 * m→(∀ k,k < m→scanAt (bunL code k) 0=some (f k)) →
    scanAt code 0=some ((List.range m).flatMap fun k=>shiftP (32 * k) (f k)):=by
  intro m
  induction m with
  | zero=>intro code _ hl _;rw [scan_end (by omega)];rfl
  | succ m ih=>
    intro code hb hl h
    have hta:(code.take (32 * m)).length=32 * m:=by rw [List.length_take];omega
    have ba:Go.Proofs.YteefmjhemhlapaaGreat.Bytes (code.take (32 * m)):=fun x hx=>hb x (List.mem_of_mem_take hx)
    have h1:=ih (code.take (32 * m)) ba hta (fun k hk=>by rw [bunL_take hk];exact h k (by omega))
    have h2:=h m (by omega)
    rw [← bunL_last hl] at h2
    have bb:=dropB hb (32 * m)
    obtain ⟨K,hK,hs⟩:=parts_yes ba bb (by omega) h1 h2
    rw [List.take_append_drop] at hK
    rw [hK]
    obtain ⟨e1,_,g1⟩:=scan_some ba h1
    obtain ⟨_,_,g2⟩:=scan_some bb h2
    obtain ⟨_,_,g3⟩:=scan_some hb hK
    rw [g3,hs,withPos_app,← e1,hta,← g1,Nat.zero_add,show 32 * m=32 * m+0 from rfl,withPos_shift,← g2,List.range_succ,List.flatMap_append]
    simp
theorem bun_no:∀ (m:Nat) (code:List Int),Go.Proofs.YteefmjhemhlapaaGreat.Bytes code→code.length=32 * m→(∃ k,k < m∧scanAt (bunL code k) 0=none)→scanAt code 0=none:=by
  intro m
  induction m with
  | zero=>rintro code _ _ ⟨k,hk,_⟩;omega
  | succ m ih=>
    rintro code hb hl ⟨k,hk,h⟩
    have hta:(code.take (32 * m)).length=32 * m:=by rw [List.length_take];omega
    have ba:Go.Proofs.YteefmjhemhlapaaGreat.Bytes (code.take (32 * m)):=fun x hx=>hb x (List.mem_of_mem_take hx)
    rw [← List.take_append_drop (32 * m) code]
    refine parts_no ba (dropB hb _) (by omega) ?_
    by_cases hkm:k < m
    · exact .inl (ih _ ba hta ⟨k,hkm,by rw [bunL_take hkm];exact h⟩)
    · obtain rfl:k=m:=by omega
      exact .inr (by rw [bunL_last hl];exact h)
theorem ok_bun {bun:List Int} (hb:Go.Proofs.YteefmjhemhlapaaGreat.Bytes bun) (hl:bun.length=32) {k:Nat} (hk:k < 32):okAt bun k=rdB (bun.drop k):=by
  cases h:rdB (bun.drop k)
  · cases ho:okAt bun k
    · rfl
    · rw [((ok_iff _ _).1 ho).1] at h;cases h
  · refine (ok_iff _ _).2 ⟨h,?_⟩
    have:=(rd_facts (dropB hb k) h).2.2.2.1
    rw [List.length_drop] at this
    omega
def Come (bun:List Int) (k:Nat) (B:List (Nat×InsV)):Prop:=k≤32∧B.length≤k∧(∀ p∈B,p.2.Ok)∧scanAt bun 0=(scanAt bun k).map (B ++ ·)
theorem come_0 (bun:List Int):Come bun 0 []:=⟨by omega,by simp,fun p h=>(by cases h),by simp⟩
theorem come_yes {bun:List Int} (hb:Go.Proofs.YteefmjhemhlapaaGreat.Bytes bun) (hl:bun.length=32) {k:Nat} {B:List (Nat×InsV)} (h:Come bun k B) (hk:k < 32) (hr:rdB (bun.drop k)=true) :
    (rdX (bun.drop k)).Ok∧1≤rdN (bun.drop k)∧Come bun (k+rdN (bun.drop k)) (B ++ [(k,rdX (bun.drop k))]):=by
  obtain ⟨h1,h2,h3,h4⟩:=h
  obtain ⟨f1,f2,f3,f4,_⟩:=rd_facts (dropB hb k) hr
  rw [List.length_drop] at f4
  refine ⟨f1,f2,by omega,by rw [List.length_append,List.length_singleton];omega,fun p hp=>?_,?_⟩
  · rcases List.mem_append.1 hp with hp | hp
    · exact h3 p hp
    · simp at hp;subst hp;exact f1
  · rw [h4,scan_yes hb (by omega) (by rw [ok_bun hb hl hk];exact hr),Option.map_map]
    congr 1
    funext x
    simp
theorem come_no {bun:List Int} (hb:Go.Proofs.YteefmjhemhlapaaGreat.Bytes bun) (hl:bun.length=32) {k:Nat} {B:List (Nat×InsV)} (h:Come bun k B) (hk:k < 32) (hr:rdB (bun.drop k)=false):scanAt bun 0=none:=by
  rw [h.2.2.2,scan_no (by omega) (by rw [ok_bun hb hl hk];exact hr)]
  rfl
theorem come_end {bun:List Int} (hl:bun.length=32) {B:List (Nat×InsV)} (h:Come bun 32 B):scanAt bun 0=some B:=by
  rw [h.2.2.2,scan_end (by omega)]
  simp
def bunF (code:List Int) (k:Nat):List (Nat×InsV):=(scanAt (bunL code k) 0).getD []
def accB (code:List Int) (ks:List Nat):List (Nat×InsV):=ks.flatMap fun k=>shiftP (32 * k) (bunF code k)
theorem accB_snoc (code:List Int) (ks:List Nat) (k:Nat) {B:List (Nat×InsV)} (h:scanAt (bunL code k) 0=some B):accB code (ks ++ [k])=accB code ks ++ shiftP (32 * k) B:=by
  unfold accB;simp [bunF,h]
theorem acc_all {code:List Int} (hb:Go.Proofs.YteefmjhemhlapaaGreat.Bytes code) {m:Nat} (hl:code.length=32 * m) (h:∀ k,k < m→(scanAt (bunL code k) 0).isSome=true):scanAt code 0=some (accB code (List.range m)):=by
  have:=bun_yes (bunF code) m code hb hl (fun k hk=>by
    have:=h k hk
    obtain ⟨L,hL⟩:=Option.isSome_iff_exists.1 this
    unfold bunF
    rw [hL]
    rfl)
  exact this
def posI (L:List (Nat×InsV)):List Int:=L.map fun p=>(p.1:Int)
def insI (L:List (Nat×InsV)):List InsV:=L.map Prod.snd
theorem posI_len (L:List (Nat×InsV)):(posI L).length=L.length:=List.length_map ..
theorem insI_len (L:List (Nat×InsV)):(insI L).length=L.length:=List.length_map ..
theorem posI_app (L M:List (Nat×InsV)):posI (L ++ M)=posI L ++ posI M:=List.map_append ..
theorem insI_app (L M:List (Nat×InsV)):insI (L ++ M)=insI L ++ insI M:=List.map_append ..
theorem shift_snoc (b:Nat) (L:List (Nat×InsV)) (k:Nat) (x:InsV):shiftP b (L ++ [(k,x)])=shiftP b L ++ [(b+k,x)]:=by simp [shiftP]
theorem shift_len (b:Nat) (L:List (Nat×InsV)):(shiftP b L).length=L.length:=List.length_map ..
theorem scan_ok {code:List Int} (hb:Go.Proofs.YteefmjhemhlapaaGreat.Bytes code) {L:List (Nat×InsV)} (h:scanAt code 0=some L):∀ p∈L,p.2.Ok:=by
  have key:∀ (L:List (Nat×InsV)) (i:Nat),Covers code i L→∀ p∈L,p.2.Ok:=by
    intro L
    induction L with
    | nil=>intro i _ p hp;cases hp
    | cons q t ih=>
      intro i hc p hp
      obtain ⟨j,x⟩:=q
      obtain ⟨_,_,h2,_,_,h5⟩:=hc
      rcases List.mem_cons.1 hp with rfl | hp
      · exact h2
      · exact ih _ h5 p hp
  exact key L 0 (scan_covers hb _ 0 L (Nat.le_refl _) h)
theorem covers_len {code:List Int}:∀ (L:List (Nat×InsV)) (i:Nat),Covers code i L→i≤code.length→L.length+i≤code.length:=by
  intro L
  induction L with
  | nil=>intro i _ h;simpa using h
  | cons q t ih=>
    intro i hc hi
    have hin:=covers_in _ _ hc q (by simp)
    obtain ⟨j,x⟩:=q
    obtain ⟨rfl,_,h2,_,_,h5⟩:=hc
    have:=lay_len h2
    have:=ih _ h5 hin
    simp at this ⊢
    omega
theorem scan_len {code:List Int} (hb:Go.Proofs.YteefmjhemhlapaaGreat.Bytes code) {L:List (Nat×InsV)} (h:scanAt code 0=some L):L.length≤code.length:=by
  have:=covers_len L 0 (scan_covers hb _ 0 L (Nat.le_refl _) h) (Nat.zero_le _)
  omega
theorem scanL_len {code:List Int} (hb:Go.Proofs.YteefmjhemhlapaaGreat.Bytes code):(scanL code).length≤4096:=by
  rcases scan_cases code with ⟨_,_,e⟩ | ⟨_,_,_,e⟩ | ⟨h4,L,h,_,e⟩
  · rw [e];simp
  · rw [e];simp
  · rw [e];have:=scan_len hb h;have:=((sizeB_iff _).1 h4).2.1;omega
end Go.Proofs.YteefmjhemhlapaaGreat.Mm
namespace Go.Proofs.YteefmjhemhlapaaGreat.Mm
open Go.ChangeShapes Go.WideShapes Go.ChangeAt Go.RowKit
set_option linter.unusedVariables false
set_option maxRecDepth 10000
attribute [local go_sem] Oper.semAt_some
theorem row_take {w:World} {A:Option Addr} {cap:Nat} {l:List Int} (r:RowAt w A cap l) (m:Nat):RowAt w A cap (l.take m):=by
  obtain ⟨h1,h2,h3,h4⟩:=r
  have hl:(l.take m).length≤l.length:=by rw [List.length_take];omega
  refine ⟨by omega,h2,take_byte h3 _,fun hne=>?_⟩
  obtain ⟨x,hx,hb,hc⟩:=h4 (by intro e;subst e;simp at hne)
  exact ⟨x,hx,hb,fun i hi=>by rw [hc i (by omega),getD_take' _ _ _ _ (by rw [List.length_take] at hi;omega)]⟩
theorem row_drop {w:World} {x:Addr} {cap:Nat} {l:List Int} (r:RowAt w (some x) cap l) (m:Nat):RowAt w (some (x.add m)) (cap - m) (l.drop m):=by
  obtain ⟨h1,h2,h3,h4⟩:=r
  refine ⟨by rw [List.length_drop];omega,by omega,drop_byte h3 _,fun hne=>?_⟩
  obtain ⟨y,hy,hb,hc⟩:=h4 (by intro e;subst e;simp at hne)
  injection hy with hy;subst hy
  exact ⟨_,rfl,by rw [block_add];exact hb,fun i hi=>by rw [List.length_drop] at hi;rw [add_add,hc _ (by omega),getD_drop']⟩
theorem u8_sz (w:World):(sizeOf (Tryz.prog.elem 39)).run Tryz.prog w=.ok 1 w:=by kernel_rfl
theorem u8_el:Tryz.prog.underlying 39=some (.slice (Tryz.prog.elem 39)):=by kernel_rfl
theorem slice_mid (w:World) (x:Addr) (n cap k m:Nat) (hk:k+m≤n) (hn:n≤cap) (h0:0 < m) :
    (Instr.slice 39 (.slice (some x) n cap) (some (.int .i64 k)) (some (.int .i64 ((k:Int)+m))) none).run Tryz.prog w=.ok (.slice (some (x.add k)) m (cap - k)) w:=by
  rw [run_slice_lh w 39 (some x) n cap u8_el .i64 .i64 k ((k:Int)+m) (by omega) (by omega) (by omega),u8_sz]
  simp only [Result.andThen,sliced,Int.toNat_natCast]
  rw [if_neg (by omega),Option.map_some,Nat.mul_one,show ((k:Int)+m).toNat - k=m by omega]
theorem bundles_in (F:Fence) (n:Nat) (h:F.fn 137) (hro:F.round=none) (a:Option Addr) (len cap:Nat) (w:World) :
    CallsIn F n Tryz.prog 137 #[.slice a len cap] w fun e w'=>e=.returned (.func (.func 142) #[] #[.pointer (some ⟨w.heap.size,0,none⟩)])∧w'=w.alloc (.cells #[.slice a len cap] 39):=by
  refine callsIn_of_wp Tryz.func137 rfl h ?_ hro
  simp only [Tryz.ntmps137,List.size_toArray,List.length_cons,List.length_nil,Nat.reduceAdd,Nat.reduceSub,Array.replicate_succ,Array.replicate_zero,List.push_toArray,List.append_toArray,List.nil_append,List.cons_append]
  gi_wp2
  go_ret
  exact ⟨rfl,rfl⟩
def bunE (x:Addr) (cap:Nat) (k:Nat):Array Value:=#[.int .i64 ((32 * k:Nat):Int),.slice (some (x.add (32 * k))) 32 (cap - 32 * k)]
def KpB (B:Nat) (W W':World):Prop:=∀ v,Boxed W B 39 v→Boxed W' B 39 v
theorem KpB.trans {B:Nat} {X Y Z:World} (h:KpB B X Y) (k:KpB B Y Z):KpB B X Z:=fun v hv=>k v (h v hv)
theorem KpB.put {B n:Nat} (hn:B < n) (W:World) (l:Nat) (o o':Obj) (hl:n≤l) (_:W.heap[l]?=some o) (_:o.isCells=false) (_:o.isWalk=false):KpB B W (W.putObj l o'):=fun v hv=>
  (World.putObj_heap_other (by omega)).trans hv
set_option maxRecDepth 100000 in
set_option maxHeartbeats 2000000 in
theorem iter_in (F:Fence) (n:Nat) (h:F.fn 142) (hro:F.round=none) (hn:1≤n) (l B:Nat) (x:Addr) (m len cap:Nat) (hlen:len=32 * m) (hcap:len≤cap) (hmax:len≤100000)
    (J Jx:List { k:Nat // k < m }→World→Prop)
    (hY:∀ pre y W,J pre W→pre.length < m→YieldAt F (n - 1) Tryz.prog l (bunE x cap y.1) W fun e W'=>
      (e=.returned (.bool true)∧J (pre ++ [y]) W'∧KpB B W W')∨(e=.returned (.bool false)∧Jx (pre ++ [y]) W'))
    (W:World) (hc:Boxed W B 39 (.slice (some x) len cap)) (h0:J [] W) :
    CallsIn F n Tryz.prog 142 #[.func (.yield l) #[] #[],.pointer (some ⟨B,0,none⟩)] W fun e W'=>(∃ v,e=.returned v) ∧
      ((∃ ys,ys.map (·.1)=List.range m∧J ys W')∨(∃ pre,True∧Jx pre W')):=by
  refine callsIn_of_wp Tryz.func142 rfl h ?_ hro
  simp only [Tryz.ntmps142,List.size_toArray,List.length_cons,List.length_nil,Nat.reduceAdd,Nat.reduceSub,Array.replicate_succ,Array.replicate_zero,List.push_toArray,List.append_toArray,List.nil_append,List.cons_append]
  have HL:=Lib.hid hlen
  have HC:=Lib.hid hc
  clear hlen hc
  gi_wp2
  gi_loopw [3] (fun i wr=>∃ (b k:Nat) (pre:List { k:Nat // k < m }),i=.int .i64 (b:Int)∧b≤len∧Hid (b=32 * k)∧Hid (pre.map (·.1)=List.range k)∧J pre wr∧Hid (Boxed wr B 39 (.slice (some x) len cap))) (fun i _=>len - (intOf i).toNat)
  case atStart=>exact ⟨0,0,[],rfl,Nat.zero_le _,Lib.hid rfl,Lib.hid rfl,h0,HC⟩
  case round=>
    obtain ⟨b,k,pre,rfl,hbl,HK,HP,hJs,HB⟩:=hrel
    have hcx:=HB.out.cell
    by_cases hlt:b < len
    · have hk:k < m:=by have:=HK.out;have:=HL.out;omega
      obtain ⟨fn,tmps,assign,body,hy,hR⟩:=hY pre ⟨k,hk⟩ wr hJs (by have:=congrArg List.length HP.out;rw [List.length_map,List.length_range] at this;omega)
      simp only [bunE,← HK.out] at hy
      have hb32:b+32≤len:=by have:=HK.out;have:=HL.out;omega
      have hsl:=fun w=>slice_mid w x len cap b 32 hb32 hcap (by omega)
      have HS:Hid (∀ w,(Instr.slice 39 (.slice (some x) len cap) (some (.int .i64 b)) (some (.int .i64 ((b:Int)+32))) none).run Tryz.prog w=.ok (.slice (some (x.add b)) 32 (cap - b)) w):=Lib.hid hsl
      clear hsl
      have hsl:=HS.out
      gi_wp2
      refine hR.mono ?_
      rintro e W3 (⟨rfl,hJ3,hk3⟩ | ⟨rfl,hJx3⟩)
      · have HB3:=Lib.hid (hk3 _ HB.out)
        clear hk3
        gi_wp2
        go_roundw
        case rel=>exact ⟨b+32,k+1,pre ++ [⟨k,hk⟩],by simp,hb32,Lib.hid (by have:=HK.out;omega),Lib.hid (by rw [List.map_append,HP.out,List.range_succ];rfl),hJ3,HB3⟩
        case measure=>simp [intOf];omega
      · gi_wp2
        refine bodyPost_ret (results_none rfl _ _ _) rfl ?_
        exact ⟨⟨_,rfl⟩,.inr ⟨_,trivial,hJx3⟩⟩
    · have hm:k=m:=by have:=HK.out;have:=HL.out;omega
      subst hm
      gi_wp2
      go_end0
      exact ⟨⟨_,rfl⟩,.inl ⟨pre,HP.out,hJs⟩⟩
theorem Boxed.same {w w':World} {B:Nat} {t:TypeId} {v:Value} (h:Boxed w B t v) (e:w'.heap[B]?=w.heap[B]?):Boxed w' B t v:=e.trans h
theorem Boxed.below {w w':World} {B:Nat} {t:TypeId} {v:Value} (h:Boxed w B t v) (b:Below w.heap.size w w'):Boxed w' B t v:=Boxed.same h (b.block _ h.lt)
theorem iter_stops (F:Fence) (n:Nat) (h:F.fn 142) (hro:F.round=none) (hn:1≤n) (B:Nat) (x:Addr) (m len cap:Nat) (hlen:len=32 * m) (hcap:len≤cap) (hmax:len≤100000) (w:World)
    (hc:Boxed w B 39 (.slice (some x) len cap)) :
    SeqStopsK F n Tryz.prog 142 #[.pointer (some ⟨B,0,none⟩)] (fun y:{ k:Nat // k < m } =>bunE x cap y.1) (KpB B) (fun ys=>ys.map (·.1)=List.range m) (fun _=>True) m w:=fun l J Jx W hW hJ hJx hY h0=>
  iter_in F n h hro hn l B x m len cap hlen hcap hmax J Jx hY W (Boxed.below hc hW) h0
end Go.Proofs.YteefmjhemhlapaaGreat.Mm
namespace Go.Proofs.YteefmjhemhlapaaGreat.Mm
open Go.ChangeShapes Go.WideShapes Go.ChangeAt Go.RowKit
set_option linter.unusedVariables false
set_option maxRecDepth 10000
theorem boxed_kept {A B:World} {b:Nat} {t:TypeId} {v:Value} (h:Boxed A b t v) {row:Option Nat} (hg:A.grownBy B row) (hr:∀ r,row=some r→∃ o:Obj,A.heap[r]?=some o∧o.isCells=false):Boxed B b t v:=
  h.kept hg (fun e=>by obtain ⟨o,ho,hc⟩:=hr b e.symm;rw [show A.heap[b]?=_ from h] at ho;cases ho;cases hc)
theorem own_kept {A B:World} {base size n:Nat} {e:TypeId} {v:Value} {xs:List Value} (h:A.ownsRow base e size v n xs) {row:Option Nat} (hg:A.grownBy B row) (hr:∀ r,row=some r→∃ o:Obj,A.heap[r]?=some o∧o.isCells=false):B.ownsRow base e size v n xs:=by
  refine h.kept hg ?_
  rcases h.2 with ⟨rfl,_⟩ | ⟨g,cap,cur,rfl,_,hgb,_⟩
  · exact .inl rfl
  · refine .inr fun e'=>?_
    obtain ⟨o,ho,hc⟩:=hr g (by simpa [Value.ownBlock] using e'.symm)
    rw [hgb] at ho;cases ho;cases hc
theorem boxed_other {W:World} {b b':Nat} {t:TypeId} {v:Value} (h:Boxed W b t v) (hne:b≠b') (u:Value):Boxed (W.setCell ⟨b',0,none⟩ u) b t v:=
  h.kept (grownBy_setCell' W b' u) (fun e=>hne (by injection e))
theorem own_box {W:World} {base size n b:Nat} {e t:TypeId} {v u u':Value} {xs:List Value} (h:W.ownsRow base e size v n xs) (hb:Boxed W b t u) (hne:t≠e):(W.setCell ⟨b,0,none⟩ u').ownsRow base e size v n xs:=
  h.kept (grownBy_setCell' W b u') (.inr (hb.not_row hne h).symm)
structure RdT (s:Nat) (cv:Value) (u1 u2 v1 v2:Value) (n1 n2:Nat) (A:List Int) (B:List InsV) (W:World):Prop where
  r0:Boxed W s 128 (.slice none 0 0)
  r1:Boxed W (s+1) 129 (.slice none 0 0)
  r2:Boxed W (s+2) 27 (.int .i64 0)
  b1:Boxed W (s+3) 128 u1
  b2:Boxed W (s+4) 129 u2
  code:Boxed W (s+5) 39 cv
  o1:W.ownsRow s 3 1 v1 n1 (A.map (Value.int .i64))
  o2:W.ownsRow s 134 4 v2 n2 (B.flatMap insC)
section
variable {s n1 n2:Nat} {cv u1 u2 v1 v2:Value} {A:List Int} {B:List InsV} {W W':World}
theorem RdT.own (h:RdT s cv u1 u2 v1 v2 n1 n2 A B W) {row:Option Nat} (hg:W.grownBy W' row) (hr:∀ r,row=some r→∃ o:Obj,W.heap[r]?=some o∧o.isCells=false):RdT s cv u1 u2 v1 v2 n1 n2 A B W':=
  ⟨boxed_kept h.r0 hg hr,boxed_kept h.r1 hg hr,boxed_kept h.r2 hg hr,boxed_kept h.b1 hg hr,boxed_kept h.b2 hg hr,boxed_kept h.code hg hr,own_kept h.o1 hg hr,own_kept h.o2 hg hr⟩
theorem grown_below {w w':World} (b:Below w.heap.size w w'):w.grownBy w' none:=⟨b.os,b.tape,b.output,b.size,fun k hk _=>b.block k hk⟩
theorem RdT.below (h:RdT s cv u1 u2 v1 v2 n1 n2 A B W) (b:Below W.heap.size W W'):RdT s cv u1 u2 v1 v2 n1 n2 A B W':=h.own (grown_below b) (fun r e=>by cases e)
theorem RdT.alloc (h:RdT s cv u1 u2 v1 v2 n1 n2 A B W) (o:Obj):RdT s cv u1 u2 v1 v2 n1 n2 A B (W.alloc o):=h.own (World.grownBy_alloc W o none) (fun r e=>by cases e)
theorem RdT.drew (h:RdT s cv u1 u2 v1 v2 n1 n2 A B W):RdT s cv u1 u2 v1 v2 n1 n2 A B W.drew:=h.below (Below.refl _ _).drew
theorem RdT.size (h:RdT s cv u1 u2 v1 v2 n1 n2 A B W):s+5 < W.heap.size:=h.code.lt
theorem RdT.app1 (h:RdT s cv u1 u2 v1 v2 n1 n2 A B W) {v1':Value} {n1':Nat} {A':List Int} (hg:W.grownBy W' v1.ownBlock) (o:W'.ownsRow s 3 1 v1' n1' (A'.map (Value.int .i64))):RdT s cv u1 u2 v1' v2 n1' n2 A' B W':=
  ⟨h.r0.kept hg (h.r0.not_row (by decide) h.o1),h.r1.kept hg (h.r1.not_row (by decide) h.o1),h.r2.kept hg (h.r2.not_row (by decide) h.o1),h.b1.kept hg (h.b1.not_row (by decide) h.o1),h.b2.kept hg (h.b2.not_row (by decide) h.o1),h.code.kept hg (h.code.not_row (by decide) h.o1),o,own_apart h.o2 h.o1 (by decide) hg⟩
theorem RdT.app2 (h:RdT s cv u1 u2 v1 v2 n1 n2 A B W) {v2':Value} {n2':Nat} {B':List InsV} (hg:W.grownBy W' v2.ownBlock) (o:W'.ownsRow s 134 4 v2' n2' (B'.flatMap insC)):RdT s cv u1 u2 v1 v2' n1 n2' A B' W':=
  ⟨h.r0.kept hg (h.r0.not_row (by decide) h.o2),h.r1.kept hg (h.r1.not_row (by decide) h.o2),h.r2.kept hg (h.r2.not_row (by decide) h.o2),h.b1.kept hg (h.b1.not_row (by decide) h.o2),h.b2.kept hg (h.b2.not_row (by decide) h.o2),h.code.kept hg (h.code.not_row (by decide) h.o2),own_apart h.o1 h.o2 (by decide) hg,o⟩
theorem RdT.put1 (h:RdT s cv u1 u2 v1 v2 n1 n2 A B W) (u:Value):RdT s cv u u2 v1 v2 n1 n2 A B (W.setCell ⟨s+3,0,none⟩ u):=
  ⟨boxed_other h.r0 (by omega) _,boxed_other h.r1 (by omega) _,boxed_other h.r2 (by omega) _,h.b1.set u,boxed_other h.b2 (by omega) _,boxed_other h.code (by omega) _,own_box h.o1 h.b1 (by decide),own_box h.o2 h.b1 (by decide)⟩
theorem RdT.put2 (h:RdT s cv u1 u2 v1 v2 n1 n2 A B W) (u:Value):RdT s cv u1 u v1 v2 n1 n2 A B (W.setCell ⟨s+4,0,none⟩ u):=
  ⟨boxed_other h.r0 (by omega) _,boxed_other h.r1 (by omega) _,boxed_other h.r2 (by omega) _,boxed_other h.b1 (by omega) _,h.b2.set u,boxed_other h.code (by omega) _,own_box h.o1 h.b2 (by decide),own_box h.o2 h.b2 (by decide)⟩
theorem row_cells {base e size n:Nat} {v:Value} {xs:List Value} (h:W.ownsRow base e size v n xs):∀ j o,v.ownBlock=some j→W.heap[j]?=some o→o.isCells=true:=by
  intro j o hj ho
  rcases h.2 with ⟨rfl,_⟩ | ⟨g,cap,cur,rfl,_,hgb,_⟩
  · simp [Value.ownBlock] at hj
  · simp [Value.ownBlock] at hj
    subst hj
    rw [hgb] at ho;cases ho;rfl
end
def Ins4 (W:World) (g:Nat) (y:InsV):Prop:=W.heap[g]?=some (.cells #[.int .i64 y.op,.int .i64 y.a,.int .i64 y.b,.int .u32 y.imm] 134 (0,0))
theorem Ins4.new (W:World) (y:InsV):Ins4 (W.alloc (.cells #[.int .i64 y.op,.int .i64 y.a,.int .i64 y.b,.int .u32 y.imm] 134)) W.heap.size y:=World.alloc_heap_new W _
theorem Ins4.hasB {W:World} {g:Nat} {y:InsV} (h:Ins4 W g y):HasB W g 134 (insC y):=h
theorem Ins4.at {W:World} {g:Nat} {y:InsV} (h:Ins4 W g y):InsAt W ⟨g,0,none⟩ y:=⟨h.hasB.cell 0,h.hasB.cell 1,h.hasB.cell 2,h.hasB.cell 3⟩
theorem Ins4.below {W W':World} {g:Nat} {y:InsV} (h:Ins4 W g y) (b:Below W.heap.size W W'):Ins4 W' g y:=(b.block _ h.hasB.lt).trans h
theorem Ins4.app {W W':World} {g:Nat} {y:InsV} (h:Ins4 W g y) {base size n:Nat} {v:Value} {xs:List Value} (o:W.ownsRow base 3 size v n xs) (hg:W.grownBy W' v.ownBlock):Ins4 W' g y:=by
  refine (hg.block g h.hasB.lt ?_).trans h
  intro e
  rcases o.2 with ⟨rfl,_⟩ | ⟨g2,cap,cur,rfl,_,hgb,_⟩
  · simp [Value.ownBlock] at e
  · simp [Value.ownBlock] at e
    subst e
    have:=h
    unfold Ins4 at this
    rw [hgb] at this
    simp at this
theorem keeps_app {W W':World} {base e size n:Nat} {v:Value} {xs:List Value} (h:W.ownsRow base e size v n xs) (hg:W.grownBy W' v.ownBlock):KeepsOthers W W':=
  KeepsOthers.of_grownBy hg (fun j o ej hj=>row_cells h j o ej hj)
theorem keeps_below {W W':World} (b:Below W.heap.size W W'):KeepsOthers W W':=⟨b.size,fun k o hk _=>(b.block k (Array.getElem?_eq_some_iff.1 hk).1).trans hk⟩
end Go.Proofs.YteefmjhemhlapaaGreat.Mm
