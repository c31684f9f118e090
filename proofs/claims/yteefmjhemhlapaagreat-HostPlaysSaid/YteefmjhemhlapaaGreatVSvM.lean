/- Regions apart (chapter 11): what Take, Add and Drop answer, as sums; a row that is told again in a longer one. -/
import Derived.Test.YteefmjhemhlapaaGreatVStA
import Derived.Test.YteefmjhemhlapaaGreatVGoalMath
import Derived.Test.YteefmjhemhlapaaGreatVBaM
namespace Go.Proofs.YteefmjhemhlapaaGreat.Mm
open Go.RowKit
set_option linter.unusedVariables false
set_option maxRecDepth 10000

def posN (L:List (Nat×InsV)) (k:Nat):Nat:=(L.getD k dfl).1
def insN (L:List (Nat×InsV)) (k:Nat):InsV:=(L.getD k dfl).2
structure AtK (code:List Int) (L:List (Nat×InsV)) (k:Nat):Prop where
  ok:(insN L k).Ok
  fit:posN L k % 32+(insN L k).lay.length≤32
  byt:(code.drop (posN L k)).take (insN L k).lay.length=(insN L k).lay
  ends:posN L k+(insN L k).lay.length≤code.length
  nxt:k+1 < L.length→posN L (k+1)=posN L k+(insN L k).lay.length
  lst:k+1=L.length→posN L k+(insN L k).lay.length=code.length
  len:1≤(insN L k).lay.length∧(insN L k).lay.length≤6
def PlcI (code:List Int) (L:List (Nat×InsV)) (i b:Nat):Prop:=Covers code b (L.drop i)∧b≤code.length
theorem plcI_step {code:List Int} {L:List (Nat×InsV)} {i b:Nat} (h:PlcI code L i b) (hi:i < L.length) :
    posN L i=b∧(insN L i).Ok∧b % 32+(insN L i).lay.length≤32∧(code.drop b).take (insN L i).lay.length=(insN L i).lay ∧
      b+(insN L i).lay.length≤code.length∧PlcI code L (i+1) (b+(insN L i).lay.length):=by
  obtain ⟨h1,h2⟩:=h
  rw [List.drop_eq_getElem_cons hi] at h1
  have e1:posN L i=(L[i]).1:=by simp [posN,List.getD,hi]
  have e2:insN L i=(L[i]).2:=by simp [insN,List.getD,hi]
  rw [e1,e2]
  generalize L[i]=p at h1
  obtain ⟨j,x⟩:=p
  obtain ⟨rfl,k1,k2,k3,k4,k5⟩:=h1
  have hx:=lay_len k2
  have k6:j+x.lay.length≤code.length:=by
    have:=congrArg List.length k4
    rw [List.length_take,List.length_drop] at this
    omega
  exact ⟨rfl,k2,k3,k4,k6,k5,k6⟩
theorem plcI_end {code:List Int} {L:List (Nat×InsV)} {b:Nat} (h:PlcI code L L.length b):b=code.length:=by
  obtain ⟨h1,h2⟩:=h
  rw [List.drop_length] at h1
  have:code.length≤b:=h1
  omega
theorem plcI_at {code:List Int} {L:List (Nat×InsV)} (h:PlcI code L 0 0):∀ k,k < L.length→PlcI code L k (posN L k):=by
  intro k
  induction k with
  | zero=>
    intro hk
    have:=(plcI_step h hk).1
    rw [this];exact h
  | succ k ih=>
    intro hk
    obtain ⟨_,_,_,_,_,h6⟩:=plcI_step (ih (by omega)) (by omega)
    have:=(plcI_step h6 hk).1
    rw [this];exact h6
theorem scan_plc {code:List Int} (hb:Go.Proofs.YteefmjhemhlapaaGreat.Bytes code) (h:scanE code=0):PlcI code (scanL code) 0 0:=by
  rcases scan_cases code with ⟨_,e,_⟩ | ⟨_,_,e,_⟩ | ⟨_,L,hs,_,e⟩
  · rw [e] at h;cases h
  · rw [e] at h;cases h
  · rw [e]
    exact ⟨scan_covers hb _ 0 L (Nat.le_refl _) hs,Nat.zero_le _⟩
theorem at_k {code:List Int} (hb:Go.Proofs.YteefmjhemhlapaaGreat.Bytes code) (h:scanE code=0) {k:Nat} (hk:k < (scanL code).length):AtK code (scanL code) k:=by
  obtain ⟨_,h2,h3,h4,h5,h6⟩:=plcI_step (plcI_at (scan_plc hb h) k hk) hk
  refine ⟨h2,h3,h4,h5,fun hn=>(plcI_step h6 hn).1,fun he=>?_,lay_len h2⟩
  rw [he] at h6
  exact plcI_end h6
theorem place_first {code:List Int} (hb:Go.Proofs.YteefmjhemhlapaaGreat.Bytes code) (h:scanE code=0) (hl:0 < (scanL code).length):posN (scanL code) 0=0:=(plcI_step (scan_plc hb h) hl).1
theorem scan_nonempty {code:List Int} (hb:Go.Proofs.YteefmjhemhlapaaGreat.Bytes code) (h:scanE code=0) (hl:0 < code.length):0 < (scanL code).length:=by
  rcases Nat.eq_zero_or_pos (scanL code).length with e | e
  · have:=plcI_end (L:=scanL code) (code:=code) (b:=0) (by rw [e];exact scan_plc hb h)
    omega
  · exact e
theorem at_32 {code:List Int} (hb:Go.Proofs.YteefmjhemhlapaaGreat.Bytes code) (h:scanE code=0) (t:Nat) (ht:32 * t < code.length):∃ k,k < (scanL code).length∧posN (scanL code) k=32 * t:=by
  have key:∀ j,j≤(scanL code).length→(∃ k,k < (scanL code).length∧posN (scanL code) k=32 * t)∨∀ i,i < j→posN (scanL code) i+(insN (scanL code) i).lay.length≤32 * t:=by
    intro j
    induction j with
    | zero=>intro _;exact .inr fun i hi=>by omega
    | succ j ih=>
      intro hj
      rcases ih (by omega) with hh | hh
      · exact .inl hh
      · have hA:=at_k hb h (k:=j) (by omega)
        by_cases he:posN (scanL code) j=32 * t
        · exact .inl ⟨j,by omega,he⟩
        · have hle:posN (scanL code) j≤32 * t:=by
            rcases Nat.eq_zero_or_pos j with h0 | h0
            · subst h0;rw [place_first hb h (by omega)];omega
            · obtain ⟨i,rfl⟩:∃ i,j=i+1:=⟨j - 1,by omega⟩
              rw [(at_k hb h (k:=i) (by omega)).nxt (by omega)]
              exact hh i (by omega)
          refine .inr fun i hi=>?_
          rcases Nat.lt_or_ge i j with hlt | hge
          · exact hh i hlt
          · obtain rfl:i=j:=by omega
            have:=hA.fit
            omega
  have hl:=scan_nonempty hb h (by omega)
  rcases key _ (Nat.le_refl _) with hh | hh
  · exact hh
  · obtain ⟨z,hz⟩:∃ z,(scanL code).length=z+1:=⟨(scanL code).length - 1,by omega⟩
    have h1:=hh z (by omega)
    have h2:=(at_k hb h (k:=z) (by omega)).lst hz.symm
    omega
def UpV (base half:Nat) (v:Int):Prop:=(base:Int)+half≤v∧v < (base:Int)+2 * half
def LoV (base half:Nat) (v:Int):Prop:=∃ t:Nat,v=(base:Int)+32 * t∧32 * t < half
theorem data_up {base half:Nat} (h0:0 < half) (hN:base+2 * half≤1000000) (v:Int) (hv:U32 v):UpV base half (dataV base (2 * half:Int) v):=by
  have e:(2 * (half:Int)) / 2=half:=by omega
  unfold dataV restV
  rw [e,if_neg (by omega)]
  have h1:=Int.emod_nonneg v (show (half:Int)≠0 by omega)
  have h2:=Int.emod_lt_of_pos v (show (0:Int) < half by omega)
  generalize v % (half:Int)=r at *
  have w1:IntKind.u32.wrap (r+base)=r+base:=by show (r+base) % 4294967296=r+base;omega
  rw [w1]
  have w2:IntKind.u32.wrap (r+base+half)=r+base+half:=by show (r+base+half) % 4294967296=r+base+half;omega
  rw [w2]
  exact ⟨by omega,by omega⟩
theorem code_lo {base half:Nat} (h0:0 < half) (hN:base+2 * half≤1000000) (v:Int) (hv:U32 v):LoV base half (codeV base (2 * half:Int) v):=by
  have e:(2 * (half:Int)) / 2=half:=by omega
  unfold codeV restV
  rw [e,if_neg (by omega)]
  have h1:=Int.emod_nonneg v (show (half:Int)≠0 by omega)
  have h2:=Int.emod_lt_of_pos v (show (0:Int) < half by omega)
  generalize v % (half:Int)=r at *
  have w1:IntKind.u32.wrap (r - r % 32+base)=r - r % 32+base:=by show (r - r % 32+base) % 4294967296=r - r % 32+base;omega
  rw [w1]
  exact ⟨(r / 32).toNat,by omega,by omega⟩
def SecOk (base half:Nat) (c:Cp) (x:InsV):Prop:=(x.op=15→UpV base half (c.reg x.b))∧(x.op=16→UpV base half (c.reg x.a))∧(x.op=21→LoV base half (c.reg x.a))
theorem sec_free {base half:Nat} {c:Cp} {x:InsV} (h:useB x=false):SecOk base half c x:=by
  have:x.op≠15∧x.op≠16∧x.op≠21:=by
    unfold useB at h
    simpa [and_assoc] using h
  exact ⟨fun e=>absurd e this.1,fun e=>absurd e this.2.1,fun e=>absurd e this.2.2⟩
def PcI (code:List Int) (base half:Nat) (c:Cp) (p:Nat):Prop:=
  p < half∧(code.length≤p∨∃ k,k < (scanL code).length∧posN (scanL code) k=p∧SecOk base half c (insN (scanL code) k))
structure SafeI (code:List Int) (base half:Nat) (B0:List Int) (c:Cp) (B:List Int):Prop where
  ok:c.Ok
  cb:c.b=base
  cs:c.s=2 * (half:Int)
  byt:Bytes B
  len:B.length=B0.length
  same:∀ i,i < base+half∨base+2 * half+3≤i→B.getD i 0=B0.getD i 0
  pc:∃ p:Nat,c.pc=(base:Int)+p∧PcI code base half c p
structure Regn (code:List Int) (base half z:Nat) (B0:List Int):Prop where
  h0:32≤half
  hN:base+2 * half+3≤64 * z
  hz:z≤1000
  hl:B0.length=64 * z
  hc:code.length < half
  hb:Go.Proofs.YteefmjhemhlapaaGreat.Bytes code
  hm:mayE code=0
  low:∀ i,i < half→B0.getD (base+i) 0=code.getD i 0
theorem all_true (z:Nat) (a n:Nat) (h:a+n≤64 * z):wholeB (List.replicate z true) a n=true:=by
  unfold wholeB
  rw [Bool.and_eq_true,liesB_iff,thr_iff]
  refine ⟨⟨by omega,by omega,by rw [List.length_replicate];push_cast;omega⟩,fun i hi=>?_⟩
  have hi2:(a+i) / 64 < z:=by
    have:i < n:=by simpa using hi
    have e:(a:Int).toNat=a:=by omega
    omega
  rw [Int.toNat_natCast]
  simp [List.getD,hi2]
theorem fet_all (z a:Nat) (h:a+6≤64 * z):fet (List.replicate z true) (a:Int) 6=6:=by
  unfold fet
  rw [if_pos (all_true z a 6 h)]
section
variable {code:List Int} {base half z:Nat} {B0 B:List Int} {c:Cp}
theorem Regn.scan (R:Regn code base half z B0):ruleE code=0∧scanE code=0∧mayB (scanL code)=true∧ruleB (scanL code)=true:=by
  obtain ⟨h1,h2,_⟩:=may_0 R.hm
  obtain ⟨h3,_,h4⟩:=rule_scan h1
  exact ⟨h1,h3,h2,h4⟩
theorem fetch_low (R:Regn code base half z B0) (I:SafeI code base half B0 c B) {p:Nat} (hp:c.pc=(base:Int)+p) (h:p < half) :
    codeL B (List.replicate z true) c.pc=(B.drop (base+p)).take 6:=by
  have e:c.pc=((base+p:Nat):Int):=by rw [hp];push_cast;rfl
  unfold codeL
  rw [e,Int.toNat_natCast,fet_all z (base+p) (by have:=R.hN;have:=R.h0;omega)]
theorem low_byte (R:Regn code base half z B0) (I:SafeI code base half B0 c B) {i:Nat} (h:i < half):B.getD (base+i) 0=code.getD i 0:=by
  rw [I.same _ (.inl (by omega)),R.low i h]
theorem take_low (R:Regn code base half z B0) (I:SafeI code base half B0 c B) {p n:Nat} (h:p+n≤code.length):(B.drop (base+p)).take n=(code.drop p).take n:=by
  have hB:B.length=64 * z:=I.len.trans R.hl
  have hN:=R.hN
  have hc:=R.hc
  apply List.ext_getElem
  · rw [List.length_take,List.length_take,List.length_drop,List.length_drop];omega
  · intro i h1 h2
    have hi:i < n:=by rw [List.length_take] at h1;omega
    have hb:=low_byte R I (i:=p+i) (by omega)
    have e1:((B.drop (base+p)).take n)[i]=B.getD (base+(p+i)) 0:=by
      simp [List.getElem_take,List.getElem_drop,List.getD,show base+(p+i) < B.length by omega,Nat.add_assoc]
    have e2:((code.drop p).take n)[i]=code.getD (p+i) 0:=by
      simp [List.getElem_take,List.getElem_drop,List.getD,show p+i < code.length by omega]
    rw [e1,e2,hb]
theorem step_behind (R:Regn code base half z B0) (I:SafeI code base half B0 c B) {p:Nat} (hp:c.pc=(base:Int)+p) (h:p < half) (hl:code.length≤p) {x:Ou} (hx:StepIs c B (List.replicate z true) x):x=⟨c,B,1,0⟩:=by
  have hf:=fetch_low R I hp h
  have hB:B.length=64 * z:=I.len.trans R.hl
  have hN:=R.hN
  have h0:B.getD (base+p) 0=0:=by rw [low_byte R I h];simp [List.getD,hl]
  have hcons:∃ t,(B.drop (base+p)).take 6=0 :: t:=by
    have hlt:base+p < B.length:=by omega
    rw [List.drop_eq_getElem_cons hlt,List.take_succ_cons]
    refine ⟨(B.drop (base+p+1)).take 5,?_⟩
    rw [show B[base+p]=0 by rw [← h0];simp [List.getD,hlt]]
  obtain ⟨t,ht⟩:=hcons
  have hRd:Rd (codeL B (List.replicate z true) c.pc) 0 0 0 0 1:=by
    rw [hf,ht]
    have:=rd_of_lay 0 0 0 0 (by decide) (by decide) t
    rwa [show layL 0 0 0 0=[0] by decide,show szO 0=1 by decide] at this
  rcases hx with ⟨h1,rfl⟩ | ⟨h1,h2,rfl⟩ | ⟨op,a,b,imm,n,h1,rfl⟩
  · rw [hf,ht] at h1;cases h1
  · have:=hRd.1;rw [h2] at this;cases this
  · obtain ⟨rfl,rfl,rfl,rfl,rfl⟩:=rd_fun h1 hRd
    rw [exec_0]
theorem step_at (R:Regn code base half z B0) (I:SafeI code base half B0 c B) {k:Nat} (hk:k < (scanL code).length) (hp:c.pc=(base:Int)+posN (scanL code) k) {x:Ou} (hx:StepIs c B (List.replicate z true) x) :
    x=exec c (c.setPc ((base:Int)+(posN (scanL code) k+(insN (scanL code) k).lay.length:Nat))) B (List.replicate z true) (insN (scanL code) k).op (insN (scanL code) k).a (insN (scanL code) k).b (insN (scanL code) k).imm:=by
  obtain ⟨_,hs,_,_⟩:=R.scan
  have A:=at_k R.hb hs hk
  have hc:=R.hc
  have hN:=R.hN
  have hz:=R.hz
  have hends:=A.ends
  have hf:=fetch_low R I hp (by omega)
  have hsz:szO (insN (scanL code) k).op=((insN (scanL code) k).lay.length:Int):=(layL_len A.ok.1).symm
  have hRd:Rd (codeL B (List.replicate z true) c.pc) (insN (scanL code) k).op (insN (scanL code) k).a (insN (scanL code) k).b (insN (scanL code) k).imm (szO (insN (scanL code) k).op):=by
    have e:(B.drop (base+posN (scanL code) k)).take 6=(insN (scanL code) k).lay ++ ((B.drop (base+posN (scanL code) k)).take 6).drop (insN (scanL code) k).lay.length:=by
      have h1:=List.take_append_drop (insN (scanL code) k).lay.length ((B.drop (base+posN (scanL code) k)).take 6)
      rw [List.take_take,Nat.min_eq_left A.len.2,take_low R I A.ends,A.byt] at h1
      exact h1.symm
    rw [hf,e]
    exact rd_of_lay _ _ _ _ A.ok.1 A.ok.2.1 _
  have hw:IntKind.u32.wrap (c.pc+szO (insN (scanL code) k).op)=(base:Int)+(posN (scanL code) k+(insN (scanL code) k).lay.length:Nat):=by
    rw [hp,hsz]
    show ((base:Int)+posN (scanL code) k+(insN (scanL code) k).lay.length) % 4294967296=_
    push_cast
    omega
  rcases hx with ⟨h1,rfl⟩ | ⟨h1,h2,rfl⟩ | ⟨op,a,b,imm,n,h1,rfl⟩
  · obtain ⟨_,t,e,_⟩:=hRd;rw [h1] at e;cases e
  · have:=hRd.1;rw [h2] at this;cases this
  · obtain ⟨e1,e2,e3,e4,e5⟩:=rd_fun h1 hRd
    rw [e1,e2,e3,e4,e5,hw]
theorem pair_first {x y:InsV} (h:pairB x y=true):(x.op=17∧((y.op=15∧x.a=y.b)∨(y.op=16∧x.a=y.a)))∨(x.op=18∧y.op=21∧x.a=y.a):=by
  unfold pairB at h
  split at h
  · rename_i h1
    have:x.op=17∧x.a=y.b:=by simpa using h
    exact .inl ⟨this.1,.inl ⟨h1,this.2⟩⟩
  · split at h
    · rename_i _ h1
      have:x.op=17∧x.a=y.a:=by simpa using h
      exact .inl ⟨this.1,.inr ⟨h1,this.2⟩⟩
    · have:y.op=21∧x.op=18∧x.a=y.a:=by simpa using h
      exact .inr ⟨this.2.1,this.1,this.2.2⟩
theorem reg_set {c:Cp} (o:c.Ok) (q a v:Int) (h0:0≤a) (h1:a≤7):((c.setPc q).setR a v).reg a=v:=by
  have h:a.toNat < c.r.length:=by rw [o.len];omega
  show (c.r.set a.toNat v).getD a.toNat 0=v
  simp [List.getD,h]
theorem sec_use {L:List (Nat×InsV)} (hr:ruleB L=true) {k:Nat} (hk:k < L.length) (hu:useB (insN L k)=true):posN L k % 32≠0∧pairB (insN L (k - 1)) (insN L k)=true:=by
  have h:=(ruleB_iff L).1 hr k hk
  unfold standsB at h
  change (!gateB (insN L k) && (!useB (insN L k) || (decide (posN L k % 32≠0) && pairB (insN L (k - 1)) (insN L k))))=true at h
  rw [hu] at h
  simpa using (by simpa using h:_∧_∧_).2
theorem fall (R:Regn code base half z B0) {k:Nat} (hk:k < (scanL code).length) {d:Cp} (hp:d.pc=(base:Int)+(posN (scanL code) k+(insN (scanL code) k).lay.length:Nat))
    (hpair:∀ y,pairB (insN (scanL code) k) y=true→SecOk base half d y):∃ p:Nat,d.pc=(base:Int)+p∧PcI code base half d p:=by
  obtain ⟨_,hs,_,hr⟩:=R.scan
  have A:=at_k R.hb hs hk
  have hc:=R.hc
  have hends:=A.ends
  refine ⟨_,hp,by omega,?_⟩
  by_cases hn:k+1 < (scanL code).length
  · refine .inr ⟨k+1,hn,A.nxt hn,?_⟩
    cases hu:useB (insN (scanL code) (k+1))
    · exact sec_free hu
    · have:=(sec_use hr hn hu).2
      rw [Nat.add_sub_cancel] at this
      exact hpair _ this
  · exact .inl (by rw [A.lst (by omega)];exact Nat.le_refl _)
theorem fall' (R:Regn code base half z B0) {k:Nat} (hk:k < (scanL code).length) {d:Cp} (hp:d.pc=(base:Int)+(posN (scanL code) k+(insN (scanL code) k).lay.length:Nat))
    (h1:(insN (scanL code) k).op≠17) (h2:(insN (scanL code) k).op≠18):∃ p:Nat,d.pc=(base:Int)+p∧PcI code base half d p:=
  fall R hk hp fun y hy=>by
    rcases pair_first hy with ⟨h,_⟩ | ⟨h,_⟩
    · exact absurd h h1
    · exact absurd h h2
theorem jump (R:Regn code base half z B0) {k:Nat} (hk:k < (scanL code).length) (hj:jmpB (insN (scanL code) k)=true) (hi:U32 (insN (scanL code) k).imm) {d:Cp}
    (hp:d.pc=IntKind.u32.wrap ((base:Int)+(posN (scanL code) k+(insN (scanL code) k).lay.length:Nat)+(insN (scanL code) k).imm)):∃ p:Nat,d.pc=(base:Int)+p∧PcI code base half d p:=by
  obtain ⟨_,hs,hm,hr⟩:=R.scan
  have A:=at_k R.hb hs hk
  have hf:=(may_iff _).1 hm k hk hj
  unfold foundB at hf
  obtain ⟨q,hq,hh⟩:=List.any_eq_true.1 hf
  have hg:((q.1:Int))=goalV ((scanL code).getD k dfl)∧¬ q.1∈secP (scanL code):=by simpa [hitB] using hh
  obtain ⟨j,hj2,rfl⟩:=List.mem_iff_getElem.1 hq
  have hgd:(scanL code).getD j dfl=(scanL code)[j]:=getD_el _ _ _ hj2
  rw [← hgd] at hg
  have hc:=R.hc
  have hN:=R.hN
  have hz:=R.hz
  have hpl:=(at_k R.hb hs hj2).ends
  have hpl2:=(at_k R.hb hs hj2).len
  have hsz:szO (insN (scanL code) k).op=((insN (scanL code) k).lay.length:Int):=(layL_len A.ok.1).symm
  have he:goalV ((scanL code).getD k dfl)=(posN (scanL code) k:Int)+szO (insN (scanL code) k).op+wrap32 (insN (scanL code) k).imm:=rfl
  have hg1:(posN (scanL code) j:Int)=(posN (scanL code) k:Int)+szO (insN (scanL code) k).op+wrap32 (insN (scanL code) k).imm:=hg.1.trans he
  refine ⟨posN (scanL code) j,?_,by omega,.inr ⟨j,hj2,rfl,sec_free ?_⟩⟩
  · rw [hp]
    show ((base:Int)+(posN (scanL code) k+(insN (scanL code) k).lay.length:Nat)+(insN (scanL code) k).imm) % 4294967296=_
    rw [hsz] at hg1
    unfold wrap32 at hg1
    obtain ⟨i0,i1⟩:=hi
    push_cast
    omega
  · cases hu:useB (insN (scanL code) j)
    · rfl
    · exact absurd ((sec_mem (scan_rise R.hb hs) hj2).2 hu) hg.2
theorem to_bundle (R:Regn code base half z B0) {d:Cp} (h:LoV base half d.pc):∃ p:Nat,d.pc=(base:Int)+p∧PcI code base half d p:=by
  obtain ⟨_,hs,_,hr⟩:=R.scan
  obtain ⟨t,ht,hlt⟩:=h
  refine ⟨32 * t,by rw [ht];push_cast;rfl,hlt,?_⟩
  by_cases hl:code.length≤32 * t
  · exact .inl hl
  · obtain ⟨k,hk,hp⟩:=at_32 R.hb hs t (by omega)
    refine .inr ⟨k,hk,hp,sec_free ?_⟩
    cases hu:useB (insN (scanL code) k)
    · rfl
    · have:=(sec_use hr hk hu).1
      omega
theorem safe_step (R:Regn code base half z B0) (I:SafeI code base half B0 c B) {x:Ou} (hx:StepIs c B (List.replicate z true) x) :
    ((x.what=1∨x.what=4)∧x.B=B)∨((x.what=0∨x.what=2)∧SafeI code base half B0 x.c x.B):=by
  obtain ⟨p,hp,hlt,hcase⟩:=I.pc
  rcases hcase with hl | ⟨k,hk,rfl,hsec⟩
  · rw [step_behind R I hp hlt hl hx];exact .inl ⟨.inl rfl,rfl⟩
  · rw [step_at R I hk hp hx]
    obtain ⟨_,hs,_,_⟩:=R.scan
    have A:=at_k R.hb hs hk
    have hends:=A.ends
    have hc:=R.hc
    have hN:=R.hN
    have hz:=R.hz
    have h0:=R.h0
    have hB:B.length=64 * z:=I.len.trans R.hl
    have hbds:(0≤(insN (scanL code) k).op∧(insN (scanL code) k).op≤23)∧(0≤(insN (scanL code) k).a∧(insN (scanL code) k).a≤7)∧(0≤(insN (scanL code) k).b∧(insN (scanL code) k).b≤7)∧U32 (insN (scanL code) k).imm:=by
      have:=rd_bds (l:=layL (insN (scanL code) k).op (insN (scanL code) k).a (insN (scanL code) k).b (insN (scanL code) k).imm ++ []) (by rw [List.append_nil];exact layL_byte _ _ _ _) (rd_of_lay _ _ _ _ A.ok.1 A.ok.2.1 [])
      exact ⟨this.1,this.2.1,this.2.2.1,this.2.2.2.1⟩
    obtain ⟨ho,ha,hb,hi⟩:=hbds
    have hq:U32 ((base:Int)+(posN (scanL code) k+(insN (scanL code) k).lay.length:Nat)):=⟨by omega,by push_cast;omega⟩
    have okd:=I.ok.setPc hq
    have F:=fun (d:Cp) (hd:d.pc=(base:Int)+(posN (scanL code) k+(insN (scanL code) k).lay.length:Nat))=>@fall' code base half z B0 R k hk d hd
    have J:=fun (d:Cp) hj hd=>@jump code base half z B0 R k hk hj hi d hd
    have G:=fun (d:Cp) hd hpair=>@fall code base half z B0 R k hk d hd hpair
    obtain ⟨s1,s2,s3⟩:=hsec
    have keep:∀ d:Cp,d.Ok→d.b=c.b→d.s=c.s→(∃ p:Nat,d.pc=(base:Int)+p∧PcI code base half d p)→SafeI code base half B0 d B:=fun d e1 e2 e3 e4=>⟨e1,e2.trans I.cb,e3.trans I.cs,I.byt,I.len,I.same,e4⟩
    have hra:=I.ok.reg _ ha.1 ha.2
    have hrb:=I.ok.reg _ hb.1 hb.2
    generalize (posN (scanL code) k+(insN (scanL code) k).lay.length)=q at *
    generalize hX:insN (scanL code) k=X at *
    clear hx hX
    have hop:X.op=0∨X.op=1∨X.op=2∨(3≤X.op∧X.op≤14)∨X.op=15∨X.op=16∨X.op=17∨X.op=18∨X.op=19∨X.op=20∨X.op=21∨X.op=22∨X.op=23:=by omega
    rcases hop with h | h | h | h | h | h | h | h | h | h | h | h | h
    · rw [h,exec_0];exact .inl ⟨.inl rfl,rfl⟩
    · rw [h,exec_1];exact .inr ⟨.inl rfl,keep _ (okd.setR _ hi) rfl rfl (F _ rfl (by omega) (by omega))⟩
    · rw [h,exec_2];exact .inr ⟨.inl rfl,keep _ (okd.setR _ hrb) rfl rfl (F _ rfl (by omega) (by omega))⟩
    · cases hk2:doK X.op (c.reg X.b)
      · rw [exec_n _ _ _ _ _ _ _ _ h hk2];exact .inl ⟨.inr rfl,rfl⟩
      · rw [exec_y _ _ _ _ _ _ _ _ h hk2]
        exact .inr ⟨.inl rfl,keep _ (okd.setR _ (doV_bd _ _ _ hra.1 hra.2 hrb.1 hrb.2)) rfl rfl (F _ rfl (by omega) (by omega))⟩
    · obtain ⟨u1,u2⟩:=s1 h
      have hw:wholeB (List.replicate z true) (c.reg X.b) 4=true:=by
        rw [show c.reg X.b=((c.reg X.b).toNat:Int) by omega];exact all_true z _ 4 (by omega)
      rw [h,exec_15y _ _ _ _ _ _ _ hw]
      exact .inr ⟨.inl rfl,keep _ (okd.setR _ (v4_bd _ _ I.byt)) rfl rfl (F _ rfl (by omega) (by omega))⟩
    · obtain ⟨u1,u2⟩:=s2 h
      have hw:wholeB (List.replicate z true) (c.reg X.a) 4=true:=by
        rw [show c.reg X.a=((c.reg X.a).toNat:Int) by omega];exact all_true z _ 4 (by omega)
      rw [h,exec_16y _ _ _ _ _ _ _ hw]
      refine .inr ⟨.inl rfl,okd,I.cb,I.cs,fun y hy=>?_,?_,fun i hi2=>?_,F _ rfl (by omega) (by omega)⟩
      · rcases splice_mem hy with hy | hy
        · exact I.byt y hy
        · exact b4_byte _ hrb.1 hrb.2 y hy
      · show (splice B _ _).length=_
        rw [splice_len _ _ _ (by rw [b4_len];omega)];exact I.len
      · show (splice B _ _).getD i 0=_
        rw [splice_getD _ _ _ _ (by rw [b4_len];omega),b4_len,if_neg (by omega)]
        exact I.same i hi2
    · rw [h,exec_17]
      have hu:UpV base half (dataV c.b c.s (c.reg X.a)):=by rw [I.cb,I.cs];exact data_up (by omega) (by omega) _ hra
      refine .inr ⟨.inl rfl,keep _ (okd.setR _ (by obtain ⟨u1,u2⟩:=hu;exact ⟨by omega,by omega⟩)) rfl rfl (G _ rfl fun y hy=>?_)⟩
      rcases pair_first hy with ⟨_,⟨hy1,hy2⟩ | ⟨hy1,hy2⟩⟩ | ⟨h18,_⟩
      · exact ⟨fun _=>by rw [← hy2,reg_set I.ok _ _ _ ha.1 ha.2];exact hu,fun e=>by omega,fun e=>by omega⟩
      · exact ⟨fun e=>by omega,fun _=>by rw [← hy2,reg_set I.ok _ _ _ ha.1 ha.2];exact hu,fun e=>by omega⟩
      · omega
    · rw [h,exec_18]
      have hu:LoV base half (codeV c.b c.s (c.reg X.a)):=by rw [I.cb,I.cs];exact code_lo (by omega) (by omega) _ hra
      refine .inr ⟨.inl rfl,keep _ (okd.setR _ (by obtain ⟨t,u1,u2⟩:=hu;exact ⟨by omega,by omega⟩)) rfl rfl (G _ rfl fun y hy=>?_)⟩
      rcases pair_first hy with ⟨h17,_⟩ | ⟨_,hy1,hy2⟩
      · omega
      · exact ⟨fun e=>by omega,fun e=>by omega,fun _=>by rw [← hy2,reg_set I.ok _ _ _ ha.1 ha.2];exact hu⟩
    · rw [h,exec_19]
      exact .inr ⟨.inl rfl,keep _ (okd.setPc (wrap_u _)) rfl rfl (J _ (by unfold jmpB;rw [h];rfl) rfl)⟩
    · by_cases hz0:c.reg X.a=0
      · rw [h,exec_20y _ _ _ _ _ _ _ hz0]
        exact .inr ⟨.inl rfl,keep _ (okd.setPc (wrap_u _)) rfl rfl (J _ (by unfold jmpB;rw [h];rfl) rfl)⟩
      · rw [h,exec_20n _ _ _ _ _ _ _ hz0]
        exact .inr ⟨.inl rfl,keep _ okd rfl rfl (F _ rfl (by omega) (by omega))⟩
    · rw [h,exec_21]
      exact .inr ⟨.inl rfl,keep _ (okd.setPc hra) rfl rfl (to_bundle R (s3 h))⟩
    · rw [h,exec_22]
      exact .inr ⟨.inr rfl,keep _ okd rfl rfl (F _ rfl (by omega) (by omega))⟩
    · rw [h,exec_23]
      exact .inr ⟨.inl rfl,keep _ okd rfl rfl (F _ rfl (by omega) (by omega))⟩
end
def verE (code:List Int):Int:=if mayE code≠0 then mayE code else if 4064 < code.length then 4 else 0
theorem ver_0 {code:List Int} (h:verE code=0):mayE code=0∧code.length≤4064:=by
  unfold verE at h
  by_cases hm:mayE code=0
  · rw [if_neg (by simp [hm])] at h
    refine ⟨hm,?_⟩
    split at h
    · cases h
    · omega
  · rw [if_pos hm] at h;exact absurd h hm
theorem ver_yes {code:List Int} (hm:mayE code=0) (hl:code.length≤4064):verE code=0:=by
  unfold verE
  rw [if_neg (by simp [hm]),if_neg (by omega)]
theorem ver_cases (code:List Int):(mayE code≠0∧verE code=mayE code)∨(mayE code=0∧4064 < code.length∧verE code=4)∨(mayE code=0∧code.length≤4064∧verE code=0):=by
  by_cases hm:mayE code=0
  · by_cases hl:4064 < code.length
    · exact .inr (.inl ⟨hm,hl,by unfold verE;rw [if_neg (by simp [hm]),if_pos hl]⟩)
    · exact .inr (.inr ⟨hm,by omega,ver_yes hm (by omega)⟩)
  · exact .inl ⟨hm,by unfold verE;rw [if_pos hm]⟩
theorem may_size {code:List Int} (hm:mayE code=0):32≤code.length∧code.length≤4096∧code.length % 32=0:=by
  obtain ⟨h1,_,_⟩:=may_0 hm
  obtain ⟨h2,_,_⟩:=rule_scan h1
  rcases scan_cases code with ⟨_,e,_⟩ | ⟨_,_,e,_⟩ | ⟨h,_⟩
  · rw [e] at h2;cases h2
  · rw [e] at h2;cases h2
  · exact (sizeB_iff _).1 h
def haltI:InsV:=⟨0,0,0,0⟩
theorem halt_ok:haltI.Ok:=⟨by decide,by decide,by decide⟩
theorem halts_pad:padL (List.replicate 32 haltI)=List.replicate 32 0:=by decide
theorem halts_may:mayE (List.replicate 32 0)=0:=by
  have hok:∀ x∈List.replicate 32 haltI,x.Ok:=fun x hx=>by rw [List.eq_of_mem_replicate hx];exact halt_ok
  have hfr:∀ x∈List.replicate 32 haltI,useB x=false∧gateB x=false:=fun x hx=>by rw [List.eq_of_mem_replicate hx];exact ⟨by decide,by decide⟩
  have hr:=pad_free hok hfr (by rw [halts_pad,List.length_replicate];omega) (by rw [halts_pad,List.length_replicate];omega)
  obtain ⟨_,hs⟩:=scanE_0 (by rw [halts_pad];decide) (pad_scan _ hok)
  rw [halts_pad] at hr hs
  unfold mayE
  rw [if_neg (fun k=>k hr),hs]
  decide
theorem ver_halts (n:Nat):verE (List.replicate 32 0)=0:=ver_yes halts_may (by simp)
theorem safe_start {code:List Int} {base half z:Nat} {B0:List Int} (R:Regn code base half z B0) (hB:Bytes B0) {c:Cp} (o:c.Ok) (h1:c.b=base) (h2:c.s=2 * (half:Int)) (h3:c.pc=base):SafeI code base half B0 c B0:=by
  refine ⟨o,h1,h2,hB,rfl,fun i _=>rfl,0,by rw [h3];simp,by have:=R.h0;omega,?_⟩
  obtain ⟨_,hs,_,hr⟩:=R.scan
  obtain ⟨s1,_,_⟩:=may_size R.hm
  have hl:=scan_nonempty R.hb hs (by omega)
  have hp:=place_first R.hb hs hl
  refine .inr ⟨0,hl,hp,sec_free ?_⟩
  cases hu:useB (insN (scanL code) 0)
  · rfl
  · exact absurd (by rw [hp]) (sec_use hr hl hu).1
abbrev Rg:=Int×Int
def powS (s:Int):Bool:=s == 128 || s == 256 || s == 512 || s == 1024 || s == 2048 || s == 4096 || s == 8192 || s == 16384
theorem powS_pos {s:Int} (h:powS s=true):128≤s∧s≤16384:=by
  unfold powS at h
  simp only [Bool.or_eq_true,beq_iff_eq] at h
  omega
def Bel64 (a b:Rg):Prop:=a.1+a.2+64≤b.1
def apartE (a b:Rg):Bool:=decide (a.1+a.2+64≤b.1) || decide (b.1+b.2+64≤a.1)
theorem apart_iff (a b:Rg):apartE a b=true↔(Bel64 a b∨Bel64 b a):=by
  unfold apartE Bel64
  simp [Bool.or_eq_true]
def regB (n:Int) (r:Rg):Bool:=powS r.2 && decide (r.2≤r.1) && decide (r.1 % r.2=0) && decide (r.1+r.2+64≤n)
theorem reg_iff {n:Int} {r:Rg}:regB n r=true↔(powS r.2=true∧r.2≤r.1∧r.1 % r.2=0∧r.1+r.2+64≤n):=by
  unfold regB
  simp [Bool.and_eq_true,and_assoc]
structure RightP (l:List Rg) (n:Int):Prop where
  lo:0≤n
  hi:n≤65536
  reg:∀ r∈l,regB n r=true
  ris:l.Pairwise Bel64
theorem bel64_trans {a b c:Rg} (hb:0≤b.2) (h1:Bel64 a b) (h2:Bel64 b c):Bel64 a c:=by
  unfold Bel64 at *;omega
theorem ris_getD {l:List Rg} (h:l.Pairwise Bel64) {i j:Nat} (hij:i < j) (hj:j < l.length):Bel64 (l.getD i (0,0)) (l.getD j (0,0)):=by
  have:=List.pairwise_iff_getElem.1 h i j (by omega) hj hij
  rw [List.getD_eq_getElem?_getD,List.getD_eq_getElem?_getD,List.getElem?_eq_getElem (by omega:i < l.length),List.getElem?_eq_getElem hj]
  exact this
theorem right_nil {n:Int} (h:0≤n) (h':n≤65536):RightP [] n:=⟨h,h',fun _ h=>(by cases h),List.Pairwise.nil⟩
theorem right_add {p q:List Rg} {x:Rg} {n:Int} (h:RightP (p ++ q) n) (hx:regB n x=true) (ha:∀ r∈p ++ q,apartE r x=true)
    (hp:∀ r∈p,r.1≤x.1) (hq:∀ r∈q,x.1 < r.1):RightP (p ++ x :: q) n:=by
  have x0:=powS_pos (reg_iff.1 hx).1
  refine ⟨h.lo,h.hi,fun r hr=>?_,?_⟩
  · rcases List.mem_append.1 hr with k | k
    · exact h.reg r (List.mem_append_left _ k)
    · rcases List.mem_cons.1 k with rfl | k
      · exact hx
      · exact h.reg r (List.mem_append_right _ k)
  · have h3:=List.pairwise_append.1 h.ris
    refine List.pairwise_append.2 ⟨h3.1,List.pairwise_cons.2 ⟨fun r k=>?_,h3.2.1⟩,fun r hr y hy=>?_⟩
    · rcases (apart_iff _ _).1 (ha r (List.mem_append_right _ k)) with e | e
      · have:=hq r k
        have:=powS_pos (reg_iff.1 (h.reg r (List.mem_append_right _ k))).1
        unfold Bel64 at e;omega
      · exact e
    · rcases List.mem_cons.1 hy with rfl | hy
      · rcases (apart_iff _ _).1 (ha r (List.mem_append_left _ hr)) with e | e
        · exact e
        · have:=hp r hr
          unfold Bel64 at e;omega
      · exact h3.2.2 r hr y hy
structure TakeOk (l:List Rg) (n s b:Int):Prop where
  lo:s≤b
  al:b % s=0
  hi:b+s+64≤n
  ap:∀ r∈l,apartE r (b,s)=true
def TakeIs (l:List Rg) (n s:Int):Option Int→Prop
  | some b=>TakeOk l n s b∧∀ c,c < b→¬ TakeOk l n s c
  | none=>∀ c,¬ TakeOk l n s c
theorem take_one {l:List Rg} {n s:Int} {x y:Option Int} (h:TakeIs l n s x) (k:TakeIs l n s y):x=y:=by
  cases x <;> cases y
  · rfl
  · exact absurd k.1 (h _)
  · exact absurd h.1 (k _)
  · rename_i a b
    have h1:¬ a < b:=fun q=>k.2 _ q h.1
    have h2:¬ b < a:=fun q=>h.2 _ q k.1
    congr 1;omega
theorem take_reg {l:List Rg} {n s b:Int} (hs:powS s=true) (h:TakeOk l n s b):regB n (b,s)=true:=
  reg_iff.2 ⟨hs,h.lo,h.al,h.hi⟩
def fullL (s:Int) (k:Nat):List Rg:=(List.range k).map fun (i:Nat)=>((2 * (i:Int)+1) * s,s)
theorem full_succ (s:Int) (k:Nat):fullL s (k+1)=fullL s k ++ [((2 * (k:Int)+1) * s,s)]:=by
  simp [fullL,List.range_succ]
theorem full_mem {s:Int} {k:Nat} {r:Rg}:r∈fullL s k↔∃ i,i < k∧r=((2 * (i:Int)+1) * s,s):=by
  simp [fullL,eq_comm]
theorem full_free {s n:Int} (hs:powS s=true) (k:Nat) (b:Int):TakeOk (fullL s k) n s b↔(b % s=0∧(2 * (k:Int)+1) * s≤b∧b+s+64≤n):=by
  have s0:=powS_pos hs
  constructor
  · intro h
    refine ⟨h.al,?_,h.hi⟩
    obtain ⟨j,rfl⟩:∃ j,b=j * s:=⟨b / s,(Int.ediv_mul_cancel (Int.dvd_of_emod_eq_zero h.al)).symm⟩
    have hj:1≤j:=by
      have:=h.lo
      refine Int.not_lt.1 fun q=>?_
      have:j * s≤0 * s:=Int.mul_le_mul_of_nonneg_right (by omega) (by omega)
      omega
    refine Int.mul_le_mul_of_nonneg_right (Int.not_lt.1 fun q=>?_) (by omega)
    have hi:∃ i:Nat,(i:Int)=(j - 1) / 2:=⟨((j - 1) / 2).toNat,by omega⟩
    obtain ⟨i,hi⟩:=hi
    have hik:i < k:=by omega
    have hm:=(apart_iff _ _).1 (h.ap _ (full_mem.2 ⟨i,hik,rfl⟩))
    unfold Bel64 at hm
    have hd:j=2 * (i:Int)+1∨j=2 * (i:Int)+2:=by omega
    rcases hd with rfl | rfl
    · simp only at hm;omega
    · have e:(2 * (i:Int)+2) * s=(2 * (i:Int)+1) * s+s:=by rw [show (2 * (i:Int)+2)=(2 * (i:Int)+1)+1 by omega,Int.add_mul _ 1,Int.one_mul]
      simp only [e] at hm;omega
  · rintro ⟨h1,h2,h3⟩
    have hk:s≤(2 * (k:Int)+1) * s:=by
      have:1 * s≤(2 * (k:Int)+1) * s:=Int.mul_le_mul_of_nonneg_right (by omega) (by omega)
      omega
    refine ⟨by omega,h1,h3,fun r hr=>(apart_iff _ _).2 (.inl ?_)⟩
    obtain ⟨i,hi,rfl⟩:=full_mem.1 hr
    unfold Bel64
    have e:(2 * (i:Int)+1) * s+s+s=(2 * (i:Int)+3) * s:=by
      rw [show (2 * (i:Int)+3)=((2 * (i:Int)+1)+1)+1 by omega,Int.add_mul (2 * (i:Int)+1+1) 1,Int.add_mul (2 * (i:Int)+1) 1,Int.one_mul]
    have:(2 * (i:Int)+3) * s≤(2 * (k:Int)+1) * s:=Int.mul_le_mul_of_nonneg_right (by omega) (by omega)
    simp only;omega
theorem full_take {s n:Int} (hs:powS s=true) (k:Nat) {o:Option Int} (h:TakeIs (fullL s k) n s o) :
    (o=some ((2 * (k:Int)+1) * s)∧(2 * (k:Int)+1) * s+s+64≤n)∨(o=none∧n < (2 * (k:Int)+1) * s+s+64):=by
  have s0:=powS_pos hs
  have hal:((2 * (k:Int)+1) * s) % s=0:=Int.mul_emod_left _ _
  by_cases hn:(2 * (k:Int)+1) * s+s+64≤n
  · have T:=(full_free (n:=n) hs k _).2 ⟨hal,Int.le_refl _,hn⟩
    have:TakeIs (fullL s k) n s (some ((2 * (k:Int)+1) * s)):=⟨T,fun c hc q=>by have:=((full_free hs k c).1 q).2.1;omega⟩
    exact .inl ⟨take_one h this,hn⟩
  · have:TakeIs (fullL s k) n s none:=fun c q=>by have:=(full_free hs k c).1 q;omega
    exact .inr ⟨take_one h this,by omega⟩
theorem full_right {s n:Int} (hs:powS s=true) (h0:0≤n) (h1:n≤65536):∀ k:Nat,(k=0∨(2 * ((k:Int) - 1)+1) * s+s+64≤n)→RightP (fullL s k) n
  | 0,_=>by simpa [fullL] using right_nil h0 h1
  | k+1,h=>by
    have s0:=powS_pos hs
    have hk:(2 * (k:Int)+1) * s+s+64≤n:=by
      rcases h with h | h
      · cases h
      · have e:((k+1:Nat):Int) - 1=k:=by omega
        rw [e] at h;exact h
    have ih:=full_right hs h0 h1 k (by
      rcases Nat.eq_zero_or_pos k with h | h
      · exact .inl h
      · right
        have:(2 * ((k:Int) - 1)+1) * s≤(2 * (k:Int)+1) * s:=Int.mul_le_mul_of_nonneg_right (by omega) (by omega)
        omega)
    have T:=(full_free (n:=n) hs k _).2 ⟨Int.mul_emod_left _ _,Int.le_refl _,hk⟩
    rw [full_succ]
    refine right_add (q:=[]) (by simpa using ih) (take_reg hs T) (by simpa using T.ap) (fun r hr=>?_) (fun r hr=>by cases hr)
    obtain ⟨i,hi,rfl⟩:=full_mem.1 hr
    exact Int.mul_le_mul_of_nonneg_right (by omega) (by omega)
open Classical in
noncomputable def rgtB (l:List Rg) (n:Int):Bool:=decide (RightP l n)
theorem rgt_iff {l:List Rg} {n:Int}:rgtB l n=true↔RightP l n:=by unfold rgtB;simp
theorem rgt_no {l:List Rg} {n:Int}:rgtB l n=false↔¬ RightP l n:=by unfold rgtB;simp
theorem take_some (l:List Rg) (n s:Int) (hs:powS s=true):∀ (k:Nat) (c:Int),c.toNat≤k→TakeOk l n s c→∃ o,TakeIs l n s o
  | 0,c,hk,h=>by
    have:=powS_pos hs;have:=h.lo;omega
  | k+1,c,hk,h=>by
    by_cases q:∃ d,d < c∧TakeOk l n s d
    · obtain ⟨d,hd,hd'⟩:=q
      exact take_some l n s hs k d (by have:=powS_pos hs;have:=h.lo;omega) hd'
    · exact ⟨some c,h,fun d hd hd'=>q ⟨d,hd,hd'⟩⟩
theorem take_ex (l:List Rg) (n s:Int) (hs:powS s=true):∃ o,TakeIs l n s o:=by
  by_cases q:∃ c,TakeOk l n s c
  · obtain ⟨c,h⟩:=q
    exact take_some l n s hs _ c (Nat.le_refl _) h
  · exact ⟨none,fun c h=>q ⟨c,h⟩⟩
open Classical in
noncomputable def takeV (l:List Rg) (n s:Int):Int:=if h:∃ b,TakeIs l n s (some b) then Classical.choose h else -1
theorem takeV_some {l:List Rg} {n s b:Int} (h:TakeIs l n s (some b)):takeV l n s=b:=by
  unfold takeV
  have hx:∃ b,TakeIs l n s (some b):=⟨b,h⟩
  rw [dif_pos hx]
  have:=take_one (Classical.choose_spec hx) h
  exact Option.some.inj this
theorem takeV_none {l:List Rg} {n s:Int} (h:TakeIs l n s none):takeV l n s=-1:=by
  unfold takeV
  rw [dif_neg]
  rintro ⟨b,hb⟩
  have:=take_one h hb
  cases this
theorem takeV_cases {l:List Rg} {n s:Int} (hs:powS s=true):(TakeOk l n s (takeV l n s)∧0≤takeV l n s)∨(takeV l n s=-1∧∀ c,¬ TakeOk l n s c):=by
  obtain ⟨o,h⟩:=take_ex l n s hs
  cases o with
  | none=>exact .inr ⟨takeV_none h,h⟩
  | some b=>
    rw [takeV_some h]
    exact .inl ⟨h.1,by have:=powS_pos hs;have:=h.1.lo;omega⟩
noncomputable def takeE (l:List Rg) (n s:Int):Int:=if rgtB l n=false then 12 else if powS s=false then 1 else if takeV l n s < 0 then 7 else 0
structure AddIs (l:List Rg) (x:Rg) (m p q:List Rg):Prop where
  was:l=p ++ q
  now:m=p ++ x :: q
  lo:l.Pairwise (fun a b=>a.1 < b.1)→∀ r∈p,r.1≤x.1
  hi:l.Pairwise (fun a b=>a.1 < b.1)→∀ r∈q,x.1 < r.1
theorem right_rises {l:List Rg} {n:Int} (h:RightP l n):l.Pairwise (fun a b=>a.1 < b.1):=by
  refine List.Pairwise.imp_of_mem ?_ h.ris
  intro a b ha hb hab
  have:=powS_pos (reg_iff.1 (h.reg a ha)).1
  unfold Bel64 at hab;omega
theorem add_right {l m p q:List Rg} {x:Rg} {n:Int} (h:RightP l n) (ha:AddIs l x m p q) (hx:regB n x=true) (hap:∀ r∈l,apartE r x=true):RightP m n:=by
  have r:=right_rises h
  have lo:=ha.lo r
  have hi:=ha.hi r
  obtain ⟨rfl,rfl,_,_⟩:=ha
  exact right_add h hx hap lo hi
end Go.Proofs.YteefmjhemhlapaaGreat.Mm
