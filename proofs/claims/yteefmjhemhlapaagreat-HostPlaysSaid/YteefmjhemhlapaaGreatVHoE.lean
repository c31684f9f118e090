/- The parameters of stage 14's statements: rows of byte slices, acts; whether they are few. -/
import Derived.Test.YteefmjhemhlapaaGreatVHostCh
import Derived.Deep.Slices
import Derived.Deep.Fields
namespace Go.Proofs.YteefmjhemhlapaaGreat.Mm
open Go.ChangeShapes Go.WideShapes Go.ChangeAt Go.RowKit
set_option linter.unusedVariables false
set_option linter.unusedSimpArgs false
set_option maxRecDepth 10000
set_option maxHeartbeats 4000000

def D8:List Int:=[1,2,3,4,5,6,7,8]
theorem D8_b:Bytes D8:=by intro z hz;simp [D8] at hz;omega
theorem bytes14n (A:Option Addr) (ca c:Nat) (C:List Int) (hc:C.length=c) (h1:c≤4000) (w:World) (rA:RowAt w A ca C) :
    Calls Tryz.prog 8 #[.slice A c ca] w fun e w'=>∃ A' c',e=.returned (.slice A' (c+20) c')∧RowAt w' A' c' (layL C D8)∧Below w.heap.size w w'∧(∀ a,A'=some a→w.heap.size≤a.block):=by
  obtain ⟨W1,e1,R1,B1,RA1⟩:∃ W1,w.alloc (.cells #[.int .u8 1,.int .u8 2,.int .u8 3,.int .u8 4,.int .u8 5,.int .u8 6,.int .u8 7,.int .u8 8] 5)=W1∧RowAt W1 (some ⟨w.heap.size,0,none⟩) 8 D8∧Below w.heap.size w W1∧RowAt W1 A ca C:=by
    have b:=bel_al (Below.refl w.heap.size w) (.cells #[.int .u8 1,.int .u8 2,.int .u8 3,.int .u8 4,.int .u8 5,.int .u8 6,.int .u8 7,.int .u8 8] 5)
    exact ⟨_,rfl,row_blk (l:=D8) D8_b (by unfold maxLen;decide) (HasB.new w 5 (D8.map (Value.int .u8))),b,rA.below b⟩
  have LC:=Lib.hid (rLay_any A (some ⟨w.heap.size,0,none⟩) ca 8 C D8 c 8 hc rfl (by omega) (by omega) W1 RA1 R1)
  have hbL:Bytes (layL C D8):=layL_byte rA.2.2.1 D8_b (by omega) (by decide)
  have hlen:(layL C D8).length=c+20:=by rw [layL_len,hc];show 12+c+8=_;omega
  have HBL:=Lib.hid hbL
  have HLEN:=Lib.hid hlen
  have BB:=Lib.hid B1
  have H1:=Lib.hid h1
  clear R1 RA1 rA hc hbL hlen h1 B1
  go_enter Tryz.func8,Tryz.ntmps8
  go_wp2_with fail
  refine LC.out.mono ?_;rintro e w2 ⟨rfl,b2⟩
  have CV:=conv_bytes w2 (strOfNums (layL C D8))
  rw [strOfNums_size,HLEN.out] at CV
  have R:=bytes_row w2 (layL C D8) HBL.out (by rw [HLEN.out];have:=H1.out;omega)
  rw [HLEN.out] at R
  have B2:=Lib.hid (bel_then (bel_then BB.out b2) (conv_below w2 (strOfNums (layL C D8))))
  have RR:=Lib.hid R
  have N2:=Lib.hid (Nat.le_trans BB.out.size b2.size)
  clear R b2
  generalize Lib.bytesWorld w2 5 (strOfNums (layL C D8))=W3 at *
  go_wp2_with fail
  go_ret
  exact ⟨_,_,rfl,RR.out,B2.out,fun a ha=>by cases ha;exact N2.out⟩
structure LdOk (z:Nat) (h:Ho) (l:List Int) (size:Int) (k b hf:Nat):Prop where
  e:imgE l=0
  v:verE (codeI l)=0
  k16:k < 16
  no:h.m[k]?=some none
  rg:regB ((64 * z:Nat):Int) ((b:Int),((2 * hf:Nat):Int))=true
  ap:∀ j s,h.has j s→s.b+2 * s.hf+64≤b∨b+2 * hf+64≤s.b
  c:(codeI l).length+32≤hf
  d:(dataL l).length≤hf
theorem img_ver {l:List Int} (h:imgE l=0):verE (codeI l)=0:=by
  unfold imgE at h
  by_cases h0:errL l=0
  · rw [if_neg (by simp [h0])] at h;exact h
  · rw [if_pos h0] at h;exact absurd h h0
theorem ld_ok {z:Nat} {h:Ho} (H:HoZ z h) {l:List Int} {size:Int} (he:loadE z h (imgE l) (codeI l) (dataL l) size=0) {k b hf:Nat} (hk:freeO h=some k) (hs:size=((2 * hf:Nat):Int)) (hb:takeV (regsU h) ((64 * z:Nat):Int) size=(b:Int)):LdOk z h l size k b hf:=by
  obtain ⟨k',b',hf',q1,q2,q3,q4,q5,q6,q7,q8,q9,q10⟩:=load_ok H he
  rw [hk] at q1
  injection q1 with q1
  subst q1
  obtain rfl:hf=hf':=by omega
  obtain rfl:b=b':=by have:=hb.symm.trans q3;omega
  exact ⟨q4,img_ver q4,q5,q6,q7,q8,q9,q10⟩
theorem code_bytes {l:List Int} (h:Bytes l):Bytes (codeI l):=fun v hv=>h v (List.mem_of_mem_drop (List.mem_of_mem_take hv))
theorem data_bytes {l:List Int} (h:Bytes l):Bytes (dataL l):=fun v hv=>h v (List.mem_of_mem_drop (List.mem_of_mem_take hv))
theorem LdOk.z {z:Nat} {h:Ho} {l:List Int} {size:Int} {k b hf:Nat} (o:LdOk z h l size k b hf) (H:HoZ z h) (hl:Bytes l) (rep:List Int):HoZ z (loadO h k b hf (codeI l) (dataL l) rep):=
  H.load o.no o.rg o.ap (code_bytes hl) (data_bytes hl) (by have:=o.c;omega) o.d
theorem LdOk.i {z n0:Nat} {h:Ho} {l:List Int} {size:Int} {k b hf:Nat} (o:LdOk z h l size k b hf) (I:HoI z n0 h) (hz:z≤1000) (hl:Bytes l) {rep:List Int} (hu:∀ v∈rep,U32 v) (hr:rep.length≤100000):HoI z n0 (loadO h k b hf (codeI l) (dataL l) rep):=
  I.load hz o.no o.rg o.ap (code_bytes hl) (data_bytes hl) o.v o.c o.d hu hr
theorem img_32:imgE (layL (List.replicate 32 0) [])=0:=by
  rw [img_lay (by decide)]
  exact ver_halts 0
theorem load_first:loadE 16 (newO 16) (imgE (layL (List.replicate 32 0) [])) (codeI (layL (List.replicate 32 0) [])) (dataL (layL (List.replicate 32 0) [])) 128=0:=by
  have F:=FullH.start 16 64
  have:=F.loadE (by omega) (by decide) (by omega) (imgE (layL (List.replicate 32 0) [])) (codeI (layL (List.replicate 32 0) [])) (dataL (layL (List.replicate 32 0) [])) (by rw [lay_data];simp)
  rw [show (128:Int)=((2 * 64:Nat):Int) from rfl,this,img_32,lay_code]
  simp
set_option maxHeartbeats 4000000 in
theorem awake14 (w:World):Calls Tryz.prog 5 #[] w fun e w'=>e=.returned (.bool true)∧Below w.heap.size w w':=by
  obtain ⟨W1,e1,R1,B1⟩:∃ W1,(Instr.makeSlice 39 (.int .i64 32) (.int .i64 32)).run Tryz.prog w=.ok (.slice (some ⟨w.heap.size,0,none⟩) 32 32) W1∧RowAt W1 (some ⟨w.heap.size,0,none⟩) 32 (List.replicate 32 0)∧Below w.heap.size w W1:=
    ⟨_,make_32 w,row_new32 w,bel_al (Below.refl _ _) _⟩
  have LC:=Lib.hid (lay_yes (some ⟨w.heap.size,0,none⟩) none 32 0 (List.replicate 32 0) [] 32 0 (by rw [List.length_replicate]) rfl (by omega) (by omega) W1 R1 (row_nil W1 none 0 (Nat.zero_le _)) (by decide))
  unfold LayY at LC
  have NC:=Lib.hid (fun w'=>hNew 16 (by omega) (by omega) w')
  have BB:=Lib.hid B1
  have hlen:(layL (List.replicate 32 0) []).length=44:=by rw [layL_len,List.length_replicate];rfl
  have HLEN:=Lib.hid hlen
  clear R1 B1 hlen
  have c1:(((64 * 16:Nat)):Int)=1024:=rfl
  rw [c1] at NC
  go_enter Tryz.func5,Tryz.ntmps5
  go_wp2_with fail
  refine LC.out.mono ?_;rintro e w2 ⟨A2,c2,rfl,o2,b2⟩
  have O2:=Lib.hid o2
  have B2:=Lib.hid (bel_then BB.out b2)
  clear o2 b2 LC e1
  dsimp only
  go_wp2_with fail
  refine (NC.out _).mono ?_;rintro e w3 ⟨hb,F,rfl,hat,hF,b3⟩
  have AT:=Lib.hid hat
  have R3:=Lib.hid (O2.out.row.below b3)
  have B3:=Lib.hid (bel_then B2.out b3)
  have FF:=Lib.hid (fun i (hi:F i)=>Nat.le_trans B2.out.size (hF i hi))
  clear hat b3 hF O2
  obtain ⟨h0,hh0⟩:∃ h0,newO 16=h0:=⟨_,rfl⟩
  have HZ0:HoZ 16 h0:=hh0 ▸ newO_z 16
  have FU0:FullH 16 64 0 h0:=hh0 ▸ FullH.start 16 64
  have LF:loadE 16 h0 (imgE (layL (List.replicate 32 0) [])) (codeI (layL (List.replicate 32 0) [])) (dataL (layL (List.replicate 32 0) [])) 128=0:=hh0 ▸ load_first
  obtain ⟨l0,hl0⟩:∃ l0,layL (List.replicate 32 0) []=l0:=⟨_,rfl⟩
  have LB:Bytes l0:=hl0 ▸ layL_byte (C:=List.replicate 32 0) (D:=[]) (fun x hx=>by rw [List.eq_of_mem_replicate hx];decide) (fun x hx=>by cases hx) (by simp) (by simp)
  rw [hh0] at AT
  rw [hl0] at LF R3 HLEN
  have LD:=Lib.hid (hLoad w3 hb 16 h0 F A2 c2 44 l0 128 none 0 0 [] AT.out HZ0 (by omega) (by omega) R3.out HLEN.out (by omega) (by decide) (kRow_nil _ w3) rfl (by omega))
  clear hh0 hl0
  dsimp only
  go_wp2_with fail
  refine LD.out.mono ?_;rintro e w4 hq
  rcases hq with ⟨hne,_⟩ | ⟨_,k,b,hf,hk,hs,hb2,rfl,F',at4,c4,sb4⟩
  · exact absurd LF hne
  · have ok:=ld_ok HZ0 LF hk hs hb2
    have hk0:k=0:=by
      rw [FU0.free (by omega)] at hk
      injection hk with hk;exact hk.symm
    obtain rfl:hf=64:=by omega
    have hb0:b=(2 * 0+1) * (2 * 64):=by
      have:=FU0.take (by decide) (by omega)
      rw [← hs,hb2] at this
      exact Int.ofNat.inj this
    subst hk0 hb0
    have HZ:=ok.z HZ0 LB []
    have FU:=FU0.next (code:=codeI l0) (data:=dataL l0) (rep:=[]) (by omega) (by decide) (by omega) (code_bytes LB) (data_bytes LB) (by have:=ok.c;omega) ok.d
    have RW:=FU.row (by omega) (by decide) (.inr (by omega))
    have B4:=Lib.hid (Below.trans B3.out (c4.below FF.out B3.out.size))
    have RC:=Lib.hid (hRegs w4 hb 16 _ F' at4 HZ (by omega))
    have RL:=Lib.hid (fun L (R:RegsL 16 _ L)=>R.one RW)
    clear LD at4 c4 sb4 HZ FU RW ok hs hb2 hk HZ0 FU0 LF LB
    dsimp only
    go_wp2_with fail
    refine RC.out.mono ?_;rintro e w5 ⟨A,cap,L,rfl,rl,rr,rn,b5⟩
    have hL:=RL.out L rl
    have hL2:L=[(128,128)]:=by rw [hL];rfl
    subst hL2
    obtain ⟨q,hq,hqb,hqc⟩:=rr.2.2.2 (by simp)
    subst hq
    have hc:=hqc 0 (by simp)
    have c0:=hc.c0
    have c1:=hc.c1
    have e0:q.add (0 * 2)=q:=by unfold Addr.add;simp
    rw [e0] at c0 c1
    simp only [List.getD_cons_zero] at c0 c1
    have B5:=Lib.hid (bel_then B4.out b5)
    clear rl rr rn b5 hqc hc RC RL hL hqb
    dsimp only [List.length_cons,List.length_nil]
    go_wp2_with fail
    go_ret
    exact ⟨rfl,B5.out⟩
theorem has_16 {z:Nat} {h:Ho} (H:HoZ z h) {k:Nat} (hk:16≤k):∀ s,¬ h.has k s:=fun s hs=>by
  have:=Ho.has_lt hs
  have:=H.ml
  omega
def SlAt (w:World) (x:Addr) (A:Option Addr) (c:Nat) (l:List Int):Prop:=w.cell? x=some (.slice A l.length c)∧RowAt w A c l
def RowsB (w:World) (A:Option Addr) (n cap:Nat):Prop:=n≤cap∧cap≤maxLen∧(0 < n→∃ x,A=some x∧x.block < w.heap.size∧∀ i,i < n→∃ B c l,SlAt w (x.add i) B c l)
theorem SlAt.below {w w':World} {x:Addr} {A:Option Addr} {c:Nat} {l:List Int} (h:SlAt w x A c l) (b:Below w.heap.size w w') (hx:x.block < w.heap.size):SlAt w' x A c l:=⟨(b.cell hx).trans h.1,h.2.below b⟩
theorem RowsB.below {w w':World} {A:Option Addr} {n cap:Nat} (h:RowsB w A n cap) (b:Below w.heap.size w w'):RowsB w' A n cap:=by
  obtain ⟨h1,h2,h3⟩:=h
  refine ⟨h1,h2,fun hn=>?_⟩
  obtain ⟨x,hx,hb,hc⟩:=h3 hn
  refine ⟨x,hx,Nat.lt_of_lt_of_le hb b.size,fun i hi=>?_⟩
  obtain ⟨B,c,l,ht⟩:=hc i hi
  exact ⟨B,c,l,ht.below b (by rw [block_add];exact hb)⟩
theorem SlAt.one {w:World} {x:Addr} {A A':Option Addr} {c c':Nat} {l l':List Int} (h:SlAt w x A c l) (h':SlAt w x A' c' l'):l.length=l'.length:=by
  have h1:=h.1
  rw [h'.1] at h1
  injection h1 with h1
  injection h1 with _ h2
  exact h2.symm
structure Ac where
  d:Int
  c:Int
  g:Int
  i:Int
  n:Int
  A:Option Addr
  cap:Nat
  r:List Int
structure AcAt (w:World) (x:Addr) (t:Ac):Prop where
  c0:w.cell? x=some (.int .u8 t.d)
  c1:w.cell? ⟨x.block,x.off+1,none⟩=some (.int .u8 t.c)
  c2:w.cell? ⟨x.block,x.off+2,none⟩=some (.int .u8 t.g)
  c3:w.cell? ⟨x.block,x.off+3,none⟩=some (.int .u8 t.i)
  c4:w.cell? ⟨x.block,x.off+4,none⟩=some (.int .u8 t.n)
  c5:w.cell? ⟨x.block,x.off+5,none⟩=some (.slice t.A t.r.length t.cap)
  d0:0≤t.d∧t.d≤255
  c0':0≤t.c∧t.c≤255
  g0:0≤t.g∧t.g≤255
  i0:0≤t.i∧t.i≤255
  n0:0≤t.n∧t.n≤255
  row:KRow .u32 w t.A t.cap t.r
def AcsAt (w:World) (A:Option Addr) (n cap:Nat):Prop:=n≤cap∧cap≤maxLen∧(0 < n→∃ x,A=some x∧x.block < w.heap.size∧∀ i,i < n→∃ t,AcAt w (x.add (i * 6)) t)
theorem AcAt.below {w w':World} {x:Addr} {t:Ac} (h:AcAt w x t) (b:Below w.heap.size w w') (hx:x.block < w.heap.size):AcAt w' x t:=
  ⟨by rw [b.cell hx];exact h.c0,(b.cell (p:=⟨x.block,x.off+1,none⟩) hx).trans h.c1,(b.cell (p:=⟨x.block,x.off+2,none⟩) hx).trans h.c2,(b.cell (p:=⟨x.block,x.off+3,none⟩) hx).trans h.c3,
   (b.cell (p:=⟨x.block,x.off+4,none⟩) hx).trans h.c4,(b.cell (p:=⟨x.block,x.off+5,none⟩) hx).trans h.c5,h.d0,h.c0',h.g0,h.i0,h.n0,h.row.below b⟩
theorem AcsAt.below {w w':World} {A:Option Addr} {n cap:Nat} (h:AcsAt w A n cap) (b:Below w.heap.size w w'):AcsAt w' A n cap:=by
  obtain ⟨h1,h2,h3⟩:=h
  refine ⟨h1,h2,fun hn=>?_⟩
  obtain ⟨x,hx,hb,hc⟩:=h3 hn
  refine ⟨x,hx,Nat.lt_of_lt_of_le hb b.size,fun i hi=>?_⟩
  obtain ⟨t,ht⟩:=hc i hi
  exact ⟨t,ht.below b (by rw [block_add];exact hb)⟩
theorem AcAt.one {w:World} {x:Addr} {t t':Ac} (h:AcAt w x t) (h':AcAt w x t'):t'.r.length=t.r.length:=by
  have h1:=h.c5
  rw [h'.c5] at h1
  injection h1 with h1
  injection h1
theorem rowsB_of {H:Type} {enc:TypeId×Value→H} {w:World} {base:Nat} {spare:Nat→Bool} {held:Bool} {a:Option Addr} {len cap:Nat} {d:DataW H} {ps:List MemPlace}
    (h:DataW.Trod enc Tryz.prog w base spare held 22 (.slice a len cap) d ps):RowsB w a len cap:=by
  obtain ⟨fuel,hf⟩:=h
  have k5:Tryz.prog.cellsOf 5=1:=by kernel_rfl
  have k30:Tryz.prog.cellsOf 39=1:=by kernel_rfl
  rcases Go.Deep.open_slice Tryz.underlying22 hf with ⟨hcs,_⟩ | ⟨x,len',cap',m,n,D,Pl,hcs,hb,hl,hm,hmm,_,hi⟩
  · simp [Value.cells] at hcs
    obtain ⟨rfl,rfl,rfl⟩:=hcs
    exact ⟨Nat.le_refl _,Nat.zero_le _,fun h=>by omega⟩
  · simp [Value.cells] at hcs
    obtain ⟨rfl,rfl,rfl⟩:=hcs
    have hlm:len≤m:=by rw [hmm];split <;> omega
    rw [k30] at hi
    have key:∀ i,i < len→∃ B c l,SlAt w (x.add i) B c l:=by
      intro i hil
      obtain ⟨cs',hc,ht⟩:=hi i (by omega)
      obtain ⟨_,hcl,hat⟩:=World.cells?_some hc
      match cs',hcl with
      | [y0],_=>
        obtain ⟨A5,l5,c5,e5⟩:∃ A l c,y0=.slice A l c:=by
          rcases Go.Deep.open_slice Tryz.underlying39 ht with ⟨hq,_⟩ | ⟨x5,l5,c5,_,_,_,_,hq,_⟩
          · simp only [List.cons.injEq,and_true] at hq;exact ⟨_,_,_,hq⟩
          · simp only [List.cons.injEq,and_true] at hq;exact ⟨_,_,_,hq⟩
        subst e5
        have tr:DataW.Trod enc Tryz.prog w base spare held 39 (.slice A5 l5 c5) (D i) (Pl i):=⟨n,by simpa [Value.cells] using ht⟩
        obtain ⟨bl,hbl,hrow⟩:=row_of Tryz.underlying39 Tryz.underlying5 k5 tr
        subst hbl
        have h0:=hat 0 (by decide)
        simp only [List.getElem?_cons_zero,Nat.mul_one] at h0
        have e00:(x.add i).add 0=x.add i:=by simp [Addr.add]
        rw [e00] at h0
        exact ⟨A5,c5,bl,h0,hrow⟩
    refine ⟨hl,hm,fun hn=>⟨x,rfl,?_,key⟩⟩
    obtain ⟨B,c,l,ht⟩:=key 0 hn
    have:=block_of_cell ht.1
    rwa [block_add] at this
set_option maxRecDepth 100000 in
theorem acs_of {H:Type} {enc:TypeId×Value→H} {w:World} {base:Nat} {spare:Nat→Bool} {held:Bool} {a:Option Addr} {len cap:Nat} {d:DataW H} {ps:List MemPlace}
    (h:DataW.Trod enc Tryz.prog w base spare held 23 (.slice a len cap) d ps):AcsAt w a len cap:=by
  obtain ⟨fuel,hf⟩:=h
  have hC:Tryz.prog.cellsOf 38=6:=by kernel_rfl
  have k5:Tryz.prog.cellsOf 5=1:=by kernel_rfl
  have k30:Tryz.prog.cellsOf 36=1:=by kernel_rfl
  rcases Go.Deep.open_slice Tryz.underlying23 hf with ⟨hcs,_⟩ | ⟨x,len',cap',m,n,D,Pl,hcs,hb,hl,hm,hmm,_,hi⟩
  · simp [Value.cells] at hcs
    obtain ⟨rfl,rfl,rfl⟩:=hcs
    exact ⟨Nat.le_refl _,Nat.zero_le _,fun h=>by omega⟩
  · simp [Value.cells] at hcs
    obtain ⟨rfl,rfl,rfl⟩:=hcs
    have hlm:len≤m:=by rw [hmm];split <;> omega
    rw [hC] at hi
    have key:∀ i,i < len→∃ t,AcAt w (x.add (i * 6)) t:=by
      intro i hil
      obtain ⟨cs',hc,ht⟩:=hi i (by omega)
      obtain ⟨_,hcl,hat⟩:=World.cells?_some hc
      obtain ⟨xs,n',_,_,_,_,hfs⟩:=DataW.trod_struct Tryz.underlying38 ht
      match cs',hcl with
      | [y0,y1,y2,y3,y4,y5],_=>
        have f0:DataW.trod enc Tryz.prog w base spare held n' 5 (([y0,y1,y2,y3,y4,y5].drop 0).take (Tryz.prog.cellsOf 5))=xs[0]?:=hfs 0 _ rfl
        have f1:DataW.trod enc Tryz.prog w base spare held n' 5 (([y0,y1,y2,y3,y4,y5].drop 1).take (Tryz.prog.cellsOf 5))=xs[1]?:=hfs 1 _ rfl
        have f2:DataW.trod enc Tryz.prog w base spare held n' 5 (([y0,y1,y2,y3,y4,y5].drop 2).take (Tryz.prog.cellsOf 5))=xs[2]?:=hfs 2 _ rfl
        have f3:DataW.trod enc Tryz.prog w base spare held n' 5 (([y0,y1,y2,y3,y4,y5].drop 3).take (Tryz.prog.cellsOf 5))=xs[3]?:=hfs 3 _ rfl
        have f4:DataW.trod enc Tryz.prog w base spare held n' 5 (([y0,y1,y2,y3,y4,y5].drop 4).take (Tryz.prog.cellsOf 5))=xs[4]?:=hfs 4 _ rfl
        have f5:DataW.trod enc Tryz.prog w base spare held n' 36 (([y0,y1,y2,y3,y4,y5].drop 5).take (Tryz.prog.cellsOf 36))=xs[5]?:=hfs 5 _ rfl
        simp only [k5,k30,List.drop_zero,List.drop_succ_cons,List.take_succ_cons,List.take_zero] at f0 f1 f2 f3 f4 f5
        have some_of:∀ j,j < 6→∃ y,xs[j]?=some y:=fun j hj=>⟨xs[j]'(by simp_all),List.getElem?_eq_getElem _⟩
        obtain ⟨r0,q0⟩:=some_of 0 (by decide)
        obtain ⟨r1,q1⟩:=some_of 1 (by decide)
        obtain ⟨r2,q2⟩:=some_of 2 (by decide)
        obtain ⟨r3,q3⟩:=some_of 3 (by decide)
        obtain ⟨r4,q4⟩:=some_of 4 (by decide)
        obtain ⟨r5,q5⟩:=some_of 5 (by decide)
        obtain ⟨v0,e0,_,g0⟩:=DataW.trod_int Tryz.underlying5 (f0.trans q0)
        obtain ⟨v1,e1,_,g1⟩:=DataW.trod_int Tryz.underlying5 (f1.trans q1)
        obtain ⟨v2,e2,_,g2⟩:=DataW.trod_int Tryz.underlying5 (f2.trans q2)
        obtain ⟨v3,e3,_,g3⟩:=DataW.trod_int Tryz.underlying5 (f3.trans q3)
        obtain ⟨v4,e4,_,g4⟩:=DataW.trod_int Tryz.underlying5 (f4.trans q4)
        simp only [List.cons.injEq,and_true] at e0 e1 e2 e3 e4
        subst e0 e1 e2 e3 e4
        obtain ⟨A5,l5,c5,e5⟩:∃ A l c,y5=.slice A l c:=by
          rcases Go.Deep.open_slice Tryz.underlying36 (f5.trans q5) with ⟨hq,_⟩ | ⟨x5,l5,c5,_,_,_,_,hq,_⟩
          · simp only [List.cons.injEq,and_true] at hq;exact ⟨_,_,_,hq⟩
          · simp only [List.cons.injEq,and_true] at hq;exact ⟨_,_,_,hq⟩
        subst e5
        have tr:DataW.Trod enc Tryz.prog w base spare held 36 (.slice A5 l5 c5) r5.1 r5.2:=⟨n',by simpa [Value.cells] using f5.trans q5⟩
        obtain ⟨bl,hbl,hrow⟩:=u32row_of tr
        subst hbl
        have h0:=hat 0 (by decide)
        have h1:=hat 1 (by decide)
        have h2:=hat 2 (by decide)
        have h3:=hat 3 (by decide)
        have h4:=hat 4 (by decide)
        have h5:=hat 5 (by decide)
        simp only [List.getElem?_cons_succ,List.getElem?_cons_zero] at h0 h1 h2 h3 h4 h5
        have ad:∀ n,(x.add (i * 6)).add (n+1)=⟨(x.add (i * 6)).block,(x.add (i * 6)).off+(n+1),none⟩:=fun n=>by generalize x.add (i * 6)=y;unfold Addr.add;simp
        rw [ad 0] at h1
        rw [ad 1] at h2
        rw [ad 2] at h3
        rw [ad 3] at h4
        rw [ad 4] at h5
        have e00:(x.add (i * 6)).add 0=x.add (i * 6):=by simp [Addr.add]
        rw [e00] at h0
        exact ⟨⟨v0,v1,v2,v3,v4,A5,c5,bl⟩,⟨h0,h1,h2,h3,h4,h5,bounds_u8 g0,bounds_u8 g1,bounds_u8 g2,bounds_u8 g3,bounds_u8 g4,hrow⟩⟩
    refine ⟨hl,hm,fun hn=>⟨x,rfl,?_,key⟩⟩
    obtain ⟨t,ht⟩:=key 0 hn
    have:=block_of_cell ht.c0
    rwa [block_add] at this
def Few14 (w:World) (A:Option Addr) (n:Nat) (A':Option Addr) (m:Nat):Prop:=1≤n∧n≤6∧m≤30∧(∀ x,A=some x→∀ i,i < n→∀ B c l,SlAt w (x.add i) B c l→l.length≤300)∧(∀ x,A'=some x→∀ i,i < m→∀ t,AcAt w (x.add (i * 6)) t→t.r.length≤20)
def Few14E (w:World) (A:Option Addr) (n:Nat) (A':Option Addr) (m:Nat) (e:Ending) (w':World):Prop:=∃ b,e=.returned (.bool b)∧(b=true→Few14 w A n A' m)∧w=w'
set_option maxHeartbeats 4000000 in
theorem few14 (A A':Option Addr) (n cap m cap':Nat) (w:World) (hr:RowsB w A n cap) (ha:AcsAt w A' m cap'):Calls Tryz.prog 6 #[.slice A n cap,.slice A' m cap'] w (Few14E w A n A' m):=by
  obtain ⟨r1,r2,r3⟩:=hr
  obtain ⟨h1,h2,h3⟩:=ha
  unfold maxLen at h2 r2
  have H3:=Lib.hid h3
  have R3:=Lib.hid r3
  clear h3 r3
  go_enter Tryz.func6,Tryz.ntmps6
  go_wp2_with fail
  go_loop [5] (fun i=>∃ k:Nat,k≤n∧k≤7∧i=.int .i64 k∧∀ x,A=some x→∀ j,j < k→∀ B c l,SlAt w (x.add j) B c l→l.length≤300) (fun i=>7 - (intOf i).toNat)
  case atStart=>exact ⟨0,Nat.zero_le _,by decide,rfl,fun x _ j hj=>by omega⟩
  case round=>
    obtain ⟨k,hk,hk41,rfl,hall⟩:=hrel
    have HA:=Lib.hid hall;clear hall
    by_cases hlt:k < n∧k≤6
    · obtain ⟨hlt,h40⟩:=hlt
      obtain ⟨x,rfl,hxb,hx⟩:=R3.out (by omega)
      obtain ⟨B,c,l,ht⟩:=hx k hlt
      have c5:=ht.1
      have hb:=ht.2.1
      have hb2:=ht.2.2.1
      have hb3:=ht.2
      unfold RowAt at hb3
      have HT:=Lib.hid ht
      clear ht hx
      have kI:(k:Int) < (n:Int):=by omega
      by_cases hq:300 < l.length
      · go_wp2_with fail
        go_ret
        exact ⟨false,rfl,(fun h=>by cases h),rfl⟩
      · go_wp2_with fail
        go_round
        case rel=>exact ⟨k+1,hlt,by omega,by go_num,fun y hy j hj B' c' l' hs=>by
          injection hy with hy;subst hy
          by_cases e:j=k
          · subst e
            have:=HT.out.one hs
            omega
          · exact HA.out _ rfl j (by omega) B' c' l' hs⟩
        case measure=>simp [intOf];omega
    · by_cases hkn:k < n
      · have h7:k=7:=by omega
        subst h7
        have d0:decide ((7:Int) < (n:Int))=true:=decide_eq_true (by omega)
        have COV:Hid (n≤6→∀ x,A=some x→∀ j,j < n→∀ B c l,SlAt w (x.add j) B c l→l.length≤300):=Lib.hid (fun h=>by omega)
        obtain hcov:=COV.out
        go_wp2_with fail
        go_loop [6] (fun i=>∃ k:Nat,k≤m∧k≤31∧i=.int .i64 k∧∀ x,A'=some x→∀ j,j < k→∀ t,AcAt w (x.add (j * 6)) t→t.r.length≤20) (fun i=>31 - (intOf i).toNat)
        case atStart=>exact ⟨0,Nat.zero_le _,by decide,rfl,fun x _ j hj=>by omega⟩
        case round=>
          obtain ⟨q,hk,hk41,rfl,hall⟩:=hrel
          have HA2:=Lib.hid hall;clear hall
          by_cases hlt:q < m∧q≤30
          · obtain ⟨hlt,h40⟩:=hlt
            obtain ⟨x,rfl,hxb,hx⟩:=H3.out (by omega)
            obtain ⟨t,ht⟩:=hx q hlt
            have c5:=ht.c5
            have hb:=ht.row.1
            have hb2:=ht.row.2.1
            have HT:=Lib.hid ht
            clear ht hx
            have kI:(q:Int) < (m:Int):=by omega
            by_cases hq:20 < t.r.length
            · go_wp2_with fail
              go_ret
              exact ⟨false,rfl,(fun h=>by cases h),rfl⟩
            · go_wp2_with fail
              go_round
              case rel=>exact ⟨q+1,hlt,by omega,by go_num,fun y hy j hj s hs=>by
                injection hy with hy;subst hy
                by_cases e:j=q
                · subst e
                  have:=HT.out.one hs
                  omega
                · exact HA2.out _ rfl j (by omega) s hs⟩
              case measure=>simp [intOf];omega
          · have END:Hid (∀ b:Bool,(b=true→1≤n∧n≤6∧m≤30)→Few14E w A n A' m (.returned (.bool b)) w):=Lib.hid (fun b hb=>⟨b,rfl,fun h=>⟨(hb h).1,(hb h).2.1,(hb h).2.2,hcov (hb h).2.1,fun x hx i hi=>HA2.out x hx i (by have:=(hb h).2.2;omega)⟩,rfl⟩)
            by_cases n1:1≤n
            · have d1:decide ((1:Int)≤(n:Int))=true:=decide_eq_true (by omega)
              by_cases n6:n≤6
              · have d2:decide ((n:Int)≤6)=true:=decide_eq_true (by omega)
                by_cases m3:m≤30
                · have d3:decide ((m:Int)≤30)=true:=decide_eq_true (by omega)
                  have hqm:q=m:=by omega
                  subst hqm
                  go_wp2_with fail
                  go_ret
                  exact END.out true (fun _=>⟨n1,n6,m3⟩)
                · have d3:decide ((m:Int)≤30)=false:=decide_eq_false (by omega)
                  have hqm:q=31:=by omega
                  subst hqm
                  by_cases hm31:31 < m
                  · have d4:decide ((31:Int) < (m:Int))=true:=decide_eq_true (by omega)
                    go_wp2_with fail
                    go_ret
                    exact END.out false (fun h=>by cases h)
                  · obtain rfl:m=31:=by omega
                    go_wp2_with fail
                    go_ret
                    exact END.out false (fun h=>by cases h)
              · have d2:decide ((n:Int)≤6)=false:=decide_eq_false (by omega)
                by_cases hqm:q < m
                · have d4:decide ((q:Int) < (m:Int))=true:=decide_eq_true (by omega)
                  have d5:decide ((q:Int)≤30)=false:=decide_eq_false (by omega)
                  go_wp2_with fail
                  go_ret
                  exact END.out false (fun h=>by cases h)
                · obtain rfl:q=m:=by omega
                  go_wp2_with fail
                  go_ret
                  exact END.out false (fun h=>by cases h)
            · obtain rfl:n=0:=by omega
              by_cases hqm:q < m
              · have d4:decide ((q:Int) < (m:Int))=true:=decide_eq_true (by omega)
                have d5:decide ((q:Int)≤30)=false:=decide_eq_false (by omega)
                go_wp2_with fail
                go_ret
                exact END.out false (fun h=>by cases h)
              · obtain rfl:q=m:=by omega
                go_wp2_with fail
                go_ret
                exact END.out false (fun h=>by cases h)
      · have hk':k=n:=by omega
        subst hk'
        have COV:Hid (k≤6→∀ x,A=some x→∀ j,j < k→∀ B c l,SlAt w (x.add j) B c l→l.length≤300):=Lib.hid (fun h=>HA.out)
        obtain hcov:=COV.out
        go_wp2_with fail
        go_loop [6] (fun i=>∃ k:Nat,k≤m∧k≤31∧i=.int .i64 k∧∀ x,A'=some x→∀ j,j < k→∀ t,AcAt w (x.add (j * 6)) t→t.r.length≤20) (fun i=>31 - (intOf i).toNat)
        case atStart=>exact ⟨0,Nat.zero_le _,by decide,rfl,fun x _ j hj=>by omega⟩
        case round=>
          obtain ⟨q,hk,hk41,rfl,hall⟩:=hrel
          have HA2:=Lib.hid hall;clear hall
          by_cases hlt:q < m∧q≤30
          · obtain ⟨hlt,h40⟩:=hlt
            obtain ⟨x,rfl,hxb,hx⟩:=H3.out (by omega)
            obtain ⟨t,ht⟩:=hx q hlt
            have c5:=ht.c5
            have hb:=ht.row.1
            have hb2:=ht.row.2.1
            have HT:=Lib.hid ht
            clear ht hx
            have kI:(q:Int) < (m:Int):=by omega
            by_cases hq:20 < t.r.length
            · go_wp2_with fail
              go_ret
              exact ⟨false,rfl,(fun h=>by cases h),rfl⟩
            · go_wp2_with fail
              go_round
              case rel=>exact ⟨q+1,hlt,by omega,by go_num,fun y hy j hj s hs=>by
                injection hy with hy;subst hy
                by_cases e:j=q
                · subst e
                  have:=HT.out.one hs
                  omega
                · exact HA2.out _ rfl j (by omega) s hs⟩
              case measure=>simp [intOf];omega
          · have END:Hid (∀ b:Bool,(b=true→1≤k∧k≤6∧m≤30)→Few14E w A k A' m (.returned (.bool b)) w):=Lib.hid (fun b hb=>⟨b,rfl,fun h=>⟨(hb h).1,(hb h).2.1,(hb h).2.2,hcov (hb h).2.1,fun x hx i hi=>HA2.out x hx i (by have:=(hb h).2.2;omega)⟩,rfl⟩)
            by_cases n1:1≤k
            · have d1:decide ((1:Int)≤(k:Int))=true:=decide_eq_true (by omega)
              by_cases n6:k≤6
              · have d2:decide ((k:Int)≤6)=true:=decide_eq_true (by omega)
                by_cases m3:m≤30
                · have d3:decide ((m:Int)≤30)=true:=decide_eq_true (by omega)
                  have hqm:q=m:=by omega
                  subst hqm
                  go_wp2_with fail
                  go_ret
                  exact END.out true (fun _=>⟨n1,n6,m3⟩)
                · have d3:decide ((m:Int)≤30)=false:=decide_eq_false (by omega)
                  have hqm:q=31:=by omega
                  subst hqm
                  by_cases hm31:31 < m
                  · have d4:decide ((31:Int) < (m:Int))=true:=decide_eq_true (by omega)
                    go_wp2_with fail
                    go_ret
                    exact END.out false (fun h=>by cases h)
                  · obtain rfl:m=31:=by omega
                    go_wp2_with fail
                    go_ret
                    exact END.out false (fun h=>by cases h)
              · have d2:decide ((k:Int)≤6)=false:=decide_eq_false (by omega)
                by_cases hqm:q < m
                · have d4:decide ((q:Int) < (m:Int))=true:=decide_eq_true (by omega)
                  have d5:decide ((q:Int)≤30)=false:=decide_eq_false (by omega)
                  go_wp2_with fail
                  go_ret
                  exact END.out false (fun h=>by cases h)
                · obtain rfl:q=m:=by omega
                  go_wp2_with fail
                  go_ret
                  exact END.out false (fun h=>by cases h)
            · obtain rfl:k=0:=by omega
              by_cases hqm:q < m
              · have d4:decide ((q:Int) < (m:Int))=true:=decide_eq_true (by omega)
                have d5:decide ((q:Int)≤30)=false:=decide_eq_false (by omega)
                go_wp2_with fail
                go_ret
                exact END.out false (fun h=>by cases h)
              · obtain rfl:q=m:=by omega
                go_wp2_with fail
                go_ret
                exact END.out false (fun h=>by cases h)
end Go.Proofs.YteefmjhemhlapaaGreat.Mm
