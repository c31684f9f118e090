/- Whether code is safe, what a region's size is: the document's own. -/
import Derived.Test.YteefmjhemhlapaaGreatVSvM
import Derived.Test.YteefmjhemhlapaaGreatVScP
import Derived.Test.YteefmjhemhlapaaGreatVImR
import Derived.Test.YteefmjhemhlapaaGreatVGoB
import Derived.Test.YteefmjhemhlapaaGreatVGoR
import Derived.Lib.AppendZeros
import Derived.Lib.AppendStr
namespace Go.Proofs.YteefmjhemhlapaaGreat.Mm
open Go.ChangeShapes Go.WideShapes Go.ChangeAt Go.RowKit
set_option linter.unusedVariables false
set_option linter.unusedSimpArgs false

def powB (s:Int):Bool:=s == 128 || s == 256 || s == 512 || s == 1024 || s == 2048 || s == 4096 || s == 8192 || s == 16384
def fitsB (n s:Int):Bool:=powB s && decide (0≤n∧n≤s / 2 - 32)
def CodeC:Prop:=∀ (A:Option Addr) (cap n:Nat) (code:List Int),code.length=n→∀ w:World,RowAt w A cap code→Calls Tryz.prog 41 #[.slice A n cap] w fun e w'=>e=.returned (.int .i64 (verE code))∧Below w.heap.size w w'
def FitsC:Prop:=∀ (n s:Int),(-9223372036854775808≤n∧n≤9223372036854775807)→(-9223372036854775808≤s∧s≤9223372036854775807)→∀ w:World,Calls Tryz.prog 49 #[.int .i64 n,.int .i64 s] w fun e w'=>e=.returned (.bool (fitsB n s))∧Below w.heap.size w w'
theorem row_new32 (w:World):RowAt (w.alloc (.cells ((List.replicate 32 (0:Int)).map (Value.int .u8)).toArray 5)) (some ⟨w.heap.size,0,none⟩) 32 (List.replicate 32 0):=
  row_blk (l:=List.replicate 32 0) (fun x hx=>by rw [List.eq_of_mem_replicate hx];decide) (by rw [List.length_replicate];unfold maxLen;omega) (HasB.new w 5 _)
def imgE (b:List Int):Int:=if errL b≠0 then errL b else verE (codeI b)
def ImageP (w:World) (b:List Int) (e:Ending) (w':World):Prop:=(imgE b=0∧ReadY w b e w')∨(imgE b≠0∧ReadN w (imgE b) e w')
def ImageC:Prop:=∀ (A:Option Addr) (cap n:Nat) (b:List Int),b.length=n→n≤100000→∀ w:World,RowAt w A cap b→Calls Tryz.prog 18 #[.slice A n cap] w (ImageP w b)
theorem img_lay {C D:List Int} (h:rightB C.length D.length=true):imgE (layL C D)=verE C:=by
  unfold imgE
  rw [if_neg (fun k=>k (lay_err C D h)),lay_code]
theorem verLen_any (A:Option Addr) (n cap:Nat) (w:World):Calls Tryz.prog 79 #[.slice A n cap] w fun e w'=>e=.returned (.int .i64 (if 4064 < n then 4 else 0))∧w=w':=by
  by_cases h:4064 < n
  · rw [if_pos h]
    go_enter Tryz.func79,Tryz.ntmps79
    go_wp2
    go_ret
    exact ⟨rfl,rfl⟩
  · rw [if_neg h]
    go_enter Tryz.func79,Tryz.ntmps79
    go_wp2
    go_ret
    exact ⟨rfl,rfl⟩
theorem may_not (s:Int) (h:¬ (128≤s∧s≤16384)) (w:World):Calls Tryz.prog 68 #[.int .i64 s] w fun e w'=>e=.returned (.bool false)∧w=w':=by
  by_cases h1:128≤s
  · have h2:¬ s≤16384:=by omega
    go_enter Tryz.func68,Tryz.ntmps68
    go_wp2
    go_ret
    exact ⟨rfl,rfl⟩
  · go_enter Tryz.func68,Tryz.ntmps68
    go_wp2
    go_ret
    exact ⟨rfl,rfl⟩
theorem and_pow {s k:Nat} (h1:2 ^ k < s) (h2:s < 2 ^ (k+1)):s &&& (s - 1)≠0:=by
  intro h
  have b1:s.testBit k=true:=Nat.testBit_of_two_pow_le_and_two_pow_add_one_gt (by omega) h2
  have b2:(s - 1).testBit k=true:=Nat.testBit_of_two_pow_le_and_two_pow_add_one_gt (by omega) (by omega)
  have:(s &&& (s - 1)).testBit k=true:=by rw [Nat.testBit_and,b1,b2];rfl
  rw [h,Nat.zero_testBit] at this
  cases this
theorem and_pow0 (k:Nat):2 ^ k &&& (2 ^ k - 1)=0:=by
  rw [Nat.and_two_pow_sub_one_eq_mod,Nat.mod_self]
theorem and_i64 (s:Nat) (h:s≤16384) (h0:0 < s):bits .and .i64 (s:Int) ((s:Int) - 1)=((s &&& (s - 1):Nat):Int):=by
  show IntKind.i64.wrap ((BitVec.ofInt 64 (s:Int) &&& BitVec.ofInt 64 ((s:Int) - 1)).toNat:Int)=_
  have e1:BitVec.ofInt 64 (s:Int)=BitVec.ofNat 64 s:=by
    rw [← BitVec.ofInt_natCast]
  have e2:BitVec.ofInt 64 ((s:Int) - 1)=BitVec.ofNat 64 (s - 1):=by
    rw [← BitVec.ofInt_natCast];congr 1;omega
  rw [e1,e2,BitVec.toNat_and,BitVec.toNat_ofNat,BitVec.toNat_ofNat,Nat.mod_eq_of_lt (by omega),Nat.mod_eq_of_lt (by omega)]
  have:s &&& (s - 1)≤s:=Nat.and_le_left
  exact IntWalk.i64_in _ (by omega)
theorem may_in (s:Nat) (h1:128≤s) (h2:s≤16384) (q:Bool) (hq:(((s &&& (s - 1):Nat):Int) == 0)=q) (w:World):Calls Tryz.prog 68 #[.int .i64 s] w fun e w'=>e=.returned (.bool q)∧w=w':=by
  have ha:=and_i64 s h2 (by omega)
  generalize ((s &&& (s - 1):Nat):Int)=z at *
  have w1:IntKind.i64.wrap ((s:Int) - 1)=(s:Int) - 1:=IntWalk.i64_in _ (by omega)
  go_enter Tryz.func68,Tryz.ntmps68
  go_wp2
  go_ret
  exact ⟨rfl,rfl⟩
theorem pow_and (s:Nat) (h1:128≤s) (h2:s≤16384):(((s &&& (s - 1):Nat):Int) == 0)=powB s:=by
  have hc:s=128∨s=256∨s=512∨s=1024∨s=2048∨s=4096∨s=8192∨s=16384∨(powB s=false∧∃ k,2 ^ k < s∧s < 2 ^ (k+1)):=by
    have:s=128∨s=256∨s=512∨s=1024∨s=2048∨s=4096∨s=8192∨s=16384∨(s≠128∧s≠256∧s≠512∧s≠1024∧s≠2048∧s≠4096∧s≠8192∧s≠16384):=by omega
    rcases this with h | h | h | h | h | h | h | h | ⟨n1,n2,n3,n4,n5,n6,n7,n8⟩
    · exact .inl h
    · exact .inr (.inl h)
    · exact .inr (.inr (.inl h))
    · exact .inr (.inr (.inr (.inl h)))
    · exact .inr (.inr (.inr (.inr (.inl h))))
    · exact .inr (.inr (.inr (.inr (.inr (.inl h)))))
    · exact .inr (.inr (.inr (.inr (.inr (.inr (.inl h))))))
    · exact .inr (.inr (.inr (.inr (.inr (.inr (.inr (.inl h)))))))
    · refine .inr (.inr (.inr (.inr (.inr (.inr (.inr (.inr ⟨?_,?_⟩)))))))
      · unfold powB;simp;omega
      · have:(128 < s∧s < 256)∨(256 < s∧s < 512)∨(512 < s∧s < 1024)∨(1024 < s∧s < 2048)∨(2048 < s∧s < 4096)∨(4096 < s∧s < 8192)∨(8192 < s∧s < 16384):=by omega
        rcases this with h | h | h | h | h | h | h
        · exact ⟨7,h⟩
        · exact ⟨8,h⟩
        · exact ⟨9,h⟩
        · exact ⟨10,h⟩
        · exact ⟨11,h⟩
        · exact ⟨12,h⟩
        · exact ⟨13,h⟩
  rcases hc with rfl | rfl | rfl | rfl | rfl | rfl | rfl | rfl | ⟨hp,k,h3,h4⟩
  · exact by rw [and_pow0 7];rfl
  · exact by rw [and_pow0 8];rfl
  · exact by rw [and_pow0 9];rfl
  · exact by rw [and_pow0 10];rfl
  · exact by rw [and_pow0 11];rfl
  · exact by rw [and_pow0 12];rfl
  · exact by rw [and_pow0 13];rfl
  · exact by rw [and_pow0 14];rfl
  · have:=and_pow h3 h4
    rw [hp]
    generalize s &&& (s - 1)=z at *
    simp;omega
theorem mayBe_s (s:Int) (w:World):Calls Tryz.prog 68 #[.int .i64 s] w fun e w'=>e=.returned (.bool (powB s))∧w=w':=by
  by_cases h:128≤s∧s≤16384
  · obtain ⟨n,rfl⟩:=Int.eq_ofNat_of_zero_le (show (0:Int)≤s by omega)
    exact may_in n (by omega) (by omega) _ (pow_and n (by omega) (by omega)) w
  · have:powB s=false:=by unfold powB;simp;omega
    rw [this]
    exact may_not s h w
theorem st_func (a:Addr) (fn:Fn) (w:World):(store a (.func fn #[] #[])).run Tryz.prog w=stored Tryz.prog w a (.func fn #[] #[]) .plain:=run_store Tryz.prog w a _ .plain rfl
theorem questions_any (w:World):Calls Tryz.prog 66 #[] w fun e w'=>e=.returned (.agg #[.func (.func 78) #[] #[],.func (.func 79) #[] #[]])∧Below w.heap.size w w':=by
  have NB:=HasB.new w 124 [.nilFunc,.nilFunc]
  have k0:=NB.cell 0
  have k1:=NB.cell 1
  have f0:=NB.frozen 0
  have f1:=NB.frozen 1
  simp only [List.getElem?_cons_succ,List.getElem?_cons_zero] at k0 k1
  clear NB
  have s0:=st_func ⟨w.heap.size,0,none⟩ (.func 78)
  have s1:=st_func ⟨w.heap.size,1,none⟩ (.func 79)
  go_enter Tryz.func66,Tryz.ntmps66
  go_wp2_with fail
  refine bodyPost_ret (v:=.agg #[.func (.func 78) #[] #[],.func (.func 79) #[] #[]]) (by simp [results,Tryz.results66,go_sem,k0,k1]) rfl ⟨rfl,?_⟩
  exact bel_al (Below.refl w.heap.size w) _
theorem ask_0 (w:World):(Instr.index 124 (.agg #[.func (.func 78) #[] #[],.func (.func 79) #[] #[]]) (.int .i64 0)).run Tryz.prog w=.ok (.func (.func 78) #[] #[]) w:=by kernel_rfl
theorem ask_1 (w:World):(Instr.index 124 (.agg #[.func (.func 78) #[] #[],.func (.func 79) #[] #[]]) (.int .i64 1)).run Tryz.prog w=.ok (.func (.func 79) #[] #[]) w:=by kernel_rfl
set_option maxRecDepth 10000 in
theorem code_x (A:Option Addr) (cap n:Nat) (m:Int) (w:World) (MC:∀ w1:World,Below w.heap.size w w1→Calls Tryz.prog 78 #[.slice A n cap] w1 fun e w'=>e=.returned (.int .i64 m)∧Below w1.heap.size w1 w'):Calls Tryz.prog 41 #[.slice A n cap] w fun e w'=>e=.returned (.int .i64 (if m≠0 then m else if 4064 < n then 4 else 0))∧Below w.heap.size w w':=by
  replace MC:=Lib.hid MC
  have hE:∃ r,r=(if m≠0 then m else if 4064 < n then 4 else 0):=⟨_,rfl⟩
  obtain ⟨r,hr⟩:=hE
  rw [← hr]
  replace hr:=Lib.hid hr
  have L1:=Lib.hid (verLen_any A n cap)
  have a0:=ask_0
  have a1:=ask_1
  go_enter Tryz.func41,Tryz.ntmps41
  go_wp2_with fail
  refine (questions_any w).mono ?_;rintro e w1 ⟨rfl,hb1⟩
  have B1:=Lib.hid hb1;clear hb1
  go_wp2_with fail
  go_loopw [7] (fun i wr=>∃ k:Nat,k≤2∧i=.int .i64 k∧Hid (0 < k→m=0)∧Hid (1 < k→¬ 4064 < n)∧Hid (Below w.heap.size w wr)) (fun i _=>2 - (intOf i).toNat)
  case atStart=>exact ⟨0,by omega,rfl,Lib.hid (by omega),Lib.hid (by omega),B1⟩
  case round=>
    obtain ⟨k,hk,rfl,H1,H2,HB⟩:=hrel
    have hc:k=0∨k=1∨k=2:=by omega
    clear hk
    rcases hc with rfl | rfl | rfl
    · by_cases hm:m=0
      · subst hm
        go_wp2_with fail
        refine (MC.out _ HB.out).mono ?_;rintro e w2 ⟨rfl,hb2⟩
        have B2:=Lib.hid (bel_then HB.out hb2);clear hb2
        go_wp2_with fail
        go_roundw
        case rel=>exact ⟨1,by omega,rfl,Lib.hid (by simp),Lib.hid (by omega),B2⟩
        case measure=>simp [intOf]
      · have hq:r=m:=by rw [hr.out,if_pos hm]
        have q1:(m == 0)=false:=by simpa using hm
        subst hq
        clear H1 H2
        go_wp2_with fail
        refine (MC.out _ HB.out).mono ?_;rintro e w2 ⟨rfl,hb2⟩
        have B2:=Lib.hid (bel_then HB.out hb2);clear hb2
        go_wp2
        go_ret
        exact ⟨rfl,B2.out⟩
    · have hm:=H1.out (by omega)
      subst hm
      by_cases hn:4064 < n
      · have hq:r=4:=by rw [hr.out,if_neg (by simp),if_pos hn]
        rw [if_pos hn] at L1
        subst hq
        clear H1 H2
        go_wp2_with fail
        refine (L1.out _).mono ?_;rintro e w2 ⟨rfl,rfl⟩
        go_wp2
        go_ret
        exact ⟨rfl,HB.out⟩
      · rw [if_neg hn] at L1
        have K2:=Lib.hid (fun (_:1 < 2)=>hn)
        clear hr H2
        go_wp2_with fail
        refine (L1.out _).mono ?_;rintro e w2 ⟨rfl,rfl⟩
        go_wp2_with fail
        go_roundw
        case rel=>exact ⟨2,by omega,rfl,Lib.hid (by simp),Lib.hid (fun _=>hn),HB⟩
        case measure=>simp [intOf]
    · have hm:=H1.out (by omega)
      have hn:=H2.out (by omega)
      have hq:r=0:=by rw [hr.out,if_neg (by simp [hm]),if_neg hn]
      subst hq
      clear H1 H2
      go_wp2
      go_ret
      exact ⟨rfl,HB.out⟩
theorem fits_s (n s:Int) (hn:-9223372036854775808≤n∧n≤9223372036854775807) (hs:-9223372036854775808≤s∧s≤9223372036854775807) (w:World):Calls Tryz.prog 49 #[.int .i64 n,.int .i64 s] w fun e w'=>e=.returned (.bool (fitsB n s))∧w=w':=by
  have M:=mayBe_s s w
  have hp:powB s=false∨(powB s=true∧128≤s∧s≤16384):=by
    cases h:powB s
    · exact .inl rfl
    · refine .inr ⟨rfl,?_⟩
      unfold powB at h;simp at h;omega
  rcases hp with h | ⟨h,h1,h2⟩
  · have e:fitsB n s=false:=by unfold fitsB;rw [h];rfl
    rw [e];rw [h] at M;clear e h hn hs
    replace M:=Lib.hid M
    go_enter Tryz.func49,Tryz.ntmps49
    go_wp2_with fail
    refine M.out.mono ?_;rintro e w2 ⟨rfl,rfl⟩
    go_wp2
    go_ret
    exact ⟨rfl,rfl⟩
  · have e:fitsB n s=(decide (0≤n∧n≤s / 2 - 32)):=by unfold fitsB;rw [h];rfl
    have hd:s.tdiv 2=s / 2:=Int.tdiv_eq_ediv_of_nonneg (by omega)
    have hw1:IntKind.i64.wrap (s / 2)=s / 2:=IntWalk.i64_in _ (by omega)
    have hw2:IntKind.i64.wrap (s / 2 - 32)=s / 2 - 32:=IntWalk.i64_in _ (by omega)
    rw [e];rw [h] at M;clear e h hn hs
    replace M:=Lib.hid M
    by_cases h3:0≤n
    · have e2:decide (0≤n∧n≤s / 2 - 32)=decide (n≤s / 2 - 32):=by
        by_cases h4:n≤s / 2 - 32
        · rw [decide_eq_true h4,decide_eq_true ⟨h3,h4⟩]
        · rw [decide_eq_false h4,decide_eq_false (by omega)]
      rw [e2]
      generalize s / 2=d at *
      go_enter Tryz.func49,Tryz.ntmps49
      go_wp2_with fail
      refine M.out.mono ?_;rintro e w2 ⟨rfl,rfl⟩
      go_wp2
      go_ret
      exact ⟨rfl,rfl⟩
    · rw [decide_eq_false (by omega)]
      go_enter Tryz.func49,Tryz.ntmps49
      go_wp2_with fail
      refine M.out.mono ?_;rintro e w2 ⟨rfl,rfl⟩
      go_wp2
      go_ret
      exact ⟨rfl,rfl⟩
def ReadNx (w:World) (k:Int) (e:Ending) (w':World):Prop:=e=.returned (.tuple #[.agg #[.slice none 0 0,.slice none 0 0],.int .i64 k])∧Below w.heap.size w w'
theorem img_no (A:Option Addr) (n cap:Nat) (k:Int) (hk:k≠0) (w:World)
    (C:∀ w',Below w.heap.size w w'→Calls Tryz.prog 40 #[.slice A n cap] w' (ReadNx w' k)) :
    Calls Tryz.prog 18 #[.slice A n cap] w (ReadNx w k):=by
  have NB:=HasB.new w 57 [.slice none 0 0,.slice none 0 0]
  have HB:=bel_al (Below.refl w.heap.size w) (.cells #[.slice none 0 0,.slice none 0 0] 57)
  have C1:=Lib.hid (C _ HB)
  unfold ReadNx at C1
  have q1:(k == 0)=false:=by simpa using hk
  generalize hw0:w.alloc (.cells #[.slice none 0 0,.slice none 0 0] 57)=w0 at *
  have hs0:w.heap.size < w0.heap.size:=NB.lt
  go_enter Tryz.func18,Tryz.ntmps18
  go_wp2_with fail
  refine C1.out.mono ?_;rintro e w1 ⟨rfl,hb1⟩
  have P:=NB.below hb1
  have k0:=P.cell 0
  have k1:=P.cell 1
  have f0:=P.frozen 0
  have f1:=P.frozen 1
  have N1:=HasB.new w1 57 [.slice none 0 0,.slice none 0 0]
  have m0:=N1.cell 0
  have m1:=N1.cell 1
  have g0:=N1.frozen 0
  have g1:=N1.frozen 1
  have bb:=bel_al (Below.refl w1.heap.size w1) (.cells #[.slice none 0 0,.slice none 0 0] 57)
  have P2:=P.below bb
  have k20:=P2.cell 0
  have k21:=P2.cell 1
  have f20:=P2.frozen 0
  have f21:=P2.frozen 1
  have hb1':=Lib.hid (bel_al (bel_then HB hb1) (.cells #[.slice none 0 0,.slice none 0 0] 57))
  simp only [List.getElem?_cons_succ,List.getElem?_cons_zero] at k0 k1 m0 m1 k20 k21
  clear NB HB P N1 C1 bb P2 hb1 hs0
  go_wp2_with fail
  refine bodyPost_ret (v:=.tuple #[.agg #[.slice none 0 0,.slice none 0 0],.int .i64 k]) (by simp [results,Tryz.results18,go_sem,k20,k21]) rfl ⟨rfl,?_⟩
  exact (hb1'.out.setCell (Nat.le_refl _) _).setCell (Nat.le_refl _) _
def ReadYx (w:World) (C D:List Int) (e:Ending) (w':World):Prop:=∃ A5 c5 A6 c6,e=.returned (.tuple #[.agg #[.slice A5 C.length c5,.slice A6 D.length c6],.int .i64 0])∧Own w.heap.size w' A5 c5 C∧Own w.heap.size w' A6 c6 D∧Below w.heap.size w w'
theorem img_yes (A:Option Addr) (n cap:Nat) (C D:List Int) (k:Int) (w:World)
    (CR:∀ w',Below w.heap.size w w'→Calls Tryz.prog 40 #[.slice A n cap] w' (ReadYx w' C D))
    (CC:∀ A5 c5 w',RowAt w' A5 c5 C→Calls Tryz.prog 41 #[.slice A5 C.length c5] w' fun e w''=>e=.returned (.int .i64 k)∧Below w'.heap.size w' w'') :
    Calls Tryz.prog 18 #[.slice A n cap] w (fun e w'=>(k=0∧ReadYx w C D e w')∨(k≠0∧ReadNx w k e w')):=by
  have NB:=HasB.new w 57 [.slice none 0 0,.slice none 0 0]
  have HB:=bel_al (Below.refl w.heap.size w) (.cells #[.slice none 0 0,.slice none 0 0] 57)
  have R1:=Lib.hid (CR _ HB)
  unfold ReadYx at R1
  have HC:=Lib.hid CC
  have hq:∃ Q,Q=(fun e w'=>(k=0∧ReadYx w C D e w')∨(k≠0∧ReadNx w k e w')):=⟨_,rfl⟩
  obtain ⟨Q,hQ⟩:=hq
  rw [← hQ]
  have QY:k=0→∀ e w',ReadYx w C D e w'→Q e w':=fun h e w' r=>by rw [hQ];exact .inl ⟨h,r⟩
  have QN:k≠0→∀ e w',ReadNx w k e w'→Q e w':=fun h e w' r=>by rw [hQ];exact .inr ⟨h,r⟩
  replace QY:=Lib.hid QY
  replace QN:=Lib.hid QN
  clear hQ CR CC
  obtain ⟨w0,hw0⟩:∃ w0,w.alloc (.cells #[.slice none 0 0,.slice none 0 0] 57)=w0:=⟨_,rfl⟩
  rw [hw0] at R1 HB
  rw [show w.alloc (.cells [Value.slice none 0 0,.slice none 0 0].toArray 57)=w0 from hw0] at NB
  have hs0:w.heap.size+1=w0.heap.size:=by rw [← hw0];exact (Array.size_push _).symm
  go_enter Tryz.func18,Tryz.ntmps18
  go_wp2_with fail
  refine R1.out.mono ?_;rintro e w1 ⟨A5,c5,A6,c6,rfl,o5,o6,hb1⟩
  clear R1
  have NB:=NB
  have P:=NB.below hb1
  have N0:=HasB.new w1 57 [.slice none 0 0,.slice none 0 0]
  have m0:=N0.cell 0
  have m1:=N0.cell 1
  have g0:=N0.frozen 0
  have g1:=N0.frozen 1
  have N1:=HasB.new w1 57 [.slice A5 C.length c5,.slice A6 D.length c6]
  have n0:=N1.cell 0
  have n1:=N1.cell 1
  have bb:=bel_al (Below.refl w1.heap.size w1) (.cells #[.slice A5 C.length c5,.slice A6 D.length c6] 57)
  have P2:=P.below bb
  have O5:=Lib.hid (o5.below bb)
  have O6:=Lib.hid (o6.below bb)
  have BB:=bel_then (bel_then HB hb1) bb
  have hw2:w1.alloc (.cells #[.slice A5 C.length c5,.slice A6 D.length c6] 57)=w1.alloc (.cells [.slice A5 C.length c5,.slice A6 D.length c6].toArray 57):=rfl
  rw [← hw2] at N1
  have C2:=Lib.hid (HC.out _ _ _ O5.out.row)
  clear HC o5 o6 hb1 HB bb hw2 NB P N0
  generalize hw2:w1.alloc (.cells #[.slice A5 C.length c5,.slice A6 D.length c6] 57)=w2 at *
  simp only [List.getElem?_cons_succ,List.getElem?_cons_zero] at m0 m1 n0 n1
  have k5:=Lib.hid P2
  have k6:=Lib.hid N1
  have k7:=Lib.hid BB
  have k8:=Lib.hid hs0
  have hz:=Lib.hid (show w.heap.size < w2.heap.size from P2.lt)
  clear P2 N1 BB hs0
  go_wp2_with fail
  refine C2.out.mono ?_;rintro e w3 ⟨rfl,hb3⟩
  clear C2
  have P3:=k5.out.below hb3
  have N3:=k6.out.below hb3
  have k30:=P3.cell 0
  have k31:=P3.cell 1
  have f30:=P3.frozen 0
  have f31:=P3.frozen 1
  have n30:=N3.cell 0
  have n31:=N3.cell 1
  have O5':=Lib.hid (O5.out.below hb3)
  have O6':=Lib.hid (O6.out.below hb3)
  have B3:=Lib.hid (bel_then k7.out hb3)
  simp only [List.getElem?_cons_succ,List.getElem?_cons_zero] at k30 k31 n30 n31
  clear P3 N3 hb3 O5 O6 k5 k6 k7 n0 n1 m0 m1 g0 g1
  by_cases hk:k=0
  · subst hk
    go_wp2_with fail
    have hB:w.heap.size < w0.heap.size:=by have:=k8.out;omega
    refine bodyPost_ret (v:=.tuple #[.agg #[.slice A5 C.length c5,.slice A6 D.length c6],.int .i64 0]) (by simp [results,Tryz.results18,go_sem,k30,k31]) rfl (QY.out (by trivial) _ _ ?_)
    refine ⟨A5,c5,A6,c6,rfl,((O5'.out.kept (a:=.mk w.heap.size 0 none) hB _).kept (a:=.mk w.heap.size 1 none) hB _).mono (Nat.le_of_lt hB),((O6'.out.kept (a:=.mk w.heap.size 0 none) hB _).kept (a:=.mk w.heap.size 1 none) hB _).mono (Nat.le_of_lt hB),?_⟩
    exact (B3.out.setCell (Nat.le_refl _) _).setCell (Nat.le_refl _) _
  · have q1:(k == 0)=false:=by simpa using hk
    go_wp2_with fail
    refine bodyPost_ret (v:=.tuple #[.agg #[.slice none 0 0,.slice none 0 0],.int .i64 k]) (by simp [results,Tryz.results18,go_sem,k30,k31]) rfl (QN.out hk _ _ ⟨rfl,?_⟩)
    exact (B3.out.setCell (Nat.le_refl _) _).setCell (Nat.le_refl _) _
theorem codeC:CodeC:=by
  intro A cap n code hn w r
  have h:=code_x A cap n (mayE code) w (fun w1 k=>May_any A cap n code hn w1 (r.below k))
  have e:verE code=if mayE code≠0 then mayE code else if 4064 < n then 4 else 0:=by unfold verE;rw [hn]
  rw [e]
  exact h
theorem fitsC:FitsC:=by
  intro n s hn hs w
  refine (fits_s n s hn hs w).mono ?_
  rintro e w' ⟨h,rfl⟩
  exact ⟨h,Below.refl _ _⟩
theorem imageC:ImageC:=by
  intro A cap n b hn hl w r
  by_cases hE:errL b=0
  · have hi:imgE b=verE (codeI b):=by unfold imgE;rw [if_neg (by simp [hE])]
    refine (img_yes A n cap (codeI b) (dataL b) (verE (codeI b)) w (fun w' k=>Read_yes A cap b n hn hl w' (r.below k) hE) (fun A5 c5 w' k=>codeC A5 c5 _ _ rfl w' k)).mono ?_
    intro e w' h
    unfold ImageP
    rw [hi]
    exact h
  · have hi:imgE b=errL b:=by unfold imgE;rw [if_pos hE]
    refine (img_no A n cap (errL b) hE w (fun w' k=>Read_no A cap b n hn hl w' (r.below k) hE)).mono ?_
    intro e w' h
    unfold ImageP
    rw [hi]
    exact .inr ⟨hE,h⟩
theorem rCode_any (A:Option Addr) (cap n:Nat) (code:List Int) (hn:code.length=n) (w:World) (r:RowAt w A cap code):Calls Tryz.prog 28 #[.slice A n cap] w fun e w'=>e=.returned (.int .i64 (verE code))∧Below w.heap.size w w':=by
  have C1:=Lib.hid (rMay_any A cap n code hn w r)
  have hm:n≤maxLen:=by have:=r.1;have:=r.2.1;omega
  unfold maxLen at hm
  have HC:=ver_cases code
  rw [hn] at HC
  clear r hn
  generalize mayE code=q at *
  generalize verE code=v at *
  rcases HC with ⟨h1,rfl⟩ | ⟨rfl,h2,rfl⟩ | ⟨rfl,h2,rfl⟩
  · have hq:(v != 0)=true:=by rw [bne_iff_ne];exact h1
    clear h1
    go_enter Tryz.func28,Tryz.ntmps28
    go_wp2_with fail
    refine C1.out.mono ?_;rintro e w1 ⟨rfl,hb1⟩
    go_wp2
    go_ret
    exact ⟨rfl,hb1⟩
  · go_enter Tryz.func28,Tryz.ntmps28
    go_wp2_with fail
    refine C1.out.mono ?_;rintro e w1 ⟨rfl,hb1⟩
    go_wp2
    go_ret
    exact ⟨rfl,hb1⟩
  · go_enter Tryz.func28,Tryz.ntmps28
    go_wp2_with fail
    refine C1.out.mono ?_;rintro e w1 ⟨rfl,hb1⟩
    go_wp2
    go_ret
    exact ⟨rfl,hb1⟩
end Go.Proofs.YteefmjhemhlapaaGreat.Mm
