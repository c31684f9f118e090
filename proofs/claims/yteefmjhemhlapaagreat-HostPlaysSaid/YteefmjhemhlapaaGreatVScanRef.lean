/- The document's own Scan. -/
import Derived.Test.YteefmjhemhlapaaGreatVScB
import Derived.Test.YteefmjhemhlapaaGreatVIsR
namespace Go.Proofs.YteefmjhemhlapaaGreat.Mm
open Go.ChangeShapes Go.WideShapes Go.ChangeAt Go.RowKit
set_option linter.unusedVariables false
set_option maxRecDepth 10000
theorem own_below {A B:World} {base size n:Nat} {e:TypeId} {v:Value} {xs:List Value} (h:A.ownsRow base e size v n xs) (b:Below A.heap.size A B):B.ownsRow base e size v n xs:=own_kept h (grown_below b) (fun r e=>by cases e)
theorem own_al {A:World} {base size n:Nat} {e:TypeId} {v:Value} {xs:List Value} (h:A.ownsRow base e size v n xs) (o:Obj):(A.alloc o).ownsRow base e size v n xs:=own_below h ((Below.refl _ _).alloc (Nat.le_refl _) o)
theorem rscan_size (A:Option Addr) (cap n:Nat) (code:List Int) (hn:code.length=n) (hm:n≤maxLen) (h:sizeB n=false) (w:World) :
    Calls Tryz.prog 72 #[.slice A n cap] w (ReadP w code):=by
  unfold maxLen at hm
  obtain ⟨e1,e2⟩:=scanE_4 (code:=code) (by rw [hn];exact h)
  have HP:Hid (∀ w',Below w.heap.size w w'→ReadP w code (.returned (.tuple #[.slice none 0 0,.slice none 0 0,.int .i64 4])) w'):=Lib.hid (fun w' b=>⟨none,0,none,0,by rw [e1,e2];rfl,by rw [e2];exact intRow_nil _,by rw [e2];exact insRow_nil _,b⟩)
  have hs:¬ (32≤n∧n≤4096∧n % 32=0):=by rw [← sizeB_iff,h];decide
  clear e1 e2 h hn
  by_cases h1:n < 32
  · clear hs
    go_enter Tryz.func72,Tryz.ntmps72
    go_wp2
    go_ret3
    exact HP.out _ (Below.refl _ _)
  · by_cases h2:4096 < n
    · clear hs
      go_enter Tryz.func72,Tryz.ntmps72
      go_wp2
      go_ret3
      exact HP.out _ (Below.refl _ _)
    · have h3:((n:Int) % 32 != 0)=true:=by simp;omega
      have h3':((n:Int) % 32 == 0)=false:=by simp;omega
      clear hs
      go_enter Tryz.func72,Tryz.ntmps72
      go_wp2
      go_ret3
      exact HP.out _ (Below.refl _ _)
def Came (code:List Int) (k:Nat) (L:List (Nat×InsV)):Prop:=k≤code.length∧L.length≤k∧(∀ p∈L,p.2.Ok)∧scanAt code 0=(scanAt code k).map (L ++ ·)
theorem came_0 (code:List Int):Came code 0 []:=⟨by omega,by simp,fun p h=>(by cases h),by simp⟩
theorem came_yes {code:List Int} (hb:Go.Proofs.YteefmjhemhlapaaGreat.Bytes code) {k:Nat} {B:List (Nat×InsV)} (h:Came code k B) (hk:k < code.length) (ho:okAt code k=true) :
    Came code (k+rdN (code.drop k)) (B ++ [(k,rdX (code.drop k))]):=by
  obtain ⟨h1,h2,h3,h4⟩:=h
  obtain ⟨f1,f2,f3,f4,_⟩:=rd_facts (dropB hb k) ((ok_iff _ _).1 ho).1
  rw [List.length_drop] at f4
  refine ⟨by omega,by rw [List.length_append,List.length_singleton];omega,fun p hp=>?_,?_⟩
  · rcases List.mem_append.1 hp with hp | hp
    · exact h3 p hp
    · simp at hp;subst hp;exact f1
  · rw [h4,scan_yes hb hk ho,Option.map_map]
    congr 1
    funext x
    simp
theorem came_no {code:List Int} {k:Nat} {B:List (Nat×InsV)} (h:Came code k B) (hk:k < code.length) (ho:okAt code k=false):scanAt code 0=none:=by
  rw [h.2.2.2,scan_no hk ho]
  rfl
theorem came_end {code:List Int} {B:List (Nat×InsV)} (h:Came code code.length B):scanAt code 0=some B:=by
  rw [h.2.2.2,scan_end (Nat.le_refl _)]
  simp
theorem posI_snoc (L:List (Nat×InsV)) (k:Nat) (x:InsV):posI L ++ [(k:Int)]=posI (L ++ [(k,x)]):=by rw [posI_app];rfl
theorem insI_snoc (L:List (Nat×InsV)) (k:Nat) (x:InsV):insI L ++ [x]=insI (L ++ [(k,x)]):=by rw [insI_app];rfl
set_option maxRecDepth 100000 in
set_option maxHeartbeats 2000000 in
theorem rscan_main (A:Option Addr) (cap n:Nat) (code:List Int) (hn:code.length=n) (h32:32≤n) (h40:n≤4096) (hm:n % 32=0) (w:World) (r:RowAt w A cap code) :
    Calls Tryz.prog 72 #[.slice A n cap] w (ReadP w code):=by
  have R:=Lib.hid r
  have HN:=Lib.hid hn
  have HSZ:Hid (sizeB code.length=true):=Lib.hid (by rw [hn];exact (sizeB_iff _).2 ⟨h32,h40,hm⟩)
  have h3:((n:Int) % 32 != 0)=false:=by simp;omega
  have h3':((n:Int) % 32 == 0)=true:=by simp;omega
  have HBAD:Hid (scanAt code 0=none→∀ w',Below w.heap.size w w'→ReadP w code (.returned (.tuple #[.slice none 0 0,.slice none 0 0,.int .i64 2])) w'):=Lib.hid (fun h w' b=>by
    obtain ⟨e1,e2⟩:=scanE_2 HSZ.out h
    exact ⟨none,0,none,0,by rw [e1,e2];rfl,by rw [e2];exact intRow_nil _,by rw [e2];exact insRow_nil _,b⟩)
  clear r hn hm
  go_enter Tryz.func72,Tryz.ntmps72
  go_wp2
  clear h3 h3'
  go_loopw [5,6,7] (fun a b i wr=>∃ (k:Nat) (L:List (Nat×InsV)),i=.int .i64 k∧k≤n∧Hid (Came code k L)∧Hid (wr.ownsRow w.heap.size 3 1 a L.length ((posI L).map (Value.int .i64)))∧Hid (wr.ownsRow w.heap.size 134 4 b L.length ((insI L).flatMap insC))∧Hid (Below w.heap.size w wr)) (fun _ _ i _=>n - (intOf i).toNat)
  case atStart=>exact ⟨0,[],rfl,Nat.zero_le _,Lib.hid (came_0 code),Lib.hid (World.ownsRow_nil _ _ _ _),Lib.hid (World.ownsRow_nil _ _ _ _),Lib.hid (Below.refl _ _)⟩
  case round=>
    skip
    obtain ⟨k,L,rfl,hk,HC,O1,O2,HB⟩:=hrel
    by_cases hlt:k < n
    · cases hr:rdB (code.drop k)
      · have HR:Hid (Calls Tryz.prog 81 #[.slice A n cap,.int .i64 k] wr fun e w'=>e=.returned (.tuple #[.agg #[.int .i64 0,.int .i64 0,.int .i64 0,.int .u32 0],.int .i64 0])∧Below wr.heap.size wr w'):=Lib.hid (by
          have:=Go.Proofs.YteefmjhemhlapaaGreat.rRead_no code A cap k (by rw [HN.out];omega) (.inr (.inr (by rw [Int.toNat_natCast];exact hr))) wr (R.out.below HB.out)
          rw [HN.out] at this
          exact this)
        have HNO:=Lib.hid (came_no HC.out (by rw [HN.out];exact hlt) (by cases ho:okAt code k;rfl;rw [((ok_iff _ _).1 ho).1] at hr;cases hr))
        clear hr
        go_wp2_with ((with_reducible refine Calls.mono HR.out ?_);rintro e w5 ⟨rfl,hb5⟩;have B5:=Lib.hid (bel_then HB.out hb5);clear hb5)
        go_ret3
        exact HBAD.out HNO.out _ (bel_al B5.out _)
      · have hf:=rd_facts (dropB R.out.2.2.1 k) hr
        have HCY:=Lib.hid (came_yes R.out.2.2.1 HC.out (by rw [HN.out];exact hlt))
        have HCN:=Lib.hid (came_no HC.out (by rw [HN.out];exact hlt))
        have hrd:=rd_xn hr
        have HOK:Hid (okAt code k=decide (k % 32+rdN (code.drop k)≤32)):=Lib.hid (by unfold okAt;rw [hr];rfl)
        obtain ⟨f1,f2,f3,f4,_⟩:=hf
        rw [List.length_drop,HN.out] at f4
        have F1:=Lib.hid f1
        clear f1
        generalize rdX (code.drop k)=yv at *
        generalize rdN (code.drop k)=nn at *
        have HR:Hid (Calls Tryz.prog 81 #[.slice A n cap,.int .i64 k] wr fun e w'=>e=.returned (.tuple #[.agg #[.int .i64 yv.op,.int .i64 yv.a,.int .i64 yv.b,.int .u32 yv.imm],.int .i64 nn])∧Below wr.heap.size wr w'):=Lib.hid (by
          have:=Go.Proofs.YteefmjhemhlapaaGreat.rRead_yes code A cap k yv.op yv.a yv.b yv.imm nn (by rw [HN.out];omega) hrd wr (R.out.below HB.out)
          rw [HN.out] at this
          exact this)
        clear hrd hr
        have hnz:((nn:Int) == 0)=false:=by simp;omega
        have hL:L.length≤4096:=by have:=HC.out.2.1;omega
        by_cases hfit:k % 32+nn≤32
        · have HCM:=Lib.hid (HCY.out (by rw [HOK.out];exact decide_eq_true hfit))
          have hfI:(k:Int) % 32+(nn:Int)≤32:=by omega
          clear HCY HCN HOK HBAD
          have HWF:Hid (∀ x∈insI L,x.Wf):=Lib.hid (fun x hx=>by
            obtain ⟨p,hp,rfl⟩:=List.mem_map.1 hx
            exact ok_wf (HC.out.2.2.1 p hp))
          generalize hll:L.length=ln at *
          have HLL:=Lib.hid hll
          clear hll
          go_wp2_with (first
            | ((with_reducible refine Calls.mono HR.out ?_);rintro e w5 ⟨rfl,hb5⟩
               have P1:=Lib.hid (own_al (own_al (own_below O1.out hb5) (.cells #[.int .i64 yv.op,.int .i64 yv.a,.int .i64 yv.b,.int .u32 yv.imm] 134)) (.cells #[.int .i64 k] 3))
               have P2:=Lib.hid (own_al (own_al (own_below O2.out hb5) (.cells #[.int .i64 yv.op,.int .i64 yv.a,.int .i64 yv.b,.int .u32 yv.imm] 134)) (.cells #[.int .i64 k] 3))
               have PX:=Lib.hid (((Ins4.new w5 yv).alloc (.cells #[.int .i64 k] 3)))
               have B5:=Lib.hid (bel_al (bel_al (bel_then HB.out hb5) (.cells #[.int .i64 yv.op,.int .i64 yv.a,.int .i64 yv.b,.int .u32 yv.imm] 134)) (.cells #[.int .i64 k] 3))
               clear hb5)
            | (at_builtin
               refine append_int rfl (.tmp 43) (.tmp 45) rfl w.heap.size u5 ln (posI L) rfl P1.out (w5.heap.size+1) 1 k rfl (one_new2 _ _ _ _) (ln+1) rfl (by omega) B5.out.size ?_
               intro A6 c6 w6 own6 grown6 row6 bel6
               have Q1:=Lib.hid own6
               have Q2:=Lib.hid (own_apart P2.out P1.out (by decide) grown6)
               have X6:=Lib.hid (PX.out.app P1.out grown6)
               have B6:=Lib.hid (B5.out.trans bel6)
               clear own6 grown6 row6 bel6 P1 P2 PX B5
               obtain ⟨xx0,xx1,xx2,xx3⟩:=X6.out.at)
            | (at_builtin
               refine append_ins rfl (.tmp 47) (.tmp 49) rfl w.heap.size u6 ln (insI L) rfl (own_al Q2.out _) HWF.out w6.heap.size 1 yv rfl (Ins4.new w6 yv).at (ok_wf F1.out) (ln+1) rfl (by omega) (by have:=B6.out.size;simp;omega) ?_
               intro A7 c7 w7 own7 grown7 row7 bel7
               have S1:=Lib.hid (own_apart (own_al Q1.out _) (own_al Q2.out _) (by decide) grown7)
               have S2:=Lib.hid own7
               have B7:=Lib.hid ((bel_al B6.out _).trans bel7)
               clear own7 grown7 row7 bel7 Q1 Q2 B6))
          have Z1:Hid (w7.ownsRow w.heap.size 3 1 (.slice A6 (ln+1) c6) (L ++ [(k,yv)]).length ((posI (L ++ [(k,yv)])).map (Value.int .i64))):=Lib.hid (by
            rw [List.length_append,List.length_singleton,HLL.out,← posI_snoc];exact S1.out)
          have Z2:Hid (w7.ownsRow w.heap.size 134 4 (.slice A7 (ln+1) c7) (L ++ [(k,yv)]).length ((insI (L ++ [(k,yv)])).flatMap insC)):=Lib.hid (by
            rw [List.length_append,List.length_singleton,HLL.out,← insI_snoc];exact S2.out)
          exact ⟨⟨k+nn,L ++ [(k,yv)],by go_num,by omega,HCM,Z1,Z2,B7⟩,by simp [intOf];omega⟩
        · have HNO:=Lib.hid (HCN.out (by rw [HOK.out];exact decide_eq_false hfit))
          have hfI:32 < (k:Int) % 32+(nn:Int):=by omega
          clear HCY HCN HOK
          go_wp2_with ((with_reducible refine Calls.mono HR.out ?_);rintro e w5 ⟨rfl,hb5⟩;have B5:=Lib.hid (bel_then HB.out hb5);clear hb5)
          go_ret3
          exact HBAD.out HNO.out _ (bel_al B5.out _)
    · obtain rfl:k=n:=by omega
      have HS:=Lib.hid (scanE_0 HSZ.out (came_end (by rw [HN.out];exact HC.out)))
      have HWF:Hid (∀ x∈insI L,x.Wf):=Lib.hid (fun x hx=>by
        obtain ⟨p,hp,rfl⟩:=List.mem_map.1 hx
        exact ok_wf (HC.out.2.2.1 p hp))
      obtain ⟨A1,c1,rfl,j1,r1⟩:=int_of_own O1.out
      obtain ⟨A2,c2,rfl,j2,r2⟩:=ins_of_own O2.out HWF.out
      have HF:Hid (ReadP w code (.returned (.tuple #[.slice A1 L.length c1,.slice A2 L.length c2,.int .i64 0])) wr):=Lib.hid (by
        obtain ⟨e1,e2⟩:=HS.out
        exact ⟨A1,c1,A2,c2,by rw [e1,e2],by rw [e2];exact r1,by rw [e2];exact r2,HB.out⟩)
      clear j1 j2 r1 r2 HS HWF O1 O2 HBAD
      generalize L.length=ln at *
      go_wp2
      go_ret3
      exact HF.out
theorem rscan_any (A:Option Addr) (cap n:Nat) (code:List Int) (hn:code.length=n) (w:World) (r:RowAt w A cap code):Calls Tryz.prog 72 #[.slice A n cap] w (ReadP w code):=by
  cases h:sizeB n
  · exact rscan_size A cap n code hn (by have:=r.1;have:=r.2.1;omega) h w
  · obtain ⟨h1,h2,h3⟩:=(sizeB_iff _).1 h
    exact rscan_main A cap n code hn h1 h2 h3 w r
end Go.Proofs.YteefmjhemhlapaaGreat.Mm
