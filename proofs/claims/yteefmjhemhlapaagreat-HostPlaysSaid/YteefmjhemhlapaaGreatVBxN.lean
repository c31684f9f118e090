/- The program's own New, Clear. -/
import Derived.Test.YteefmjhemhlapaaGreatVBxT
import Derived.Test.YteefmjhemhlapaaGreatVVeC
import Derived.Test.YteefmjhemhlapaaGreatVSlR
import Derived.Test.YteefmjhemhlapaaGreatVBxA
namespace Go.Proofs.YteefmjhemhlapaaGreat.Mm
open Go.ChangeShapes Go.WideShapes Go.ChangeAt Go.RowKit
set_option linter.unusedVariables false
set_option linter.unusedSimpArgs false

def kC (l:List Int):List Value:=l.map (Value.int .u32)
theorem u32_info:(Tryz.prog.info? 74).map (fun i=>(i.zero,i.size,i.bytes))=some (some (.int .u32 0),1,4):=by kernel_rfl
theorem krow_of_own {w:World} {base n:Nat} {v:Value} {L:List Int} (h:w.ownsRow base 74 1 v n (kC L)) (hw:∀ x∈L,(Lit.int .u32 x).wf=true):∃ A cap,v=.slice A n cap∧n=L.length∧KRow .u32 w A cap L:=by
  have hl:L.length=n:=by have:=h.1;unfold kC at this;rw [List.length_map] at this;omega
  rcases h.2 with ⟨rfl,rfl⟩ | ⟨g,cap,cur,rfl,_,hh,hc,hm,_⟩
  · have:L=[]:=List.eq_nil_of_length_eq_zero hl
    subst this
    exact ⟨none,0,rfl,rfl,kRow_nil _ w⟩
  · refine ⟨_,cap,rfl,hl.symm,by omega,hm,hw,fun hne=>⟨_,rfl,(h.lt g rfl).2,fun i hi=>?_⟩⟩
    have:=h.cells (g:=g) rfl i (.int .u32 (L.getD i 0)) (by unfold kC;rw [List.getElem?_map,List.getD_eq_getElem?_getD,List.getElem?_eq_getElem hi];rfl)
    exact this
theorem krow_cells {w:World} {b:Addr} {cap:Nat} {L:List Int} (R:KRow .u32 w (some b) cap L):∀ j u,(kC L)[j]?=some u→w.cell? (b.add j)=some u:=by
  intro j u hj
  unfold kC at hj
  rw [List.getElem?_map] at hj
  have hlt:j < L.length:=by
    rcases Nat.lt_or_ge j L.length with h | h
    · exact h
    · rw [List.getElem?_eq_none h] at hj;cases hj
  obtain ⟨p,hp,hc,_⟩:=R.at hlt
  cases hp
  rw [List.getElem?_eq_getElem hlt] at hj
  rw [hc,List.getD_eq_getElem?_getD,List.getElem?_eq_getElem hlt]
  exact hj
theorem kC_one (L:List Int):∀ u∈kC L,u.oneCell'=true:=fun u hu=>by
  unfold kC at hu
  obtain ⟨y,_,rfl⟩:=List.mem_map.1 hu
  rfl
theorem app_k {w:World} {ops:Array Oper} {rest:List Oper} {o:Oper} {a:Act} {Q:Exit→Act→World→Prop} (hgd:o.guard=none) (s x:Operand)
    (ho:o.op=.call { callee:=.builtin .append,args:=#[s,x],argTypes:=#[36,36] })
    (base:Nat) (v:Value) (hs:a.eval s=v) (hown:w.ownsRow base 74 1 v 0 (kC [])) (b:Addr) (cap n:Nat) (L:List Int) (hl:L.length=n) (hx:a.eval x=.slice (some b) n cap) (R:KRow .u32 w (some b) cap L) (hlen:n≤100000) (hbase:base≤w.heap.size)
    (h:∀ A' cap' w',KRow .u32 w' A' cap' L→Below base w w'→(∀ y,A'=some y→base≤y.block)→wpList Tryz.prog ops Q rest (a.put o.dst (.slice A' n cap')) w'):wpList Tryz.prog ops Q (o :: rest) a w:=by
  obtain ⟨u0,hu0,hz0,hz1,hz2⟩:=info_parts u32_info
  refine wpList_append_own w hgd s x 36 ho base 74 u0 _ 1 4 Tryz.underlying36 hu0 hz0 hz1 hz2 rfl (by decide) v 0 (kC []) hs hown b n cap (kC L) hx (by unfold kC;rw [List.length_map,hl];omega)
    (krow_cells R) (kC_one L) (by unfold maxLen;omega) (by omega) hbase ?_
  intro v' w' hown' hg _
  have hown':w'.ownsRow base 74 1 v' n (kC L):=by have:=hown';simpa [kC] using this
  obtain ⟨A',cap',rfl,_,hrow⟩:=krow_of_own hown' R.2.2.1
  exact h A' cap' w' hrow (Below.ofGrown hg hbase (fun k hk=>(hown.lt k hk).1)) (fun y hy=>by subst hy;exact (hown'.lt y.block rfl).1)
set_option maxRecDepth 10000 in
set_option maxHeartbeats 4000000 in
theorem clone_code (A:Option Addr) (cap n:Nat) (L:List Int) (hl:L.length=n) (hn:n≤100000) (w:World) (R:KRow .u32 w A cap L) :
    Calls Tryz.prog 55 #[.slice A n cap] w fun e w'=>∃ A' cap',e=.returned (.slice A' n cap')∧KRow .u32 w' A' cap' L∧Below w.heap.size w w'∧(∀ y,A'=some y→w.heap.size≤y.block):=by
  cases A with
  | none=>
    have hn0:L=[]:=by
      by_cases h:L=[]
      · exact h
      · obtain ⟨p,hp,_⟩:=R.2.2.2 h
        cases hp
    subst hn0
    simp at hl
    subst hl
    clear R
    have he:∀ w:World,(binOp .eql 36 (.slice none 0 cap) (.slice none 0 0)).run Tryz.prog w=.ok (.bool true) w:=fun _=>rfl
    go_enter Tryz.func55,Tryz.ntmps55
    go_wp2_with fail
    go_ret
    exact ⟨none,0,rfl,kRow_nil _ _,Below.refl _ _,fun y hy=>by cases hy⟩
  | some b=>
    have NEW:=Lib.hid (World.ownsRow_lit (size:=1) (base:=w.heap.size) (e:=74) w #[] 0 (by simp) (by unfold maxLen;omega) rfl:(w.alloc (.cells #[] 74)).ownsRow w.heap.size 74 1 (.slice (some ⟨w.heap.size,0,none⟩) 0 0) 0 _)
    have BA:=Lib.hid (bel_al (Below.refl w.heap.size w) (.cells #[] 74))
    have R1:=Lib.hid (R.below BA.out)
    have HL:=Lib.hid hl
    have HN:=Lib.hid hn
    clear R hl hn
    have he:∀ w:World,(binOp .eql 36 (.slice (some b) n cap) (.slice none 0 0)).run Tryz.prog w=.ok (.bool false) w:=fun _=>rfl
    go_enter Tryz.func55,Tryz.ntmps55
    go_wp2_with (first
      | (refine app_k rfl (.tmp 5) (.tmp 6) rfl w.heap.size _ (by rfl) NEW.out b cap n L HL.out (by rfl) R1.out HN.out BA.out.size ?_;intro A' c' w' K' B' N';have KK:=Lib.hid K';have BB:=Lib.hid (BA.out.trans B');have NN:=Lib.hid N';clear K' B' N'))
    go_ret
    exact ⟨A',c',rfl,KK.out,BB.out,NN.out⟩
theorem powBS (s:Int):powB s=powS s:=rfl
theorem lie_cases (code data:List Int) (r:Rg) (n:Int) :
    (verE code≠0∧newE code data r n=verE code)∨(verE code=0∧fitsB code.length r.2=false∧newE code data r n=4)∨(verE code=0∧fitsB code.length r.2=true∧r.2 / 2 < data.length∧newE code data r n=4) ∨
    (verE code=0∧fitsB code.length r.2=true∧(data.length:Int)≤r.2 / 2∧rgtB [r] n=false∧newE code data r n=1)∨(verE code=0∧fitsB code.length r.2=true∧(data.length:Int)≤r.2 / 2∧rgtB [r] n=true∧newE code data r n=0):=by
  have hf:fitsB code.length r.2=(powS r.2 && decide ((code.length:Int)≤r.2 / 2 - 32)):=by
    unfold fitsB
    rw [powBS]
    congr 1
    by_cases h:(code.length:Int)≤r.2 / 2 - 32
    · rw [decide_eq_true h,decide_eq_true ⟨by omega,h⟩]
    · rw [decide_eq_false h,decide_eq_false (by omega)]
  unfold newE
  rw [← hf]
  by_cases h1:verE code=0
  · rw [if_neg (by simp [h1])]
    cases hF:fitsB code.length r.2
    · exact .inr (.inl ⟨h1,rfl,by simp⟩)
    · by_cases h3:(data.length:Int)≤r.2 / 2
      · rw [decide_eq_true h3,if_neg (by simp)]
        cases hR:rgtB [r] n
        · exact .inr (.inr (.inr (.inl ⟨h1,rfl,h3,rfl,by simp⟩)))
        · exact .inr (.inr (.inr (.inr ⟨h1,rfl,h3,rfl,by simp⟩)))
      · rw [decide_eq_false h3,if_pos (by simp)]
        exact .inr (.inr (.inl ⟨h1,rfl,by omega,rfl⟩))
  · rw [if_pos h1]
    exact .inl ⟨h1,rfl⟩
theorem fits_pow {n s:Int} (h:fitsB n s=true):128≤s∧s≤16384:=by
  unfold fitsB at h
  rw [Bool.and_eq_true,powBS] at h
  exact powS_pos h.1
theorem rg_new (w:World) (r:Rg) (hr:RgI r):RgRow (w.alloc (.cells #[.int .i64 r.1,.int .i64 r.2] 52)) (some ⟨w.heap.size,0,none⟩) 1 [r]:=by
  have H:HasB (w.alloc (.cells #[.int .i64 r.1,.int .i64 r.2] 52)) w.heap.size 52 [.int .i64 r.1,.int .i64 r.2]:=HasB.new w 52 [.int .i64 r.1,.int .i64 r.2]
  refine ⟨Nat.le_refl _,by unfold maxLen;decide,fun x hx=>by rw [List.mem_singleton.1 hx];exact hr,fun _=>⟨_,rfl,H.lt,fun i hi=>?_⟩⟩
  obtain rfl:i=0:=by simp at hi;omega
  have e0:(⟨w.heap.size,0,none⟩:Addr).add (0 * 2)=⟨w.heap.size,0,none⟩:=by simp [Addr.add]
  rw [e0]
  exact ⟨H.cell 0,H.cell 1⟩
set_option maxRecDepth 10000 in
set_option maxHeartbeats 4000000 in
theorem lie_code (p g h:Nat) (B:List Int) (T:List Bool) (r:Rg) (A:Option Addr) (cc cl:Nat) (code:List Int) (D:Option Addr) (dc dl:Nat) (data:List Int) (w:World) (hr:RgI r) (hc:code.length=cl) (hcl:cl≤5000) (hd:data.length=dl) (hdl:dl≤5000)
    (m:MemAt w p g h B T) (RA:RowAt w A cc code) (RD:RowAt w D dc data) :
    Calls Tryz.prog 52 #[.pointer (some ⟨p,0,none⟩),.agg #[.int .i64 r.1,.int .i64 r.2],.agg #[.slice A cl cc,.slice D dl dc]] w fun e w'=>e=.returned (.int .i64 (newE code data r (64 * T.length)))∧Below w.heap.size w w':=by
  have HC:=Lib.hid (lie_cases code data r (64 * T.length))
  obtain ⟨W0,e0,X,Y,B0⟩:∃ W0,(w.alloc (.cells #[.int .i64 r.1,.int .i64 r.2] 52)).alloc (.cells #[.slice A cl cc,.slice D dl dc] 57)=W0∧HasB W0 w.heap.size 52 [.int .i64 r.1,.int .i64 r.2]∧HasB W0 (w.heap.size+1) 57 [.slice A cl cc,.slice D dl dc]∧Below w.heap.size w W0:=
    ⟨_,rfl,(HasB.new w 52 [.int .i64 r.1,.int .i64 r.2]).al _,(by have:=HasB.new (w.alloc (.cells #[.int .i64 r.1,.int .i64 r.2] 52)) 57 [.slice A cl cc,.slice D dl dc];simpa using this),bel_al (bel_al (Below.refl _ _) _) _⟩
  have CC:=Lib.hid (codeC A cc cl code hc W0 (RA.below B0))
  have FC:=Lib.hid (fun w'=>fitsC cl r.2 (by omega) hr.2 w')
  have SZ0:=fun w' (hb:Below W0.heap.size W0 w')=>size_any ((m.below B0).below hb)
  rw [m.len] at SZ0
  have SZ:=Lib.hid SZ0
  have RC:=Lib.hid (fun w'=>right_one r ((64 * T.length:Nat):Int) (by have:=m.top;omega) (some ⟨w'.heap.size,0,none⟩) 1 _ (rg_new w' r hr))
  have HR:=Lib.hid hr
  have HT:=Lib.hid m.top
  clear SZ0 RA RD m hr
  rw [hc,hd] at HC
  have X0:=X.cell 0
  have X1:=X.cell 1
  have Y0:=Y.cell 0
  have Y1:=Y.cell 1
  simp only [List.getElem?_cons_succ,List.getElem?_cons_zero] at X0 X1 Y0 Y1
  replace X:=Lib.hid X
  replace Y:=Lib.hid Y
  replace B0:=Lib.hid B0
  obtain ⟨ra,rb⟩:=r
  simp only at HC FC HR X0 X1 RC
  have hcast:((64 * T.length:Nat):Int)=64 * (T.length:Int):=by omega
  rw [hcast] at RC SZ
  generalize newE code data (ra,rb) (64 * (T.length:Int))=E at *
  generalize verE code=ve at *
  go_enter Tryz.func52,Tryz.ntmps52
  go_wp2_with fail
  refine CC.out.mono ?_;rintro e w1 ⟨rfl,hb1⟩
  have B1:=Lib.hid hb1
  have x1:=X.out.below hb1
  have y1:=Y.out.below hb1
  have X0:=x1.cell 0
  have X1:=x1.cell 1
  have Y0:=y1.cell 0
  have Y1:=y1.cell 1
  simp only [List.getElem?_cons_succ,List.getElem?_cons_zero] at X0 X1 Y0 Y1
  have x1h:=Lib.hid x1
  have y1h:=Lib.hid y1
  clear x1 y1 hb1 CC X Y
  have BW1:=Lib.hid (bel_then B0.out B1.out)
  rcases HC.out with ⟨hv,hE⟩ | hE
  · have q:(ve != 0)=true:=by simpa using hv
    subst hE
    clear HC
    go_wp2_with fail
    go_ret
    exact ⟨rfl,BW1.out⟩
  · have hv:ve=0:=by rcases hE with h | h | h | h <;> exact h.1
    subst hv
    clear HC
    obtain ⟨fb,hfb⟩:∃ fb,fitsB cl rb=fb:=⟨_,rfl⟩
    rw [hfb] at FC hE
    go_wp2_with fail
    refine (FC.out _).mono ?_;rintro e w2 ⟨rfl,hb2⟩
    have B2:=Lib.hid (bel_then B1.out hb2)
    have x2:=x1h.out.below hb2
    have y2:=y1h.out.below hb2
    have X0:=x2.cell 0
    have X1:=x2.cell 1
    have Y0:=y2.cell 0
    have Y1:=y2.cell 1
    simp only [List.getElem?_cons_succ,List.getElem?_cons_zero] at X0 X1 Y0 Y1
    have x2h:=Lib.hid x2
    clear x2 y2 hb2 x1h y1h
    have BW2:=Lib.hid (bel_then B0.out B2.out)
    cases fb with
    | false=>
      obtain rfl:E=4:=by rcases hE with h | h | h | h;exact h.2.2;exact absurd h.2.1 (by decide);exact absurd h.2.1 (by decide);exact absurd h.2.1 (by decide)
      clear hE
      go_wp2_with fail
      go_ret
      exact ⟨rfl,BW2.out⟩
    | true=>
      have hp:=fits_pow hfb
      have hd2:rb.tdiv 2=rb / 2:=Int.tdiv_eq_ediv_of_nonneg (by omega)
      have hw1:IntKind.i64.wrap (rb / 2)=rb / 2:=IntWalk.i64_in _ (by omega)
      have hw2:IntKind.i64.wrap (rb.tdiv 2)=rb / 2:=by rw [hd2];exact hw1
      by_cases hlt:rb / 2 < (dl:Int)
      · obtain rfl:E=4:=by rcases hE with h | h | h | h;exact h.2.2;exact h.2.2.2;exact absurd hlt (by have:=h.2.2.1;omega);exact absurd hlt (by have:=h.2.2.1;omega)
        have q:decide (rb / 2 < (dl:Int))=true:=decide_eq_true hlt
        clear hE hlt
        generalize rb / 2=d at *
        go_wp2_with fail
        go_ret
        exact ⟨rfl,BW2.out⟩
      · have q:decide (rb / 2 < (dl:Int))=false:=decide_eq_false hlt
        have hE2:(rgtB [(ra,rb)] (64 * (T.length:Int))=false∧E=1)∨(rgtB [(ra,rb)] (64 * (T.length:Int))=true∧E=0):=by
          rcases hE with h | h | h | h
          · exact absurd h.2.1 (by decide)
          · exact absurd h.2.2.1 hlt
          · exact .inl ⟨h.2.2.2.1,h.2.2.2.2⟩
          · exact .inr ⟨h.2.2.2.1,h.2.2.2.2⟩
        clear hE hlt hfb FC
        obtain ⟨d,hdd⟩:∃ d,rb / 2=d:=⟨_,rfl⟩
        rw [hdd] at q hd2 hw1 hw2
        clear hdd hp
        have BD:=Lib.hid (Below.refl w2.heap.size w2)
        have KS:=Lib.hid (fun (w':World) (b:Below w2.heap.size w2 w')=>(show w'.cell? ⟨w.heap.size,0,none⟩=some (.int .i64 ra)∧w'.cell? ⟨w.heap.size,1,none⟩=some (.int .i64 rb) from ⟨(x2h.out.below b).cell 0,(x2h.out.below b).cell 1⟩))
        have SZ2:=Lib.hid (fun w' (hb:Below w2.heap.size w2 w')=>SZ.out w' (bel_then B2.out hb))
        have RC2:=Lib.hid (RC.out w2.drew)
        rcases hE2 with ⟨hR,hE2⟩ | ⟨hR,hE2⟩
        all_goals as_aux_lemma=>
          subst hE2
          rw [hR] at RC2
          clear RC SZ hR
          go_wp2_with fail
          refine wp_region_noPanic ?_
          refine wp_region_held_drew (S:=(fun w'=>w'.cell? ⟨w.heap.size,0,none⟩=some (.int .i64 ra)∧w'.cell? ⟨w.heap.size,1,none⟩=some (.int .i64 rb))) (by kernel_rfl) ?_ (fun hHeld=>?_)
          · (try dsimp only)
            exact KS.out _ BD.out.drew
          refine wT 0 ?_
          refine wT 2 ?_
          refine wpAnyH_ready (rs:=[1,3]) (by kernel_rfl) (by simp) ?_
          refine rC (fun K hK=>?_) ?_
          · go_simp
            refine hK.out _ _ ?_ (fun hHeld=>?_)
            · (try dsimp only)
              exact KS.out _ (bel_al BD.out _).drew
            clear hK K
            (try simp only [Act.put,lsA,lsZ,lsS])
            refine wpAnyH_ready (rs:=[3]) (by kernel_rfl) (by simp) ?_
            refine rC (fun K hK=>?_) ?_
            · go_simp
              refine (SZ2.out _ ((bel_al BD.out _).drew)).mono ?_
              rintro e w6 ⟨rfl,rfl⟩
              refine hK.out _ _ ?_ (fun hHeld=>?_)
              · (try dsimp only)
                exact KS.out _ (bel_al BD.out _).drew
              clear hK K
              (try simp only [Act.put,lsA,lsZ,lsS])
              refine wpAnyH_ready (rs:=[4]) (by kernel_rfl) (by simp) ?_
              refine rC (fun K hK=>?_) ?_
              · go_simp
                refine RC2.out.mono ?_
                rintro e w7 ⟨rfl,hb7⟩
                refine hK.out _ _ ?_ (fun hHeld=>?_)
                · (try dsimp only)
                  exact KS.out _ (bel_then (bel_al BD.out _).drew hb7)
                clear hK K
                (try simp only [Act.put,lsA,lsZ,lsS])
                refine wT 5 ?_
                refine wpAnyH_done (by kernel_rfl) ?_ _
                refine NoPanic.normal ?_
                go_wp2_with fail
                go_ret
                exact ⟨rfl,bel_then BW2.out (bel_then (bel_al BD.out _).drew hb7)⟩
              exact AllReadyH.nil
            exact AllReadyH.nil
          refine rC (fun K hK=>?_) ?_
          · go_simp
            refine (SZ2.out _ (BD.out.drew)).mono ?_
            rintro e w6 ⟨rfl,rfl⟩
            refine hK.out _ _ ?_ (fun hHeld=>?_)
            · (try dsimp only)
              exact KS.out _ BD.out.drew
            clear hK K
            (try simp only [Act.put,lsA,lsZ,lsS])
            refine wpAnyH_ready (rs:=[1]) (by kernel_rfl) (by simp) ?_
            refine rC (fun K hK=>?_) ?_
            · go_simp
              refine hK.out _ _ ?_ (fun hHeld=>?_)
              · (try dsimp only)
                exact KS.out _ (bel_al BD.out _).drew
              clear hK K
              (try simp only [Act.put,lsA,lsZ,lsS])
              refine wpAnyH_ready (rs:=[4]) (by kernel_rfl) (by simp) ?_
              refine rC (fun K hK=>?_) ?_
              · go_simp
                refine RC2.out.mono ?_
                rintro e w7 ⟨rfl,hb7⟩
                refine hK.out _ _ ?_ (fun hHeld=>?_)
                · (try dsimp only)
                  exact KS.out _ (bel_then (bel_al BD.out _).drew hb7)
                clear hK K
                (try simp only [Act.put,lsA,lsZ,lsS])
                refine wT 5 ?_
                refine wpAnyH_done (by kernel_rfl) ?_ _
                refine NoPanic.normal ?_
                go_wp2_with fail
                go_ret
                exact ⟨rfl,bel_then BW2.out (bel_then (bel_al BD.out _).drew hb7)⟩
              exact AllReadyH.nil
            exact AllReadyH.nil
          exact AllReadyH.nil
def ClearC:Prop:=∀ (r:Rg) (p g h:Nat) (B:List Int) (T:List Bool) (w:World),regB (64 * T.length) r=true→MemAt w p g h B T →
  Calls Tryz.prog 32 #[.pointer (some ⟨p,0,none⟩),.agg #[.int .i64 r.1,.int .i64 r.2]] w fun e w'=>e=.returned (.int .i64 0) ∧
    MemAt w' p g h (splice B r.1.toNat (List.replicate r.2.toNat 0)) (splice T (r.1 / 64).toNat (List.replicate (r.2 / 64).toNat false))∧Chg g h w w'
theorem RowAt.chgG {g h:Nat} {w w':World} {A:Option Addr} {cap:Nat} {l:List Int} (r:RowAt w A cap l) (c:Chg g h w w') (h1:l=[]∨Off A g) (h2:l=[]∨Off A h):RowAt w' A cap l:=by
  obtain ⟨r1,r2,r3,r4⟩:=r
  refine ⟨r1,r2,r3,fun hn=>?_⟩
  obtain ⟨p,hp,hb,hc⟩:=r4 hn
  exact ⟨p,hp,Nat.lt_of_lt_of_le hb c.size,fun i hi=>(cell_chg c (by rw [block_add];exact hb) (by rw [block_add];exact (h1.resolve_left hn) p hp) (by rw [block_add];exact (h2.resolve_left hn) p hp)).trans (hc i hi)⟩
theorem row_off {w:World} {A:Option Addr} {cap:Nat} {l:List Int} (r:RowAt w A cap l) {g:Nat} {t:TypeId} {cs:List Value} (hb:HasB w g t cs) (hcs:∀ n:Int,Value.int .u8 n ∉ cs):l=[]∨Off A g:=by
  by_cases hl:l=[]
  · exact .inl hl
  · refine .inr fun x hx=>?_
    obtain ⟨p,hp,_,hc⟩:=r.2.2.2 hl
    rw [hx] at hp
    injection hp with hp
    subst hp
    have h0:=hc 0 (List.length_pos_iff.2 hl)
    have:=cell_apartB hb h0 (hcs _)
    rwa [block_add] at this
theorem bl_nou8 (L:List Bool) (n:Int):Value.int .u8 n ∉ L.map Value.bool:=by
  intro h
  obtain ⟨x,_,e⟩:=List.mem_map.1 h
  cases e
theorem chg2Below {g h:Nat} {w W W':World} (c:Chg g h w W) (b:Below W.heap.size W W'):Chg g h w W':=
  ⟨b.os.trans c.os,b.tape.trans c.tape,b.output.trans c.output,Nat.le_trans c.size b.size,fun k hk h1 h2=>(b.block k (Nat.lt_of_lt_of_le hk c.size)).trans (c.block k hk h1 h2)⟩
theorem chg2New {g h j:Nat} {w W W':World} (c:Chg g h w W) (d:Chg j j W W') (hj:w.heap.size≤j):Chg g h w W':=
  ⟨d.os.trans c.os,d.tape.trans c.tape,d.output.trans c.output,Nat.le_trans c.size d.size,fun k hk h1 h2=>(d.block k (Nat.lt_of_lt_of_le hk c.size) (by omega) (by omega)).trans (c.block k hk h1 h2)⟩
theorem chg2Trans {g h:Nat} {w W W':World} (c:Chg g h w W) (d:Chg g h W W'):Chg g h w W':=
  ⟨d.os.trans c.os,d.tape.trans c.tape,d.output.trans c.output,Nat.le_trans c.size d.size,fun k hk h1 h2=>(d.block k (Nat.lt_of_lt_of_le hk c.size) h1 h2).trans (c.block k hk h1 h2)⟩
theorem KRow.chg2 {k:IntKind} {g h:Nat} {w w':World} {A:Option Addr} {cap:Nat} {l:List Int} (r:KRow k w A cap l) (c:Chg g h w w') (h1:l=[]∨Off A g) (h2:l=[]∨Off A h):KRow k w' A cap l:=
  r.chg' c (by rcases h1 with h | h1;exact .inl h;rcases h2 with h | h2;exact .inl h;exact .inr ⟨h1,h2⟩)
structure NwS (w:World) (p g h:Nat) (r:Rg) (A:Option Addr) (cl cc:Nat) (D:Option Addr) (dl dc:Nat) (B:List Int) (T:List Bool) (W:World):Prop where
  x:HasB W w.heap.size 52 [.int .i64 r.1,.int .i64 r.2]
  y:HasB W (w.heap.size+1) 57 [.slice A cl cc,.slice D dl dc]
  z:HasB W (w.heap.size+2) 82 [.int .u32 0,.int .u32 0,.int .u32 0,.int .u32 0,.int .u32 0,.int .u32 0,.int .u32 0,.int .u32 0,.int .u32 0,.int .u32 0,.int .u32 0,.slice none 0 0,.int .i64 0,.slice none 0 0,.bool false,.int .u32 0,.int .i64 0,.int .i64 0]
  m:MemAt W p g h B T
  c:Chg g h w W
  l:p < w.heap.size∧g < w.heap.size∧h < w.heap.size
theorem NwS.below {w W W':World} {p g h:Nat} {r:Rg} {A D:Option Addr} {cl cc dl dc:Nat} {B:List Int} {T:List Bool} (k:NwS w p g h r A cl cc D dl dc B T W) (b:Below W.heap.size W W'):NwS w p g h r A cl cc D dl dc B T W':=
  ⟨k.x.below b,k.y.below b,k.z.below b,k.m.below b,chg2Below k.c b,k.l⟩
theorem NwS.mem {w W W':World} {p g h:Nat} {r:Rg} {A D:Option Addr} {cl cc dl dc:Nat} {B B':List Int} {T T':List Bool} (k:NwS w p g h r A cl cc D dl dc B T W) (m:MemAt W' p g h B' T') (c:Chg g h W W'):NwS w p g h r A cl cc D dl dc B' T' W':=
  ⟨k.x.chg c (by have:=k.l;omega) (by have:=k.l;omega),k.y.chg c (by have:=k.l;omega) (by have:=k.l;omega),k.z.chg c (by have:=k.l;omega) (by have:=k.l;omega),m,chg2Trans k.c c,k.l⟩
theorem NwS.out {w W W':World} {p g h:Nat} {r:Rg} {A D:Option Addr} {cl cc dl dc:Nat} {B:List Int} {T:List Bool} (k:NwS w p g h r A cl cc D dl dc B T W) (c:Chg (w.heap.size+2) (w.heap.size+2) W W'):MemAt W' p g h B T∧Chg g h w W':=
  ⟨k.m.chg c (by have:=k.l;omega) (by have:=k.l;omega) (by have:=k.l;omega) (by have:=k.l;omega) (by have:=k.l;omega) (by have:=k.l;omega),chg2New k.c c (by omega)⟩
theorem whole_reg (T:List Bool) (b s:Nat) (hb:b % 64=0) (hs:s % 64=0) (hl:b+s≤64 * T.length) (a n:Nat) (h1:b≤a) (h2:a+n≤b+s):wholeB (splice T (b / 64) (List.replicate (s / 64) true)) a n=true:=by
  have hsl:(splice T (b / 64) (List.replicate (s / 64) true)).length=T.length:=splice_len _ _ _ (by rw [List.length_replicate];omega)
  unfold wholeB
  rw [Bool.and_eq_true,liesB_iff,thr_iff,hsl]
  refine ⟨by omega,fun i hi=>?_⟩
  have hi':i < n:=by simpa using hi
  rw [show ((a:Int)).toNat=a from rfl,splice_getD _ _ _ _ (by rw [List.length_replicate];omega),List.length_replicate,if_pos (by omega),List.getD_eq_getElem?_getD,List.getElem?_replicate,if_pos (by omega)]
  rfl
theorem pow_64 {s:Int} (h:powS s=true):s % 64=0∧(∀ b:Int,b % s=0→b % 64=0)∧s % 2=0:=by
  unfold powS at h
  simp only [Bool.or_eq_true,beq_iff_eq] at h
  rcases h with ((((((rfl | rfl) | rfl) | rfl) | rfl) | rfl) | rfl) | rfl
  all_goals exact ⟨by decide,fun b hb=>by omega,by decide⟩
set_option maxRecDepth 10000 in
set_option maxHeartbeats 4000000 in
theorem new_err (E:Int) (hE:E≠0) (p g h:Nat) (B:List Int) (T:List Bool) (r:Rg) (A:Option Addr) (cc cl:Nat) (D:Option Addr) (dc dl:Nat) (RA:Option Addr) (rc rl:Nat) (w:World) (m:MemAt w p g h B T)
    (LC:∀ w',Below w.heap.size w w'→Calls Tryz.prog 52 #[.pointer (some ⟨p,0,none⟩),.agg #[.int .i64 r.1,.int .i64 r.2],.agg #[.slice A cl cc,.slice D dl dc]] w' fun e w''=>e=.returned (.int .i64 E)∧Below w'.heap.size w' w'') :
    Calls Tryz.prog 25 #[.pointer (some ⟨p,0,none⟩),.agg #[.int .i64 r.1,.int .i64 r.2],.agg #[.slice A cl cc,.slice D dl dc],.slice RA rl rc] w fun e w'=>e=.returned (.tuple #[.agg #[.int .u32 0,.int .u32 0,.int .u32 0,.int .u32 0,.int .u32 0,.int .u32 0,.int .u32 0,.int .u32 0,.int .u32 0,.int .u32 0,.int .u32 0,.slice none 0 0,.int .i64 0,.slice none 0 0,.bool false,.int .u32 0,.int .i64 0,.int .i64 0],.int .i64 E])∧MemAt w' p g h B T∧Chg g h w w':=by
  obtain ⟨W0,e0,k0,B0⟩:∃ W0,((w.alloc (.cells #[.int .i64 r.1,.int .i64 r.2] 52)).alloc (.cells #[.slice A cl cc,.slice D dl dc] 57)).alloc (.cells #[.int .u32 0,.int .u32 0,.int .u32 0,.int .u32 0,.int .u32 0,.int .u32 0,.int .u32 0,.int .u32 0,.int .u32 0,.int .u32 0,.int .u32 0,.slice none 0 0,.int .i64 0,.slice none 0 0,.bool false,.int .u32 0,.int .i64 0,.int .i64 0] 82)=W0∧NwS w p g h r A cl cc D dl dc B T W0∧Below w.heap.size w W0:=by
    have bb:Below w.heap.size w (((w.alloc (.cells #[.int .i64 r.1,.int .i64 r.2] 52)).alloc (.cells #[.slice A cl cc,.slice D dl dc] 57)).alloc (.cells #[.int .u32 0,.int .u32 0,.int .u32 0,.int .u32 0,.int .u32 0,.int .u32 0,.int .u32 0,.int .u32 0,.int .u32 0,.int .u32 0,.int .u32 0,.slice none 0 0,.int .i64 0,.slice none 0 0,.bool false,.int .u32 0,.int .i64 0,.int .i64 0] 82)):=bel_al (bel_al (bel_al (Below.refl _ _) _) _) _
    refine ⟨_,rfl,⟨((HasB.new w 52 [.int .i64 r.1,.int .i64 r.2]).al _).al _,?_,?_,m.below bb,Chg.of bb,⟨m.own.lt,m.bytes.lt,m.zones.lt⟩⟩,bb⟩
    · have:=(HasB.new (w.alloc (.cells #[.int .i64 r.1,.int .i64 r.2] 52)) 57 [.slice A cl cc,.slice D dl dc]).al (.cells #[.int .u32 0,.int .u32 0,.int .u32 0,.int .u32 0,.int .u32 0,.int .u32 0,.int .u32 0,.int .u32 0,.int .u32 0,.int .u32 0,.int .u32 0,.slice none 0 0,.int .i64 0,.slice none 0 0,.bool false,.int .u32 0,.int .i64 0,.int .i64 0] 82);simpa using this
    · have:=HasB.new ((w.alloc (.cells #[.int .i64 r.1,.int .i64 r.2] 52)).alloc (.cells #[.slice A cl cc,.slice D dl dc] 57)) 82 [.int .u32 0,.int .u32 0,.int .u32 0,.int .u32 0,.int .u32 0,.int .u32 0,.int .u32 0,.int .u32 0,.int .u32 0,.int .u32 0,.int .u32 0,.slice none 0 0,.int .i64 0,.slice none 0 0,.bool false,.int .u32 0,.int .i64 0,.int .i64 0];simpa using this
  have K0:=Lib.hid k0
  have C:=Lib.hid (LC W0 B0)
  have q:(E != 0)=true:=by simpa using hE
  clear LC m k0 B0
  go_enter Tryz.func25,Tryz.ntmps25
  go_wp2_with (first
    | (refine ld_at rfl 52 (.tmp 5) rfl w.heap.size 0 (by rfl) 52 [] [.int .i64 r.1,.int .i64 r.2] [] K0.out.x rfl Tryz.isAgg52 Tryz.sizeOf52 ?_)
    | (refine ld_at rfl 57 (.tmp 6) rfl (w.heap.size+1) 0 (by rfl) 57 [] [.slice A cl cc,.slice D dl dc] [] K0.out.y rfl Tryz.isAgg57 Tryz.sizeOf57 ?_))
  refine C.out.mono ?_;rintro e w1 ⟨rfl,hb1⟩
  have K1:=Lib.hid (K0.out.below hb1)
  clear hb1 C K0
  go_wp2_with (first
    | (refine st_at rfl 82 (.tmp 8) (.tmp 17) rfl rfl (w.heap.size+2) 0 82 [] [.int .u32 0,.int .u32 0,.int .u32 0,.int .u32 0,.int .u32 0,.int .u32 0,.int .u32 0,.int .u32 0,.int .u32 0,.int .u32 0,.int .u32 0,.slice none 0 0,.int .i64 0,.slice none 0 0,.bool false,.int .u32 0,.int .i64 0,.int .i64 0] [.int .u32 0,.int .u32 0,.int .u32 0,.int .u32 0,.int .u32 0,.int .u32 0,.int .u32 0,.int .u32 0,.int .u32 0,.int .u32 0,.int .u32 0,.slice none 0 0,.int .i64 0,.slice none 0 0,.bool false,.int .u32 0,.int .i64 0,.int .i64 0] [] (by rfl) (by rfl) K1.out.z rfl rfl Tryz.sizeOf82 (by simp [Value.oneCell']) ?_;intro W9 r1 c1;replace r1:HasB W9 (w.heap.size+2) 82 [.int .u32 0,.int .u32 0,.int .u32 0,.int .u32 0,.int .u32 0,.int .u32 0,.int .u32 0,.int .u32 0,.int .u32 0,.int .u32 0,.int .u32 0,.slice none 0 0,.int .i64 0,.slice none 0 0,.bool false,.int .u32 0,.int .i64 0,.int .i64 0]:=r1))
  (try simp only [Act.put,lsA,lsZ,lsS])
  have V:=loadvar_has r1 rfl Tryz.underlying82 (by kernel_rfl)
  refine bodyPost_ret (v:=.tuple #[.agg #[.int .u32 0,.int .u32 0,.int .u32 0,.int .u32 0,.int .u32 0,.int .u32 0,.int .u32 0,.int .u32 0,.int .u32 0,.int .u32 0,.int .u32 0,.slice none 0 0,.int .i64 0,.slice none 0 0,.bool false,.int .u32 0,.int .i64 0,.int .i64 0],.int .i64 E]) (by simp [results,Tryz.results25,asaddr_run,V]) rfl ?_
  exact ⟨rfl,(K1.out.out c1).1,(K1.out.out c1).2⟩
set_option maxRecDepth 10000 in
set_option maxHeartbeats 8000000 in
theorem new_ok (p g h:Nat) (B:List Int) (T:List Bool) (b s:Int) (A:Option Addr) (cc cl:Nat) (code:List Int) (D:Option Addr) (dc dl:Nat) (data:List Int) (RA:Option Addr) (rc rl:Nat) (rep:List Int) (w:World) (m:MemAt w p g h B T)
    (hc:code.length=cl) (hd:data.length=dl) (hrl:rep.length=rl) (hrl2:rl≤1000) (rA:RowAt w A cc code) (rD:RowAt w D dc data) (rR:KRow .u32 w RA rc rep) (oA:code=[]∨Off A g) (oD:data=[]∨Off D g)
    (hp:powS s=true) (hb:s≤b∧b % s=0∧b+s+64≤64 * T.length) (h1:(cl:Int)≤s / 2) (h2:(dl:Int)≤s / 2)
    (LC:∀ w',Below w.heap.size w w'→Calls Tryz.prog 52 #[.pointer (some ⟨p,0,none⟩),.agg #[.int .i64 b,.int .i64 s],.agg #[.slice A cl cc,.slice D dl dc]] w' fun e w''=>e=.returned (.int .i64 0)∧Below w'.heap.size w' w'') :
    Calls Tryz.prog 25 #[.pointer (some ⟨p,0,none⟩),.agg #[.int .i64 b,.int .i64 s],.agg #[.slice A cl cc,.slice D dl dc],.slice RA rl rc] w fun e w'=>
      ∃ R9 c9,e=.returned (.tuple #[.agg #[.int .u32 b,.int .u32 0,.int .u32 0,.int .u32 0,.int .u32 0,.int .u32 0,.int .u32 0,.int .u32 0,.int .u32 0,.int .u32 b,.int .u32 s,.slice R9 rl c9,.int .i64 0,.slice none 0 0,.bool false,.int .u32 0,.int .i64 0,.int .i64 0],.int .i64 0])∧KRow .u32 w' R9 c9 rep∧MemAt w' p g h (newB B (b,s) code data) (newT T (b,s))∧Chg g h w w'∧(∀ y,R9=some y→w.heap.size≤y.block):=by
  obtain ⟨W0,e0,k0,B0⟩:∃ W0,((w.alloc (.cells #[.int .i64 b,.int .i64 s] 52)).alloc (.cells #[.slice A cl cc,.slice D dl dc] 57)).alloc (.cells #[.int .u32 0,.int .u32 0,.int .u32 0,.int .u32 0,.int .u32 0,.int .u32 0,.int .u32 0,.int .u32 0,.int .u32 0,.int .u32 0,.int .u32 0,.slice none 0 0,.int .i64 0,.slice none 0 0,.bool false,.int .u32 0,.int .i64 0,.int .i64 0] 82)=W0∧NwS w p g h (b,s) A cl cc D dl dc B T W0∧Below w.heap.size w W0:=by
    have bb:Below w.heap.size w (((w.alloc (.cells #[.int .i64 b,.int .i64 s] 52)).alloc (.cells #[.slice A cl cc,.slice D dl dc] 57)).alloc (.cells #[.int .u32 0,.int .u32 0,.int .u32 0,.int .u32 0,.int .u32 0,.int .u32 0,.int .u32 0,.int .u32 0,.int .u32 0,.int .u32 0,.int .u32 0,.slice none 0 0,.int .i64 0,.slice none 0 0,.bool false,.int .u32 0,.int .i64 0,.int .i64 0] 82)):=bel_al (bel_al (bel_al (Below.refl _ _) _) _) _
    refine ⟨_,rfl,⟨((HasB.new w 52 _).al _).al _,?_,?_,m.below bb,Chg.of bb,⟨m.own.lt,m.bytes.lt,m.zones.lt⟩⟩,bb⟩
    · have:=(HasB.new (w.alloc (.cells #[.int .i64 b,.int .i64 s] 52)) 57 [.slice A cl cc,.slice D dl dc]).al (.cells #[.int .u32 0,.int .u32 0,.int .u32 0,.int .u32 0,.int .u32 0,.int .u32 0,.int .u32 0,.int .u32 0,.int .u32 0,.int .u32 0,.int .u32 0,.slice none 0 0,.int .i64 0,.slice none 0 0,.bool false,.int .u32 0,.int .i64 0,.int .i64 0] 82);simpa using this
    · have:=HasB.new ((w.alloc (.cells #[.int .i64 b,.int .i64 s] 52)).alloc (.cells #[.slice A cl cc,.slice D dl dc] 57)) 82 [.int .u32 0,.int .u32 0,.int .u32 0,.int .u32 0,.int .u32 0,.int .u32 0,.int .u32 0,.int .u32 0,.int .u32 0,.int .u32 0,.int .u32 0,.slice none 0 0,.int .i64 0,.slice none 0 0,.bool false,.int .u32 0,.int .i64 0,.int .i64 0];simpa using this
  have K0:=Lib.hid k0
  have C:=Lib.hid (LC W0 B0)
  have q:((0:Int) != 0)=false:=rfl
  have hps:=powS_pos hp
  obtain ⟨hs64,hb64,hs2⟩:=pow_64 hp
  replace hb64:=hb64 b hb.2.1
  have ht:=m.top
  have hml:=m.len
  have oAh:code=[]∨Off A h:=row_off rA m.zones (bl_nou8 _)
  have oDh:data=[]∨Off D h:=row_off rD m.zones (bl_nou8 _)
  have oRg:rep=[]∨Off RA g:=krow_off rR m.bytes (u8_nou32 _)
  have oRh:rep=[]∨Off RA h:=krow_off rR m.zones (bl_nou32 _)
  have SET:=Lib.hid (fun w' (k:NwS w p g h (b,s) A cl cc D dl dc B T w')=>set_any k.m b s true ((setB_iff _ _ _).2 ⟨by omega,hb64,hs64⟩))
  obtain ⟨bn,rfl⟩:∃ k:Nat,b=k:=⟨b.toNat,by omega⟩
  obtain ⟨sn,rfl⟩:∃ k:Nat,s=k:=⟨s.toNat,by omega⟩
  have HW1:wholeB (splice T ((bn:Int) / 64).toNat (List.replicate ((sn:Int) / 64).toNat true)) (bn:Int) (code.length:Nat)=true:=by
    rw [show ((bn:Int) / 64).toNat=bn / 64 by omega,show ((sn:Int) / 64).toNat=sn / 64 by omega]
    exact whole_reg T bn sn (by omega) (by omega) (by omega) bn code.length (Nat.le_refl _) (by omega)
  have HW2:wholeB (splice T ((bn:Int) / 64).toNat (List.replicate ((sn:Int) / 64).toNat true)) ((bn:Int)+(sn:Int) / 2) (data.length:Nat)=true:=by
    rw [show ((bn:Int) / 64).toNat=bn / 64 by omega,show ((sn:Int) / 64).toNat=sn / 64 by omega,show ((bn:Int)+(sn:Int) / 2)=((bn+sn / 2:Nat):Int) by omega]
    exact whole_reg T bn sn (by omega) (by omega) (by omega) _ data.length (by omega) (by omega)
  have HB:newB B ((bn:Int),(sn:Int)) code data=splice (splice (splice B (bn:Int).toNat (List.replicate (sn:Int).toNat 0)) (bn:Int).toNat code) ((bn:Int)+(sn:Int) / 2).toNat data:=rfl
  have HT:newT T ((bn:Int),(sn:Int))=splice T ((bn:Int) / 64).toNat (List.replicate ((sn:Int) / 64).toNat true):=rfl
  rw [HB,HT]
  clear HB HT
  generalize splice T ((bn:Int) / 64).toNat (List.replicate ((sn:Int) / 64).toNat true)=T1 at *
  generalize splice B (bn:Int).toNat (List.replicate (sn:Int).toNat 0)=B1 at *
  have WR1:=Lib.hid (fun w' (k:NwS w p g h ((bn:Int),(sn:Int)) A cl cc D dl dc B1 T1 w') (r:RowAt w' A cc code)=>write_any k.m (bn:Int) A cc code r HW1)
  have WR2:=Lib.hid (fun w' (k:NwS w p g h ((bn:Int),(sn:Int)) A cl cc D dl dc (splice B1 (bn:Int).toNat code) T1 w') (r:RowAt w' D dc data)=>write_any k.m ((bn:Int)+(sn:Int) / 2) D dc data r HW2)
  rw [hc] at WR1
  rw [hd] at WR2
  have RAL:=Lib.hid (fun w' (c:Chg g h w w')=>rA.chgG c oA oAh)
  have RDL:=Lib.hid (fun w' (c:Chg g h w w')=>rD.chgG c oD oDh)
  have RRL:=Lib.hid (fun w' (c:Chg g h w w')=>(KRow.chg2 rR c oRg oRh:KRow .u32 w' RA rc rep))
  have KC:=Lib.hid (fun w' (k:KRow .u32 w' RA rc rep)=>clone_code RA rc rl rep hrl (by omega) w' k)
  have d2:(sn:Int).tdiv 2=(sn:Int) / 2:=Int.tdiv_eq_ediv_of_nonneg (by omega)
  have w1:IntKind.i64.wrap ((sn:Int) / 2)=(sn:Int) / 2:=IntWalk.i64_in _ (by omega)
  have w1':IntKind.i64.wrap ((sn:Int).tdiv 2)=(sn:Int) / 2:=by rw [d2];exact w1
  have w2:IntKind.i64.wrap ((bn:Int)+(sn:Int) / 2)=(bn:Int)+(sn:Int) / 2:=IntWalk.i64_in _ (by omega)
  have w3:IntKind.u32.wrap (bn:Int)=(bn:Int):=by unfold IntKind.wrap;simp [IntKind.signed,IntKind.bits];omega
  have w4:IntKind.u32.wrap (sn:Int)=(sn:Int):=by unfold IntKind.wrap;simp [IntKind.signed,IntKind.bits];omega
  generalize (sn:Int) / 2=hf at *
  generalize (bn:Int)=b at *
  generalize (sn:Int)=s at *
  clear LC m k0 B0 rA rD rR oA oD oAh oDh oRg oRh hp hb hps hs64 hb64 hs2 ht hml h1 h2 HW1 HW2
  go_enter Tryz.func25,Tryz.ntmps25
  go_wp2_with (first
    | (refine ld_at rfl 52 (.tmp 5) rfl w.heap.size 0 (by rfl) 52 [] [.int .i64 b,.int .i64 s] [] K0.out.x rfl Tryz.isAgg52 Tryz.sizeOf52 ?_)
    | (refine ld_at rfl 57 (.tmp 6) rfl (w.heap.size+1) 0 (by rfl) 57 [] [.slice A cl cc,.slice D dl dc] [] K0.out.y rfl Tryz.isAgg57 Tryz.sizeOf57 ?_))
  refine C.out.mono ?_;rintro e w5 ⟨rfl,hb1⟩
  have K1:=Lib.hid (K0.out.below hb1)
  have x0:=K1.out.x.cell 0
  have x1:=K1.out.x.cell 1
  simp only [List.getElem?_cons_succ,List.getElem?_cons_zero] at x0 x1
  clear hb1 C K0 e0
  go_wp2_with fail
  refine (SET.out _ K1.out).mono ?_;rintro e w6 ⟨rfl,m2,c2⟩
  have K2:=Lib.hid (K1.out.mem m2 c2)
  have R2:=Lib.hid (RAL.out _ K2.out.c)
  have x0:=K2.out.x.cell 0
  have x1:=K2.out.x.cell 1
  have y0:=K2.out.y.cell 0
  have y1:=K2.out.y.cell 1
  simp only [List.getElem?_cons_succ,List.getElem?_cons_zero] at x0 x1 y0 y1
  clear m2 c2 K1 SET
  go_wp2_with fail
  refine (WR1.out _ K2.out R2.out).mono ?_;rintro e w7 ⟨rfl,m3,c3⟩
  have K3:=Lib.hid (K2.out.mem m3 c3.wide)
  have R3:=Lib.hid (RDL.out _ K3.out.c)
  have x0:=K3.out.x.cell 0
  have x1:=K3.out.x.cell 1
  have y0:=K3.out.y.cell 0
  have y1:=K3.out.y.cell 1
  simp only [List.getElem?_cons_succ,List.getElem?_cons_zero] at x0 x1 y0 y1
  clear m3 c3 K2 WR1 R2
  go_wp2_with fail
  refine (WR2.out _ K3.out R3.out).mono ?_;rintro e w8 ⟨rfl,m4,c4⟩
  have K4:=Lib.hid (K3.out.mem m4 c4.wide)
  have K4D:=Lib.hid (K4.out.below (Below.refl _ _).drew)
  have x0:=K4.out.x.cell 0
  have x1:=K4.out.x.cell 1
  simp only [List.getElem?_cons_succ,List.getElem?_cons_zero] at x0 x1
  have X0:=K4D.out.x.cell 0
  have X1:=K4D.out.x.cell 1
  simp only [List.getElem?_cons_succ,List.getElem?_cons_zero] at X0 X1
  have KC2:=Lib.hid (KC.out _ (RRL.out _ K4D.out.c))
  clear m4 c4 K3 WR2 R3 KC
  go_wp2_with fail
  refine wp_region_noPanic ?_
  refine wp_region_held_drew (S:=(fun w'=>w'.cell? ⟨w.heap.size,0,none⟩=some (.int .i64 b)∧w'.cell? ⟨w.heap.size,1,none⟩=some (.int .i64 s))) (by kernel_rfl) ?_ (fun hHeld=>?_)
  · (try dsimp only)
    exact ⟨X0,X1⟩
  refine wT 0 ?_
  refine wT 1 ?_
  refine wT 2 ?_
  refine wT 3 ?_
  refine wT 4 ?_
  refine wT 5 ?_
  refine wT 6 ?_
  refine wT 7 ?_
  refine wT 8 ?_
  refine wT 9 ?_
  refine wT 10 ?_
  refine wpAnyH_ready (rs:=[11]) (by kernel_rfl) (by simp) ?_
  refine rC (fun K hK=>?_) ?_
  · go_simp
    refine KC2.out.mono ?_
    rintro e w9 ⟨R9,c9,rfl,k9,b9,n9⟩
    have K5:=Lib.hid (K4D.out.below b9)
    have KR:=Lib.hid k9
    have x0_9:=K5.out.x.cell 0
    have x1_9:=K5.out.x.cell 1
    simp only [List.getElem?_cons_succ,List.getElem?_cons_zero] at x0_9 x1_9
    have NN:Off R9 (w.heap.size+2):=fun y hy=>by have:=n9 y hy;have:=K4D.out.z.lt;omega
    have NN2:=Lib.hid (fun (y:Addr) (hy:R9=some y)=>(by have:=n9 y hy;have:=K4D.out.z.lt;omega:w.heap.size≤y.block))
    clear k9 b9 n9
    refine hK.out _ _ ?_ (fun hHeld=>?_)
    · (try dsimp only)
      exact ⟨x0_9,x1_9⟩
    clear hK K
    (try simp only [Act.put,lsA,lsZ,lsS])
    refine wT 12 ?_
    refine wT 13 ?_
    refine wpAnyH_ready (rs:=[14]) (by kernel_rfl) (by simp) ?_
    refine rC (fun K hK=>?_) ?_
    · (refine st_has 82 (.tmp 8) (.tmp 54) rfl rfl (w.heap.size+2) [.int .u32 0,.int .u32 0,.int .u32 0,.int .u32 0,.int .u32 0,.int .u32 0,.int .u32 0,.int .u32 0,.int .u32 0,.int .u32 0,.int .u32 0,.slice none 0 0,.int .i64 0,.slice none 0 0,.bool false,.int .u32 0,.int .i64 0,.int .i64 0] [.int .u32 b,.int .u32 0,.int .u32 0,.int .u32 0,.int .u32 0,.int .u32 0,.int .u32 0,.int .u32 0,.int .u32 0,.int .u32 b,.int .u32 s,.slice R9 rl c9,.int .i64 0,.slice none 0 0,.bool false,.int .u32 0,.int .i64 0,.int .i64 0] rfl rfl K5.out.z (by rfl) (by kernel_rfl) (by simp [Value.oneCell']) ?_;intro W9 r1 c1;have x0_10:=(cell_chg c1 (p:=⟨w.heap.size,0,none⟩) (by show w.heap.size < _;have:=K5.out.x.lt;omega) (by show w.heap.size≠_;omega) (by show w.heap.size≠_;omega)).trans x0_9;have x1_10:=(cell_chg c1 (p:=⟨w.heap.size,1,none⟩) (by show w.heap.size < _;have:=K5.out.x.lt;omega) (by show w.heap.size≠_;omega) (by show w.heap.size≠_;omega)).trans x1_9)
      refine hK.out _ _ ?_ (fun hHeld=>?_)
      · (try dsimp only)
        exact ⟨x0_10,x1_10⟩
      clear hK K
      (try simp only [Act.put,lsA,lsZ,lsS])
      refine wT 15 ?_
      refine wpAnyH_done (by kernel_rfl) ?_ _
      refine NoPanic.normal ?_
      go_wp2_with fail
      have V:=loadvar_has r1 rfl Tryz.underlying82 (by kernel_rfl)
      refine bodyPost_ret (v:=.tuple #[.agg #[.int .u32 b,.int .u32 0,.int .u32 0,.int .u32 0,.int .u32 0,.int .u32 0,.int .u32 0,.int .u32 0,.int .u32 0,.int .u32 b,.int .u32 s,.slice R9 rl c9,.int .i64 0,.slice none 0 0,.bool false,.int .u32 0,.int .i64 0,.int .i64 0],.int .i64 0]) (by simp [results,Tryz.results25,asaddr_run,V]) rfl ?_
      exact ⟨R9,c9,rfl,KR.out.off c1 (.inr NN),(K5.out.out c1).1,(K5.out.out c1).2,NN2.out⟩
    exact AllReadyH.nil
  exact AllReadyH.nil
def NewP2 (w:World) (p g h:Nat) (B:List Int) (T:List Bool) (r:Rg) (code data rep:List Int) (e:Ending) (w':World):Prop:=
  ∃ RA rc,(newE code data r (64 * T.length)≠0∧e=.returned (.tuple #[zeroX.val none 0 none 0,.int .i64 (newE code data r (64 * T.length))])∧MemAt w' p g h B T∧Chg g h w w') ∨
    (newE code data r (64 * T.length)=0∧e=.returned (.tuple #[(newX r rep).val RA rc none 0,.int .i64 0])∧KRow .u32 w' RA rc rep∧MemAt w' p g h (newB B r code data) (newT T r)∧Chg g h w w'∧(∀ y,RA=some y→w.heap.size≤y.block))
def NewC2:Prop:=∀ (p g h:Nat) (B:List Int) (T:List Bool) (r:Rg) (A:Option Addr) (cc cl:Nat) (code:List Int) (D:Option Addr) (dc dl:Nat) (data:List Int) (RA:Option Addr) (rc rl:Nat) (rep:List Int) (w:World),
  RgI r→code.length=cl→cl≤5000→data.length=dl→dl≤5000→rep.length=rl→rl≤1000→MemAt w p g h B T→RowAt w A cc code→RowAt w D dc data→KRow .u32 w RA rc rep→(code=[]∨Off A g)→(data=[]∨Off D g) →
  Calls Tryz.prog 25 #[.pointer (some ⟨p,0,none⟩),.agg #[.int .i64 r.1,.int .i64 r.2],.agg #[.slice A cl cc,.slice D dl dc],.slice RA rl rc] w (NewP2 w p g h B T r code data rep)
theorem newC2:NewC2:=by
  intro p g h B T r A cc cl code D dc dl data RA rc rl rep w hr hc hcl hd hdl hrl hrl2 m rA rD rR oA oD
  have LC:=fun w' (b:Below w.heap.size w w')=>lie_code p g h B T r A cc cl code D dc dl data w' hr hc hcl hd hdl (m.below b) (rA.below b) (rD.below b)
  by_cases hE:newE code data r (64 * T.length)=0
  · obtain ⟨b,s⟩:=r
    have hx:=lie_cases code data (b,s) (64 * T.length)
    have hy:fitsB code.length s=true∧(data.length:Int)≤s / 2∧rgtB [(b,s)] (64 * T.length)=true:=by
      rcases hx with ⟨h1,h2⟩ | ⟨h1,h2,h3⟩ | ⟨h1,h2,h3,h4⟩ | ⟨h1,h2,h3,h4,h5⟩ | ⟨h1,h2,h3,h4,h5⟩
      · rw [hE] at h2;exact absurd h2.symm h1
      · rw [hE] at h3;exact absurd h3 (by decide)
      · rw [hE] at h4;exact absurd h4 (by decide)
      · rw [hE] at h5;exact absurd h5 (by decide)
      · exact ⟨h2,h3,h4⟩
    obtain ⟨k1,k2,k3⟩:=hy
    have k4:=(rgt_iff.1 k3).reg (b,s) (by simp)
    obtain ⟨q1,q2,q3,q4⟩:=reg_iff.1 k4
    have k5:(code.length:Int)≤s / 2 - 32:=by
      unfold fitsB at k1
      rw [Bool.and_eq_true,decide_eq_true_iff] at k1
      exact k1.2.2
    rw [hE] at LC
    refine (new_ok p g h B T b s A cc cl code D dc dl data RA rc rl rep w m hc hd hrl hrl2 rA rD rR oA oD q1 ⟨q2,q3,q4⟩ (by omega) (by omega) LC).mono ?_
    rintro e w' ⟨R9,c9,rfl,h1,h2,h3,h4⟩
    refine ⟨R9,c9,.inr ⟨hE,?_,h1,h2,h3,h4⟩⟩
    subst hrl
    rfl
  · refine (new_err _ hE p g h B T r A cc cl D dc dl RA rc rl w m LC).mono ?_
    rintro e w' ⟨rfl,h1,h2⟩
    exact ⟨none,0,.inl ⟨hE,rfl,h1,h2⟩⟩
theorem clearC:ClearC:=by
  intro r p g h B T w hr m
  obtain ⟨q1,q2,q3,q4⟩:=reg_iff.1 hr
  have hps:=powS_pos q1
  obtain ⟨hs64,hb64,_⟩:=pow_64 q1
  replace hb64:=hb64 r.1 q3
  have hml:=m.len
  obtain ⟨W0,e0,X,B0⟩:∃ W0,w.alloc (.cells #[.int .i64 r.1,.int .i64 r.2] 52)=W0∧HasB W0 w.heap.size 52 [.int .i64 r.1,.int .i64 r.2]∧Below w.heap.size w W0:=⟨_,rfl,HasB.new w 52 [.int .i64 r.1,.int .i64 r.2],bel_al (Below.refl _ _) _⟩
  have SET:=Lib.hid (set_any (m.below B0) r.1 r.2 false ((setB_iff _ _ _).2 ⟨by omega,hb64,hs64⟩))
  have x0:=X.cell 0
  have x1:=X.cell 1
  simp only [List.getElem?_cons_succ,List.getElem?_cons_zero] at x0 x1
  have BB:=Lib.hid B0
  clear X m hr q1 q2 q3 q4 hps hs64 hb64 hml B0
  go_enter Tryz.func32,Tryz.ntmps32
  go_wp2_with fail
  refine SET.out.mono ?_;rintro e w6 ⟨rfl,m2,c2⟩
  have M2:=Lib.hid m2
  have C2:=Lib.hid c2
  clear m2 c2
  go_wp2_with fail
  go_ret
  exact ⟨rfl,M2.out,chg2Trans (Chg.of BB.out) C2.out⟩
end Go.Proofs.YteefmjhemhlapaaGreat.Mm
