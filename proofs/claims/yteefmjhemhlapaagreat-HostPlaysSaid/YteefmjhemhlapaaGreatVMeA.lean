/- Merged by wip/tools/regroup: MemWalks, MemWrites, MemPut, MemSet, MemLaws. -/
import Derived.Test.YteefmjhemhlapaaGreatVBaM
namespace Go.Proofs.YteefmjhemhlapaaGreat.Mm
open Go.ChangeShapes Go.WideShapes Go.ChangeAt Go.RowKit
set_option linter.unusedVariables false
set_option maxRecDepth 10000
theorem lies_nil (a n:Int) (w:World):Calls Tryz.prog 70 #[.pointer none,.int .i64 a,.int .i64 n] w fun e w'=>e=.returned (.bool false)∧w=w':=by
  go_enter Tryz.func70,Tryz.ntmps70
  go_wp2
  go_ret
  exact ⟨rfl,rfl⟩
theorem lies_any {w:World} {p g h:Nat} {B:List Int} {T:List Bool} (m:MemAt w p g h B T) (a n:Int) (ha:a≤9223372036854775807) :
    Calls Tryz.prog 70 #[.pointer (some ⟨p,0,none⟩),.int .i64 a,.int .i64 n] w fun e w'=>e=.returned (.bool (liesB B.length a n))∧w=w':=by
  have c0:=m.c0
  have hl:B.length≤65536:=by have:=m.len;have:=m.top;omega
  have hi:=liesB_iff B.length a n
  have HI:=Lib.hid hi;clear hi
  generalize B.length=L at *
  clear m
  go_enter Tryz.func70,Tryz.ntmps70
  go_wp2
  all_goals go_ret
  all_goals refine ⟨ret_bool ?_,rfl⟩
  all_goals (rw [Bool.eq_iff_iff,HI.out];(try simp) <;> omega)
theorem whole_nil (a n:Int) (w:World):Calls Tryz.prog 62 #[.pointer none,.int .i64 a,.int .i64 n] w fun e w'=>e=.returned (.bool false)∧w=w':=by
  go_enter Tryz.func62,Tryz.ntmps62
  go_wp2_with fail
  refine (lies_nil _ _ _).mono ?_;rintro e w' ⟨rfl,rfl⟩
  go_wp2
  go_ret
  exact ⟨rfl,rfl⟩
theorem whole_no {w:World} {p g h:Nat} {B:List Int} {T:List Bool} (m:MemAt w p g h B T) (a n:Int) (ha:a≤9223372036854775807) (hl:liesB B.length a n=false) :
    Calls Tryz.prog 62 #[.pointer (some ⟨p,0,none⟩),.int .i64 a,.int .i64 n] w fun e w'=>e=.returned (.bool false)∧w=w':=by
  have C:=lies_any m a n ha
  rw [hl] at C
  have C:=Lib.hid C;clear hl
  clear m
  go_enter Tryz.func62,Tryz.ntmps62
  go_wp2_with fail
  refine C.out.mono ?_;rintro e w' ⟨rfl,rfl⟩
  go_wp2
  go_ret
  exact ⟨rfl,rfl⟩
theorem whole_zero {w:World} {p g h:Nat} {B:List Int} {T:List Bool} (m:MemAt w p g h B T) (a:Int) (ha:a≤9223372036854775807) (hl:liesB B.length a 0=true) :
    Calls Tryz.prog 62 #[.pointer (some ⟨p,0,none⟩),.int .i64 a,.int .i64 0] w fun e w'=>e=.returned (.bool true)∧w=w':=by
  have C:=lies_any m a 0 ha
  rw [hl] at C
  have C:=Lib.hid C;clear hl
  clear m
  go_enter Tryz.func62,Tryz.ntmps62
  go_wp2_with fail
  refine C.out.mono ?_;rintro e w' ⟨rfl,rfl⟩
  go_wp2
  go_ret
  exact ⟨rfl,rfl⟩
theorem whole_yes {w:World} {p g h:Nat} {B:List Int} {T:List Bool} (m:MemAt w p g h B T) (a n:Nat) (hn:0 < n) (hl:a+n≤64 * T.length) :
    Calls Tryz.prog 62 #[.pointer (some ⟨p,0,none⟩),.int .i64 a,.int .i64 n] w fun e w'=>e=.returned (.bool (thr T a n))∧w=w':=by
  have ht:=m.top
  have C:=lies_any m a n (by omega)
  rw [(liesB_iff _ _ _).2 (by have:=m.len;omega)] at C
  have C:=Lib.hid C
  have c1:=m.c1
  have Z:=Lib.hid m.zc
  have TZ:=Lib.hid (thr_zones T a n hn)
  clear m
  have q0:(n:Int)≠0:=by omega
  have q1:((n:Int) == 0)=false:=by simpa using q0
  have s1:(a:Int)+(n:Int) - 1=((a+n - 1:Nat):Int):=by omega
  generalize hL:T.length=L at *
  have HL:=Lib.hid hL;clear hL
  go_enter Tryz.func62,Tryz.ntmps62
  go_wp2_with fail
  refine C.out.mono ?_;rintro e w' ⟨rfl,rfl⟩
  go_wp2_with fail
  obtain ⟨z0,hz0⟩:∃ z,z=a / 64:=⟨_,rfl⟩
  obtain ⟨z1,hz1⟩:∃ z,z=(a+n - 1) / 64+1:=⟨_,rfl⟩
  have hz:z0 < z1:=by omega
  have hzL:z1≤L:=by omega
  rw [← hz0,← hz1] at TZ ⊢
  clear hz0 hz1
  go_loop [30] (fun i=>∃ k:Nat,k≤z1 - z0∧i=.int .i64 k∧∀ z,z0≤z→z < z0+k→T.getD z false=true) (fun i=>z1 - z0 - (intOf i).toNat)
  case atStart=>exact ⟨0,Nat.zero_le _,rfl,fun z h1 h2=>by omega⟩
  case round=>
    obtain ⟨k,hk,rfl,hall⟩:=hrel
    have HA:=Lib.hid hall;clear hall
    by_cases hlt:k < z1 - z0
    · have hc:=Z.out (z0+k) (by have:=HL.out;omega)
      obtain ⟨b,hb⟩:∃ b,T.getD (z0+k) false=b:=⟨_,rfl⟩
      rw [hb] at hc
      have HB:=Lib.hid hb;clear hb
      cases b
      · go_wp2
        go_ret
        refine ⟨ret_bool ?_,rfl⟩
        have:¬ thr T a n=true:=fun ht=>by
          have:=TZ.out.1 ht (z0+k) (by omega) (by omega)
          rw [HB.out] at this
          cases this
        simpa using this
      · go_wp2
        go_round
        case rel=>exact ⟨k+1,by omega,by go_num,fun z h1 h2=>by
          by_cases e:z=z0+k
          · rw [e];exact HB.out
          · exact HA.out z h1 (by omega)⟩
        case measure=>simp [intOf];omega
    · go_wp2
      go_ret
      refine ⟨ret_bool ?_,rfl⟩
      exact (TZ.out.2 fun z h1 h2=>HA.out z h1 (by omega)).symm
theorem whole_any {w:World} {p g h:Nat} {B:List Int} {T:List Bool} (m:MemAt w p g h B T) (a n:Int) (ha:a≤9223372036854775807) :
    Calls Tryz.prog 62 #[.pointer (some ⟨p,0,none⟩),.int .i64 a,.int .i64 n] w fun e w'=>e=.returned (.bool (wholeB T a n))∧w=w':=by
  unfold wholeB
  rw [← m.len]
  by_cases hl:liesB B.length a n=false
  · rw [hl];exact whole_no m a n ha hl
  · have hl:liesB B.length a n=true:=by simpa using hl
    obtain ⟨h1,h2,h3⟩:=(liesB_iff _ _ _).1 hl
    rw [hl,Bool.true_and]
    obtain ⟨k,rfl⟩:∃ k:Nat,n=k:=⟨n.toNat,by omega⟩
    obtain ⟨b,rfl⟩:∃ k:Nat,a=k:=⟨a.toNat,by omega⟩
    rw [Int.toNat_natCast,Int.toNat_natCast]
    by_cases h0:k=0
    · subst h0;exact whole_zero m _ ha hl
    · exact whole_yes m b k (by omega) (by have:=m.len;omega)
theorem there_any {w:World} {p g h:Nat} {B:List Int} {T:List Bool} (m:MemAt w p g h B T) (a:Int) (ha:a≤9223372036854775807) :
    Calls Tryz.prog 38 #[.pointer (some ⟨p,0,none⟩),.int .i64 a] w fun e w'=>e=.returned (.bool (wholeB T a 1))∧w=w':=by
  have C:=Lib.hid (whole_any m a 1 ha);clear m
  generalize wholeB T a 1=b at *
  go_enter Tryz.func38,Tryz.ntmps38
  go_wp2_with fail
  refine C.out.mono ?_;rintro e w' ⟨rfl,rfl⟩
  go_wp2
  go_ret
  exact ⟨rfl,rfl⟩
theorem size_any {w:World} {p g h:Nat} {B:List Int} {T:List Bool} (m:MemAt w p g h B T) :
    Calls Tryz.prog 51 #[.pointer (some ⟨p,0,none⟩)] w fun e w'=>e=.returned (.int .i64 B.length)∧w=w':=by
  have c0:=m.c0
  go_enter Tryz.func51,Tryz.ntmps51
  go_wp2
  go_ret
  exact ⟨rfl,rfl⟩
def Made (w:World) (z:Nat) (e:Ending) (w':World):Prop:=
  ∃ p g h,e=.returned (.tuple #[.pointer (some ⟨p,0,none⟩),.int .i64 0])∧MemAt w' p g h (List.replicate (64 * z) 0) (List.replicate z false)∧w.heap.size≤p∧w.heap.size≤g∧w.heap.size≤h∧Below w.heap.size w w'
theorem made_rep (n:Nat) (v:Value) (h:v.cells=#[v]):madeCells v.cells n=(List.replicate n v).toArray:=by
  rw [h]
  apply Array.ext
  · rw [size_madeCells];simp
  · intro i h1 h2
    simp [madeCells,Nat.mod_one]
set_option maxRecDepth 100000 in
theorem make_u8 (n:Nat) (h:n≤65536) (w:World) :
    (Instr.makeSlice 39 (.int .i64 n) (.int .i64 n)).run Tryz.prog w=.ok (.slice (some ⟨w.heap.size,0,none⟩) n n) (w.alloc (.cells (List.replicate n (Value.int .u8 0)).toArray 5)):=by
  have hi:∃ i,Tryz.prog.info? 5=some i∧i.zero=some (.int .u8 0)∧i.size=1∧i.bytes=1:=by
    refine ⟨_,rfl,?_,?_,?_⟩ <;> kernel_rfl
  obtain ⟨i,hi,hz,hs,hb⟩:=hi
  have:=run_makeSlice (P:=Tryz.prog) w 39 5 i (.int .u8 0) Tryz.underlying39 hi hz .i64 .i64 n n (by omega) (by omega) (by rw [hs];omega) (by rw [hb];omega) (by omega)
  rw [hs,made_rep _ _ rfl] at this
  simpa using this
set_option maxRecDepth 100000 in
theorem make_bool (n:Nat) (h:n≤65536) (w:World) :
    (Instr.makeSlice 105 (.int .i64 n) (.int .i64 n)).run Tryz.prog w=.ok (.slice (some ⟨w.heap.size,0,none⟩) n n) (w.alloc (.cells (List.replicate n (Value.bool false)).toArray 4)):=by
  have hi:∃ i,Tryz.prog.info? 4=some i∧i.zero=some (.bool false)∧i.size=1∧i.bytes=1:=by
    refine ⟨_,rfl,?_,?_,?_⟩ <;> kernel_rfl
  obtain ⟨i,hi,hz,hs,hb⟩:=hi
  have:=run_makeSlice (P:=Tryz.prog) w 105 4 i (.bool false) Tryz.underlying105 hi hz .i64 .i64 n n (by omega) (by omega) (by rw [hs];omega) (by rw [hb];omega) (by omega)
  rw [hs,made_rep _ _ rfl] at this
  simpa using this
theorem drew_has {w:World} {g:Nat} {t:TypeId} {cs:List Value} (h:HasB w g t cs):HasB w.drew g t cs:=h
theorem rep_u8 (n:Nat):(Array.replicate n (Value.int .u8 0))=((List.replicate n (0:Int)).map (Value.int .u8)).toArray:=by simp
theorem rep_bool (n:Nat):(Array.replicate n (Value.bool false))=((List.replicate n false).map Value.bool).toArray:=by simp
theorem made_mk {w w':World} {p g h n z:Nat} (hn:n=64 * z) (h1:1≤z) (h2:z≤1024) (hp:HasB w' p 107 [.slice (some ⟨g,0,none⟩) n n,.slice (some ⟨h,0,none⟩) z z])
    (hg:HasB w' g 5 ((List.replicate n (0:Int)).map (Value.int .u8))) (hh:HasB w' h 4 ((List.replicate z false).map Value.bool)) (lp:w.heap.size≤p) (lg:w.heap.size≤g) (lh:w.heap.size≤h) (hb:Below w.heap.size w w') :
    Made w z (.returned (.tuple #[.pointer (some ⟨p,0,none⟩),.int .i64 0])) w':=by
  subst hn
  exact ⟨p,g,h,rfl,⟨by rw [List.length_replicate,List.length_replicate];exact hp,hg,hh,by simp,by simpa using h1,by simpa using h2,rep_byte _⟩,lp,lg,lh,hb⟩
theorem made_1 {w:World} {n z:Nat} (hn:n=64 * z) (h1:1≤z) (h2:z≤1024):Made w z (.returned (.tuple #[.pointer (some ⟨w.heap.size+1+1,0,none⟩),.int .i64 0]))
    (((w.alloc (.cells (Array.replicate n (Value.int .u8 0)) 5)).alloc (.cells (Array.replicate z (Value.bool false)) 4)).alloc (.cells #[.slice (some ⟨w.heap.size,0,none⟩) n n,.slice (some ⟨w.heap.size+1,0,none⟩) z z] 107)).drew:=by
  rw [rep_u8,rep_bool]
  refine made_mk (g:=w.heap.size) (h:=w.heap.size+1) hn h1 h2 (drew_has ?_) (drew_has ?_) (drew_has ?_) (by omega) (by omega) (by omega) (bel_al (bel_al (bel_al (Below.refl _ _) _) _) _).drew
  · have:=HasB.new ((w.alloc (.cells ((List.replicate n (0:Int)).map (Value.int .u8)).toArray 5)).alloc (.cells ((List.replicate z false).map Value.bool).toArray 4)) 107 [.slice (some ⟨w.heap.size,0,none⟩) n n,.slice (some ⟨w.heap.size+1,0,none⟩) z z]
    simpa using this
  · exact ((HasB.new w _ _).below (bel_al (Below.refl _ _) _)).below (bel_al (Below.refl _ _) _)
  · have:=(HasB.new (w.alloc (.cells ((List.replicate n (0:Int)).map (Value.int .u8)).toArray 5)) 4 ((List.replicate z false).map Value.bool)).below (bel_al (Below.refl _ _) (.cells #[.slice (some ⟨w.heap.size,0,none⟩) n n,.slice (some ⟨w.heap.size+1,0,none⟩) z z] 107))
    rwa [World.size_alloc] at this
theorem made_2 {w:World} {n z:Nat} (hn:n=64 * z) (h1:1≤z) (h2:z≤1024):Made w z (.returned (.tuple #[.pointer (some ⟨w.heap.size+1+1,0,none⟩),.int .i64 0]))
    (((w.alloc (.cells (Array.replicate z (Value.bool false)) 4)).alloc (.cells (Array.replicate n (Value.int .u8 0)) 5)).alloc (.cells #[.slice (some ⟨w.heap.size+1,0,none⟩) n n,.slice (some ⟨w.heap.size,0,none⟩) z z] 107)).drew:=by
  rw [rep_u8,rep_bool]
  refine made_mk (g:=w.heap.size+1) (h:=w.heap.size) hn h1 h2 (drew_has ?_) (drew_has ?_) (drew_has ?_) (by omega) (by omega) (by omega) (bel_al (bel_al (bel_al (Below.refl _ _) _) _) _).drew
  · have:=HasB.new ((w.alloc (.cells ((List.replicate z false).map Value.bool).toArray 4)).alloc (.cells ((List.replicate n (0:Int)).map (Value.int .u8)).toArray 5)) 107 [.slice (some ⟨w.heap.size+1,0,none⟩) n n,.slice (some ⟨w.heap.size,0,none⟩) z z]
    simpa using this
  · have:=(HasB.new (w.alloc (.cells ((List.replicate z false).map Value.bool).toArray 4)) 5 ((List.replicate n (0:Int)).map (Value.int .u8))).below (bel_al (Below.refl _ _) (.cells #[.slice (some ⟨w.heap.size+1,0,none⟩) n n,.slice (some ⟨w.heap.size,0,none⟩) z z] 107))
    rwa [World.size_alloc] at this
  · exact ((HasB.new w _ _).below (bel_al (Below.refl _ _) _)).below (bel_al (Below.refl _ _) _)
theorem new_yes (n z:Nat) (hn:n=64 * z) (h1:1≤z) (h2:z≤1024) (w:World):Calls Tryz.prog 21 #[.int .i64 n] w (Made w z):=by
  have q1:(n:Int) % 64=0:=by omega
  have q2:(n:Int) / 64=(z:Int):=by omega
  have q3:decide ((n:Int) < 64)=false:=by rw [decide_eq_false_iff_not];omega
  have q4:decide (65536 < (n:Int))=false:=by rw [decide_eq_false_iff_not];omega
  have m1:=make_u8 n (by omega)
  have m2:=make_bool z (by omega)
  have HN:=Lib.hid hn;clear hn
  go_enter Tryz.func21,Tryz.ntmps21
  go_wp2_with fail
  go_region
  · go_wp2
    go_ret2
    exact made_1 HN.out h1 h2
  · go_wp2
    go_ret2
    exact made_2 HN.out h1 h2
end Go.Proofs.YteefmjhemhlapaaGreat.Mm
namespace Go.Proofs.YteefmjhemhlapaaGreat.Mm
open Go.ChangeShapes Go.WideShapes Go.ChangeAt Go.RowKit
set_option linter.unusedVariables false
set_option maxRecDepth 10000
theorem chg_row (w:World) (g:Nat) (cs:Array Value):Chg g g w (w.setRow g cs):=
  ⟨rfl,rfl,rfl,by simp,fun k _ h1 _=>setRow_other w g k cs h1⟩
theorem u8_size:(Tryz.prog.info? 5).map (·.size)=some 1:=by kernel_rfl
theorem addr_add (g a j:Nat):(⟨g,a,none⟩:Addr).add j=⟨g,a+j,none⟩:=by unfold Addr.add;by_cases h:j=0 <;> simp [h]
theorem copy_into {w:World} {g:Nat} {B l:List Int} {x:Addr} (hB:HasB w g 5 (B.map (Value.int .u8))) (hc:∀ i,i < l.length→w.cell? (x.add i)=some (.int .u8 (l.getD i 0))) (a n sl dl:Nat)
    (hn:l.length=n) (hm:Nat.min sl dl=n) (hfit:a+n≤B.length) :
    ∃ W,(∀ ty dc sc,(Builtin.copy_ #[39,39] ty #[.slice (some ⟨g,a,none⟩) dl dc,.slice (some x) sl sc]).run Tryz.prog w=.ok (goInt n) W)∧HasB W g 5 ((splice B a l).map (Value.int .u8))∧Chg g g w W:=by
  have hr:=fun ty dc sc=>run_copy_row (P:=Tryz.prog) w 39 39 ty 5 g a dl dc x sl sc _ 5 (l.map (Value.int .u8)) Tryz.underlying39 u8_size hB (by rw [List.length_map,hn,hm]) (fun j v hj=>by
      have hjl:j < l.length:=by
        rcases Nat.lt_or_ge j l.length with h | h
        · exact h
        · rw [List.getElem?_eq_none (by simpa using h)] at hj;cases hj
      rw [hc j hjl]
      simp [List.getElem?_eq_getElem hjl] at hj
      subst hj
      simp [List.getD,List.getElem?_eq_getElem hjl]) (by simp;omega) (by intro v hv;obtain ⟨y,_,rfl⟩:=List.mem_map.1 hv;rfl)
  refine ⟨w.setRow g ((B.map (Value.int .u8)).take a ++ l.map (Value.int .u8) ++ (B.map (Value.int .u8)).drop (a+(l.map (Value.int .u8)).length)).toArray,fun ty dc sc=>by rw [hr ty dc sc];simp only [List.length_map,hn],?_,chg_row _ _ _⟩
  have:=setRow_heap w g _ ((B.map (Value.int .u8)).take a ++ l.map (Value.int .u8) ++ (B.map (Value.int .u8)).drop (a+(l.map (Value.int .u8)).length)).toArray 5 (0,0) hB
  unfold HasB
  rw [← splice_map]
  unfold splice
  rw [← List.append_assoc]
  exact this
theorem write_no {w:World} {p g h:Nat} {B:List Int} {T:List Bool} (m:MemAt w p g h B T) (a:Int) (ha:a≤9223372036854775807) (A:Option Addr) (n cap:Nat) (hw:wholeB T a n=false) :
    Calls Tryz.prog 54 #[.pointer (some ⟨p,0,none⟩),.int .i64 a,.slice A n cap] w fun e w'=>e=.returned (.bool false)∧w=w':=by
  have C:=whole_any m a n ha
  rw [hw] at C
  have C:=Lib.hid C;clear hw
  clear m
  go_enter Tryz.func54,Tryz.ntmps54
  go_wp2_with fail
  refine C.out.mono ?_;rintro e w' ⟨rfl,rfl⟩
  go_wp2
  go_ret
  exact ⟨rfl,rfl⟩
theorem write_cons {w:World} {p g h:Nat} {B:List Int} {T:List Bool} (m:MemAt w p g h B T) (a n:Nat) (x:Addr) (l:List Int) (hl:l.length=n) (hn:0 < n) (hb:Bytes l) (cap:Nat) (hc:∀ i,i < l.length→w.cell? (x.add i)=some (.int .u8 (l.getD i 0)))
    (hw:wholeB T a n=true) (hfit:a+n≤B.length) :
    Calls Tryz.prog 54 #[.pointer (some ⟨p,0,none⟩),.int .i64 a,.slice (some x) n cap] w fun e w'=>e=.returned (.bool true)∧MemAt w' p g h (splice B a l) T∧Chg g g w w':=by
  have ht:=m.top
  have hlen:B.length≤65536:=by have:=m.len;omega
  have C:=whole_any m a n (by omega)
  rw [hw] at C
  have C:=Lib.hid C;clear hw
  obtain ⟨W,hr,hW,hch⟩:=copy_into m.bytes hc a n n (B.length - a) hl (by show min n _=_;omega) hfit
  have c0:=m.c0
  have M:MemAt W p g h (splice B a l) T:=by
    have hL:(splice B a l).length=B.length:=splice_len _ _ _ (by omega)
    refine ⟨?_,hW,m.zones.chg hch m.gh.symm m.gh.symm,by rw [hL];exact m.len,m.pos,m.top,splice_byte m.byte hb _⟩
    rw [hL]
    exact m.own.chg hch m.pg m.pg
  have M:=Lib.hid M
  have HC:=Lib.hid hch
  clear hW hch
  have g1:¬ B.length=a:=by omega
  have g2:a≤B.length:=by omega
  clear hc hl
  clear m
  generalize B.length=L at *
  go_enter Tryz.func54,Tryz.ntmps54
  go_wp2_with fail
  refine C.out.mono ?_;rintro e w' ⟨rfl,rfl⟩
  go_wp2
  go_ret
  exact ⟨rfl,M.out,HC.out⟩
theorem write_none {w:World} {p g h:Nat} {B:List Int} {T:List Bool} (m:MemAt w p g h B T) (a:Nat) (A:Option Addr) (cap:Nat) (hw:wholeB T a (0:Nat)=true) (hfit:a≤B.length) :
    Calls Tryz.prog 54 #[.pointer (some ⟨p,0,none⟩),.int .i64 a,.slice A 0 cap] w fun e w'=>e=.returned (.bool true)∧w=w':=by
  have ht:=m.top
  have hlen:B.length≤65536:=by have:=m.len;omega
  have C:=whole_any m a (0:Nat) (by omega)
  rw [hw] at C
  have C:=Lib.hid C;clear hw
  have c0:=m.c0
  have hr:∀ ty d n c,(Builtin.copy_ #[39,39] ty #[.slice d n c,.slice A 0 cap]).run Tryz.prog w=.ok (goInt 0) w:=
    fun ty d n c=>run_copy_none (P:=Tryz.prog) w _ _ ty 5 d A n c 0 cap Tryz.underlying39 u8_size (by show min 0 n=0;omega)
  generalize B.length=L at *
  clear m
  by_cases hq:L=a
  · subst hq
    go_enter Tryz.func54,Tryz.ntmps54
    go_wp2_with fail
    refine C.out.mono ?_;rintro e w' ⟨rfl,rfl⟩
    go_wp2
    go_ret
    exact ⟨rfl,rfl⟩
  · go_enter Tryz.func54,Tryz.ntmps54
    go_wp2_with fail
    refine C.out.mono ?_;rintro e w' ⟨rfl,rfl⟩
    go_wp2
    go_ret
    exact ⟨rfl,rfl⟩
theorem whole_lies {T:List Bool} {a n:Int} (h:wholeB T a n=true):0≤a∧0≤n∧a+n≤(64 * T.length:Nat):=by
  unfold wholeB at h
  rw [Bool.and_eq_true] at h
  have:=(liesB_iff _ _ _).1 h.1
  omega
theorem write_any {w:World} {p g h:Nat} {B:List Int} {T:List Bool} (m:MemAt w p g h B T) (a:Int) (A:Option Addr) (cap:Nat) (l:List Int) (hr:RowAt w A cap l) (hw:wholeB T a l.length=true) :
    Calls Tryz.prog 54 #[.pointer (some ⟨p,0,none⟩),.int .i64 a,.slice A l.length cap] w fun e w'=>e=.returned (.bool true)∧MemAt w' p g h (splice B a.toNat l) T∧Chg g g w w':=by
  obtain ⟨h0,h1,h2⟩:=whole_lies hw
  have hl:=m.len
  obtain ⟨k,rfl⟩:∃ k:Nat,a=k:=⟨a.toNat,by omega⟩
  rw [Int.toNat_natCast]
  by_cases hn:l=[]
  · subst hn
    refine (write_none m k A cap hw (by omega)).mono ?_
    rintro e w' ⟨rfl,rfl⟩
    exact ⟨rfl,by rw [splice_nil];exact m,Chg.refl _ _ _⟩
  · obtain ⟨r1,r2,r3,r4⟩:=hr
    obtain ⟨x,rfl,_,hc⟩:=r4 hn
    exact write_cons m k l.length x l rfl (List.length_pos_iff.2 hn) r3 cap hc hw (by omega)
end Go.Proofs.YteefmjhemhlapaaGreat.Mm
namespace Go.Proofs.YteefmjhemhlapaaGreat.Mm
open Go.ChangeShapes Go.WideShapes Go.ChangeAt Go.RowKit
set_option linter.unusedVariables false
set_option maxRecDepth 10000
def put4 (w:World) (v:Int):World:=w.alloc (.cells ((b4 v).map (Value.int .u8)).toArray 5)
theorem put_b (p:Option Addr) (a v:Int) (b:Bool) (h0:0≤a) (h1:a < 4294967296) (v0:0≤v) (v1:v < 4294967296) (w:World) (R:World→Prop)
    (c:Calls Tryz.prog 54 #[.pointer p,.int .i64 a,.slice (some ⟨w.heap.size,0,none⟩) (b4 v).length (b4 v).length] (put4 w v) fun e w'=>e=.returned (.bool b)∧R w') :
    Calls Tryz.prog 116 #[.pointer p,.int .u32 a,.int .u32 v] w fun e w'=>e=.returned (.bool b)∧R w':=by
  have C:=Lib.hid c;clear c
  go_enter Tryz.func116,Tryz.ntmps116
  go_wp2_with fail
  refine Calls.mono C.out ?_;rintro e w' ⟨rfl,hR⟩
  have HR:=Lib.hid hR;clear hR
  go_wp2
  go_ret
  exact ⟨rfl,HR.out⟩
theorem put4_bel (w:World) (v:Int):Below w.heap.size w (put4 w v):=bel_al (Below.refl _ _) _
theorem put4_row (w:World) (v:Int) (v0:0≤v) (v1:v < 4294967296):RowAt (put4 w v) (some ⟨w.heap.size,0,none⟩) (b4 v).length (b4 v):=
  row_blk (b4_byte v v0 v1) (by unfold maxLen;rw [b4_len];decide) (HasB.new w _ _)
theorem put_no {w:World} {p g h:Nat} {B:List Int} {T:List Bool} (m:MemAt w p g h B T) (a v:Int) (h0:0≤a) (h1:a < 4294967296) (v0:0≤v) (v1:v < 4294967296) (hw:wholeB T a 4=false) :
    Calls Tryz.prog 116 #[.pointer (some ⟨p,0,none⟩),.int .u32 a,.int .u32 v] w fun e w'=>e=.returned (.bool false)∧Below w.heap.size w w':=
  put_b _ a v false h0 h1 v0 v1 w _ ((write_no (m.below (put4_bel w v)) a (by omega) _ (b4 v).length _ hw).mono fun e w' h=>⟨h.1,h.2 ▸ put4_bel w v⟩)
theorem put_yes {w:World} {p g h:Nat} {B:List Int} {T:List Bool} (m:MemAt w p g h B T) (a v:Int) (h0:0≤a) (h1:a < 4294967296) (v0:0≤v) (v1:v < 4294967296) (hw:wholeB T a 4=true) :
    Calls Tryz.prog 116 #[.pointer (some ⟨p,0,none⟩),.int .u32 a,.int .u32 v] w fun e w'=>e=.returned (.bool true)∧(MemAt w' p g h (splice B a.toNat (b4 v)) T∧Chg g g w w'):=
  put_b _ a v true h0 h1 v0 v1 w _ ((write_any (m.below (put4_bel w v)) a _ _ (b4 v) (put4_row w v v0 v1) hw).mono fun e w' h=>⟨h.1,h.2.1,(Chg.of (put4_bel w v)).trans h.2.2⟩)
theorem get_nil (a:Int) (h0:0≤a) (h1:a < 4294967296) (w:World):Calls Tryz.prog 117 #[.pointer none,.int .u32 a] w fun e w'=>e=.returned (.tuple #[.int .u32 0,.bool false])∧w=w':=by
  go_enter Tryz.func117,Tryz.ntmps117
  go_wp2_with fail
  refine (whole_nil _ _ _).mono ?_;rintro e w' ⟨rfl,rfl⟩
  go_wp2
  go_ret2
  exact ⟨rfl,rfl⟩
theorem get_no {w:World} {p g h:Nat} {B:List Int} {T:List Bool} (m:MemAt w p g h B T) (a:Int) (h0:0≤a) (h1:a < 4294967296) (hw:wholeB T a 4=false) :
    Calls Tryz.prog 117 #[.pointer (some ⟨p,0,none⟩),.int .u32 a] w fun e w'=>e=.returned (.tuple #[.int .u32 0,.bool false])∧w=w':=by
  have C:=whole_any m a 4 (by omega)
  rw [hw] at C
  have C:=Lib.hid C;clear hw m
  go_enter Tryz.func117,Tryz.ntmps117
  go_wp2_with fail
  refine C.out.mono ?_;rintro e w' ⟨rfl,rfl⟩
  go_wp2
  go_ret2
  exact ⟨rfl,rfl⟩
theorem get_yes {w:World} {p g h:Nat} {B:List Int} {T:List Bool} (m:MemAt w p g h B T) (a:Nat) (hw:wholeB T a 4=true) (hfit:a+4≤B.length) :
    Calls Tryz.prog 117 #[.pointer (some ⟨p,0,none⟩),.int .u32 a] w fun e w'=>e=.returned (.tuple #[.int .u32 (v4 B a),.bool true])∧w=w':=by
  have ht:=m.top
  have hlen:B.length≤65536:=by have:=m.len;omega
  have C:=whole_any m a 4 (by omega)
  rw [hw] at C
  have C:=Lib.hid C;clear hw
  have c0:=m.c0
  have BC:=Lib.hid m.bc
  have hby:=drop_byte m.byte a
  have HBY:=Lib.hid hby
  have HV:=Lib.hid (v4_num B a hfit)
  obtain ⟨L,hL⟩:∃ L,B.length=L:=⟨_,rfl⟩
  rw [hL] at c0 hfit hlen
  have HL:=Lib.hid hL
  clear hL m hby
  have g1:¬ L=a:=by omega
  have g2:a+4 - a=4:=by omega
  go_enter Tryz.func117,Tryz.ntmps117
  go_wp2_with fail
  refine C.out.mono ?_;rintro e w' ⟨rfl,rfl⟩
  go_wp2_with fail
  rw [g2]
  clear g2
  go_loop [7,25] (fun v i=>∃ k:Nat,k≤4∧i=.int .i64 k∧v=.int .u32 (numV ((B.drop a).take k))) (fun _ i=>4 - (intOf i).toNat)
  case atStart=>exact ⟨0,Nat.zero_le _,rfl,rfl⟩
  case round=>
    obtain ⟨k,hk,rfl,rfl⟩:=hrel
    by_cases hlt:k < 4
    · have hc:=BC.out (a+k) (by have:=HL.out;omega)
      have hbd:=row_byte HBY.out k
      rw [getD_drop'] at hbd
      have hv:=numV_bd _ (take_byte HBY.out k)
      rw [List.length_take,List.length_drop,HL.out,Nat.min_eq_left (by omega)] at hv
      have HS:=Lib.hid (numV_take (B.drop a) k (by rw [List.length_drop,HL.out];omega))
      rw [getD_drop'] at HS
      obtain ⟨bk,hbk⟩:∃ v,B.getD (a+k) 0=v:=⟨_,rfl⟩
      rw [hbk] at hc hbd HS
      clear hbk
      obtain ⟨mk,hmk⟩:∃ v,numV ((B.drop a).take k)=v:=⟨_,rfl⟩
      rw [hmk] at hv HS ⊢
      clear hmk
      obtain ⟨hb0,hb1⟩:=hbd
      have HJ:=Lib.hid (or_join mk bk k hlt hv.1 hv.2 hb0 hb1)
      have hm1:mk < 4294967296:=by
        have:=hv.2
        obtain rfl | rfl | rfl | rfl:k=0∨k=1∨k=2∨k=3:=by omega
        all_goals (simp at this;omega)
      have hm0:=hv.1
      clear hv
      go_wp2
      go_round
      case rel=>exact ⟨k+1,by omega,by go_num,by rw [HS.out,HJ.out]⟩
      case measure=>simp [intOf];omega
    · have hk4:k=4:=by omega
      subst hk4
      rw [HV.out]
      go_wp2
      go_ret2
      exact ⟨rfl,rfl⟩
theorem read_no {w:World} {p g h:Nat} {B:List Int} {T:List Bool} (m:MemAt w p g h B T) (a n:Int) (ha:a≤9223372036854775807) (hw:wholeB T a n=false) :
    Calls Tryz.prog 42 #[.pointer (some ⟨p,0,none⟩),.int .i64 a,.int .i64 n] w fun e w'=>e=.returned (.tuple #[.slice none 0 0,.bool false])∧w=w':=by
  have C:=whole_any m a n ha
  rw [hw] at C
  have C:=Lib.hid C;clear hw m
  go_enter Tryz.func42,Tryz.ntmps42
  go_wp2_with fail
  refine C.out.mono ?_;rintro e w' ⟨rfl,rfl⟩
  go_wp2
  go_ret2
  exact ⟨rfl,rfl⟩
theorem read_yes {w:World} {p g h:Nat} {B:List Int} {T:List Bool} (m:MemAt w p g h B T) (a n:Nat) (hw:wholeB T a n=true) (hfit:a+n≤B.length) :
    Calls Tryz.prog 42 #[.pointer (some ⟨p,0,none⟩),.int .i64 a,.int .i64 n] w fun e w'=>e=.returned (.tuple #[.slice (some ⟨w.heap.size,0,none⟩) n n,.bool true])∧HasB w' w.heap.size 5 (((B.drop a).take n).map (Value.int .u8))∧Below w.heap.size w w':=by
  have ht:=m.top
  have hlen:B.length≤65536:=by have:=m.len;omega
  have C:=whole_any m a n (by omega)
  rw [hw] at C
  have C:=Lib.hid C;clear hw
  have mk:=make_u8 n (by omega) w
  obtain ⟨w1,hw1⟩:∃ w1,w1=w.alloc (.cells (List.replicate n (Value.int .u8 0)).toArray 5):=⟨_,rfl⟩
  rw [← hw1] at mk
  have hb1:Below w.heap.size w w1:=by rw [hw1];exact bel_al (Below.refl _ _) _
  have m1:=m.below hb1
  have hn1:HasB w1 w.heap.size 5 ((List.replicate n (0:Int)).map (Value.int .u8)):=by rw [hw1,List.map_replicate];exact HasB.new _ _ _
  clear hw1
  have c0:=m1.c0
  have hlt:((B.drop a).take n).length=n:=by rw [List.length_take,List.length_drop];omega
  have hR:∃ W,(∀ ty c,(Builtin.copy_ #[39,39] ty #[.slice (some ⟨w.heap.size,0,none⟩) n n,.slice (some ⟨g,if B.length=a then 0 else a,none⟩) (B.length - a) c]).run Tryz.prog w1=.ok (goInt n) W)∧HasB W w.heap.size 5 (((B.drop a).take n).map (Value.int .u8))∧Below w.heap.size w W:=by
    by_cases h0:n=0
    · subst h0
      refine ⟨w1,fun ty c=>run_copy_none (P:=Tryz.prog) w1 _ _ ty 5 _ _ _ _ _ _ Tryz.underlying39 u8_size (by show min _ 0=0;omega),?_,hb1⟩
      simpa using hn1
    · rw [if_neg (by omega)]
      obtain ⟨W,hr,hW,hch⟩:=copy_into hn1 (l:=(B.drop a).take n) (x:=⟨g,a,none⟩) (fun i hi=>by
        rw [hlt] at hi
        rw [addr_add,m1.bc _ (by omega),getD_take' _ _ _ _ hi,getD_drop']) 0 n (B.length - a) n hlt (by show min _ _=_;omega) (by simp)
      rw [splice_all _ _ (by simp;omega)] at hW
      exact ⟨W,fun ty c=>hr ty n c,hW,hch.below hb1 hb1.size (Nat.le_refl _) (Nat.le_refl _)⟩
  clear hlt hn1 m1 m
  obtain ⟨W,hr,hW,hbW⟩:=hR
  have HW:=Lib.hid hW;clear hW
  have HB:=Lib.hid hbW;clear hbW hb1
  generalize B.length=L at *
  by_cases hq:L=a
  · rw [if_pos hq] at hr
    subst hq
    rw [Nat.sub_self] at hr
    clear hfit
    go_enter Tryz.func42,Tryz.ntmps42
    go_wp2_with fail
    refine C.out.mono ?_;rintro e w' ⟨rfl,rfl⟩
    go_wp2
    go_ret2
    exact ⟨rfl,HW.out,HB.out⟩
  · rw [if_neg hq] at hr
    go_enter Tryz.func42,Tryz.ntmps42
    go_wp2_with fail
    refine C.out.mono ?_;rintro e w' ⟨rfl,rfl⟩
    go_wp2
    go_ret2
    exact ⟨rfl,HW.out,HB.out⟩
end Go.Proofs.YteefmjhemhlapaaGreat.Mm
namespace Go.Proofs.YteefmjhemhlapaaGreat.Mm
open Go.ChangeShapes Go.WideShapes Go.ChangeAt Go.RowKit
set_option linter.unusedVariables false
set_option maxRecDepth 10000
def setB (L:Nat) (a n:Int):Bool:=liesB L a n && (decide (a % 64=0) && decide (n % 64=0))
theorem set_cells (b:Nat):∀ (vs:List Value) (o:Nat) (w:World) (cs:List Value) (t:TypeId),HasB w b t cs→o+vs.length≤cs.length→HasB (w.setCells b o vs) b t (splice cs o vs)∧Chg b b w (w.setCells b o vs)
  | [],o,w,cs,t,h,_=>by rw [splice_nil];exact ⟨h,Chg.refl _ _ _⟩
  | v :: r,o,w,cs,t,h,hl=>by
    have h1:HasB (w.setCell ⟨b,o,none⟩ v) b t (cs.set o v):=by
      unfold HasB at h ⊢
      simp [World.setCell,Array.getElem?_modify,h]
    have c1:Chg b b w (w.setCell ⟨b,o,none⟩ v):=⟨rfl,rfl,rfl,by simp,fun k _ hk _=>Below.heap_setCell _ _ _ _ hk⟩
    have:=set_cells b r (o+1) _ _ t h1 (by simp at hl ⊢;omega)
    refine ⟨?_,c1.trans this.2⟩
    have e:splice cs o (v :: r)=splice (cs.set o v) (o+1) r:=by
      have hl':o+(r.length+1)≤cs.length:=by simpa using hl
      unfold splice
      rw [← List.append_assoc,← List.append_assoc]
      have:=list_seg_step cs o v r hl'
      rw [List.length_cons,this]
    rw [e]
    exact this.1
theorem clear_into {w:World} {g:Nat} {B:List Int} (hB:HasB w g 5 (B.map (Value.int .u8))) (a n:Nat) (hn:0 < n) (hfit:a+n≤B.length) :
    ∃ W,(∀ ty c,(Builtin.clear_ #[39] ty #[.slice (some ⟨g,a,none⟩) n c]).run Tryz.prog w=.ok (.tuple #[]) W)∧HasB W g 5 ((splice B a (List.replicate n 0)).map (Value.int .u8))∧Chg g g w W:=by
  have hc:=set_cells g (List.replicate n (Value.int .u8 0)) a w _ _ hB (by simpa using hfit)
  refine ⟨_,fun ty c=>Lib.run_clear_slice (P:=Tryz.prog) w _ 5 ty (.int .u8 0) Tryz.underlying39 (fun w=>by kernel_rfl) rfl rfl g a n c hn (fun j hj=>?_) (fun j hj=>hB.frozen _),?_,hc.2⟩
  · rw [hB.cell]
    simp
    omega
  · rw [← splice_map,List.map_replicate]
    exact hc.1
theorem clear_none (w:World) (A:Option Addr) (c:Nat) (ty:TypeId):(Builtin.clear_ #[39] ty #[.slice A 0 c]).run Tryz.prog w=.ok (.tuple #[]) w:=by
  cases A <;> simp [Builtin.clear_,run_underlying Tryz.underlying39]
def SetRel (W:World) (h:Nat) (T:List Bool) (z n:Nat) (is:Bool) (i:Value) (w':World):Prop:=
  ∃ k:Nat,k≤n∧i=.int .i64 k∧HasB w' h 4 ((splice T z (List.replicate k is)).map Value.bool)∧Chg h h W w'
theorem setRel_step {W wr:World} {h:Nat} {T:List Bool} {z n k:Nat} {is:Bool} (hk:k < n) (hfit:z+n≤T.length) (hB:HasB wr h 4 ((splice T z (List.replicate k is)).map Value.bool)) (hc:Chg h h W wr) :
    SetRel W h T z n is (.int .i64 ((k:Int)+1)) (wr.setCell ⟨h,z+k,none⟩ (.bool is)):=by
  refine ⟨k+1,hk,by simp,?_,hc.trans ⟨rfl,rfl,rfl,by simp,fun j _ hj _=>Below.heap_setCell _ _ _ _ hj⟩⟩
  rw [← splice_snoc _ _ _ _ (by omega),List.map_set]
  unfold HasB at hB ⊢
  simp [World.setCell,Array.getElem?_modify,hB]
theorem set_pos {w:World} {p g h:Nat} {B:List Int} {T:List Bool} (m:MemAt w p g h B T) (a n z k:Nat) (is:Bool) (ha:a=64 * z) (hn:n=64 * k) (hk:0 < k) (hfit:z+k≤T.length) :
    Calls Tryz.prog 53 #[.pointer (some ⟨p,0,none⟩),.int .i64 a,.int .i64 n,.bool is] w fun e w'=>e=.returned (.int .i64 0)∧MemAt w' p g h (splice B a (List.replicate n 0)) (splice T z (List.replicate k is))∧Chg g h w w':=by
  have hlen:=m.len
  have htop:=m.top
  have C:=lies_any m a n (by omega)
  rw [(liesB_iff _ _ _).2 (by omega)] at C
  have C:=Lib.hid C
  obtain ⟨W,hr,hW,hch⟩:=clear_into m.bytes a n (by omega) (by omega)
  have hr':∀ ty c,(Builtin.clear_ #[39] ty #[.slice (some ⟨g,a,none⟩) (a+n - a) c]).run Tryz.prog w=.ok (.tuple #[]) W:=by rw [show a+n - a=n by omega];exact hr
  have c0:=m.c0
  have own:=m.own.chg hch m.pg m.pg
  have zon:=m.zones.chg hch m.gh.symm m.gh.symm
  have c1:=own.cell 1
  simp only [List.getElem?_cons_succ,List.getElem?_cons_zero] at c1
  have M:=Lib.hid m
  have HW:=Lib.hid hW
  have HC:=Lib.hid hch
  have ZN:=Lib.hid zon
  clear hW hch own zon
  have a1:(a:Int) % 64=0:=by omega
  have a2:(n:Int) % 64=0:=by omega
  have a3:(a:Int) / 64=(z:Int):=by omega
  have a4:((a:Int)+(n:Int)) / 64=(z:Int)+(k:Int):=by omega
  have a5:a≤a+n:=by omega
  have a6:a+n≤B.length:=by omega
  have a7:B.length≤65536:=by omega
  have a8:¬ B.length=a:=by omega
  have a9:¬ T.length=z:=by omega
  have HA:=Lib.hid ha
  have HN:=Lib.hid hn
  clear ha hn hlen m
  obtain ⟨L,hL⟩:∃ L,B.length=L:=⟨_,rfl⟩
  obtain ⟨Z,hZ⟩:∃ L,T.length=L:=⟨_,rfl⟩
  rw [hL] at c0 a6 a7 a8
  rw [hZ] at c1 htop hfit a9
  have HL:=Lib.hid hL
  have HZ:=Lib.hid hZ
  clear hL hZ
  go_enter Tryz.func53,Tryz.ntmps53
  go_wp2_with (go_at_call 70;refine C.out.mono ?_;rintro e w' ⟨rfl,rfl⟩)
  rw [show z+k - z=k by omega]
  clear a1 a2 a3 a4 hr hr' c0 c1 C
  go_loopw [48] (fun i w'=>SetRel W h T z k is i w') (fun i _=>k - (intOf i).toNat)
  case atStart=>exact ⟨0,Nat.zero_le _,rfl,by rw [List.replicate_zero,splice_nil];exact ZN.out,Chg.refl _ _ _⟩
  case round=>
    obtain ⟨j,hj,rfl,hB,hc⟩:=hrel
    have HB:=Lib.hid hB
    have HJ:=Lib.hid hc
    by_cases hlt:j < k
    · have hl:(splice T z (List.replicate j is)).length=Z:=by rw [splice_len _ _ _ (by simp [HZ.out];omega),HZ.out]
      obtain ⟨cv,cj⟩:∃ cv,wr.cell? ⟨h,z+j,none⟩=some cv:=⟨_,by rw [hB.cell (z+j),List.getElem?_map,List.getElem?_eq_getElem (by omega),Option.map_some]⟩
      have fj:=hB.frozen (z+j)
      clear hB hc hl
      go_wp2
      go_roundw
      case rel=>exact setRel_step hlt (by rw [HZ.out];exact hfit) HB.out HJ.out
      case measure=>simp [intOf];omega
    · have hjk:j=k:=by omega
      subst hjk
      clear hB hc
      go_wp2
      go_ret
      refine ⟨rfl,⟨?_,?_,HB.out,?_,?_,?_,splice_byte M.out.byte (rep_byte _) _⟩,?_⟩
      · rw [splice_len _ _ _ (by simp [HL.out];omega),splice_len _ _ _ (by simp [HZ.out];omega)]
        exact (M.out.own.chg HC.out M.out.pg M.out.pg).chg HJ.out M.out.ph M.out.ph
      · exact HW.out.chg HJ.out M.out.gh M.out.gh
      · rw [splice_len _ _ _ (by simp [HL.out];omega),splice_len _ _ _ (by simp [HZ.out];omega)]
        exact M.out.len
      · rw [splice_len _ _ _ (by simp [HZ.out];omega)]
        exact M.out.pos
      · rw [splice_len _ _ _ (by simp [HZ.out];omega)]
        exact M.out.top
      · exact ⟨HJ.out.os.trans HC.out.os,HJ.out.tape.trans HC.out.tape,HJ.out.output.trans HC.out.output,Nat.le_trans HC.out.size HJ.out.size,fun q hq h1 h2=>(HJ.out.block q (Nat.lt_of_lt_of_le hq HC.out.size) h2 h2).trans (HC.out.block q hq h1 h1)⟩
theorem set_zero {w:World} {p g h:Nat} {B:List Int} {T:List Bool} (m:MemAt w p g h B T) (a z:Nat) (is:Bool) (ha:a=64 * z) (hfit:z≤T.length) :
    Calls Tryz.prog 53 #[.pointer (some ⟨p,0,none⟩),.int .i64 a,.int .i64 0,.bool is] w fun e w'=>e=.returned (.int .i64 0)∧w=w':=by
  have hlen:=m.len
  have htop:=m.top
  have C:=lies_any m a 0 (by omega)
  rw [(liesB_iff _ _ _).2 (by omega)] at C
  have C:=Lib.hid C
  have c0:=m.c0
  have c1:=m.c1
  have a1:(a:Int) % 64=0:=by omega
  have a3:(a:Int) / 64=(z:Int):=by omega
  have a6:a≤B.length:=by omega
  have a7:B.length≤65536:=by omega
  have a8:B.length=a↔T.length=z:=by omega
  have A8:=Lib.hid a8
  clear ha hlen m a8
  have hr:=clear_none w
  generalize B.length=L at *
  generalize T.length=Z at *
  by_cases hz:Z=z
  · obtain rfl:=A8.out.2 hz
    subst hz
    go_enter Tryz.func53,Tryz.ntmps53
    go_wp2_with (go_at_call 70;refine C.out.mono ?_;rintro e w' ⟨rfl,rfl⟩)
    go_loop [48] (fun i=>i=.int .i64 0) (fun _=>0)
    case atStart=>rfl
    case round=>
      subst hrel
      go_wp2
      go_ret
      exact ⟨rfl,rfl⟩
  · have hz':¬ L=a:=fun e=>hz (A8.out.1 e)
    go_enter Tryz.func53,Tryz.ntmps53
    go_wp2_with (go_at_call 70;refine C.out.mono ?_;rintro e w' ⟨rfl,rfl⟩)
    go_loop [48] (fun i=>i=.int .i64 0) (fun _=>0)
    case atStart=>rfl
    case round=>
      subst hrel
      go_wp2
      go_ret
      exact ⟨rfl,rfl⟩
theorem setB_iff (L:Nat) (a n:Int):setB L a n=true↔(0≤a∧0≤n∧n≤(L:Int) - a)∧a % 64=0∧n % 64=0:=by
  unfold setB
  rw [Bool.and_eq_true,Bool.and_eq_true,liesB_iff,decide_eq_true_iff,decide_eq_true_iff]
theorem set_any {w:World} {p g h:Nat} {B:List Int} {T:List Bool} (m:MemAt w p g h B T) (a n:Int) (is:Bool) (hs:setB B.length a n=true) :
    Calls Tryz.prog 53 #[.pointer (some ⟨p,0,none⟩),.int .i64 a,.int .i64 n,.bool is] w fun e w'=>e=.returned (.int .i64 0)∧MemAt w' p g h (splice B a.toNat (List.replicate n.toNat 0)) (splice T (a / 64).toNat (List.replicate (n / 64).toNat is))∧Chg g h w w':=by
  obtain ⟨⟨h1,h2,h3⟩,h4,h5⟩:=(setB_iff _ _ _).1 hs
  obtain ⟨b,rfl⟩:∃ k:Nat,a=k:=⟨a.toNat,by omega⟩
  obtain ⟨k,rfl⟩:∃ k:Nat,n=k:=⟨n.toNat,by omega⟩
  have hl:=m.len
  rw [Int.toNat_natCast,Int.toNat_natCast,show ((b:Int) / 64).toNat=b / 64 by omega,show ((k:Int) / 64).toNat=k / 64 by omega]
  by_cases h0:k=0
  · subst h0
    refine (set_zero m b (b / 64) is (by omega) (by omega)).mono ?_
    rintro e w' ⟨rfl,rfl⟩
    refine ⟨rfl,?_,Chg.refl _ _ _⟩
    simpa [splice_nil] using m
  · exact set_pos m b k (b / 64) (k / 64) is (by omega) (by omega) (by omega) (by omega)
end Go.Proofs.YteefmjhemhlapaaGreat.Mm
namespace Go.Proofs.YteefmjhemhlapaaGreat.Mm
open Go.ChangeShapes Go.WideShapes Go.ChangeAt Go.RowKit
set_option linter.unusedVariables false
set_option maxRecDepth 10000
theorem new_i (n:Int) (z:Nat) (hn:n=64 * z) (h1:1≤z) (h2:z≤1024) (w:World):Calls Tryz.prog 21 #[.int .i64 n] w (Made w z):=by
  obtain ⟨k,rfl⟩:∃ k:Nat,n=k:=⟨n.toNat,by omega⟩
  exact new_yes k z (by omega) h1 h2 w
theorem get_i {w:World} {p g h:Nat} {B:List Int} {T:List Bool} (m:MemAt w p g h B T) (a:Int) (hw:wholeB T a 4=true) :
    Calls Tryz.prog 117 #[.pointer (some ⟨p,0,none⟩),.int .u32 a] w fun e w'=>e=.returned (.tuple #[.int .u32 (v4 B a.toNat),.bool true])∧w=w':=by
  obtain ⟨h0,h1,h2⟩:=whole_lies hw
  have:=m.len
  obtain ⟨k,rfl⟩:∃ k:Nat,a=k:=⟨a.toNat,by omega⟩
  exact get_yes m k hw (by omega)
theorem read_i {w:World} {p g h:Nat} {B:List Int} {T:List Bool} (m:MemAt w p g h B T) (a n:Int) (hw:wholeB T a n=true) :
    Calls Tryz.prog 42 #[.pointer (some ⟨p,0,none⟩),.int .i64 a,.int .i64 n] w fun e w'=>e=.returned (.tuple #[.slice (some ⟨w.heap.size,0,none⟩) n.toNat n.toNat,.bool true])∧HasB w' w.heap.size 5 (((B.drop a.toNat).take n.toNat).map (Value.int .u8))∧Below w.heap.size w w':=by
  obtain ⟨h0,h1,h2⟩:=whole_lies hw
  have:=m.len
  obtain ⟨k,rfl⟩:∃ k:Nat,a=k:=⟨a.toNat,by omega⟩
  obtain ⟨j,rfl⟩:∃ k:Nat,n=k:=⟨n.toNat,by omega⟩
  exact read_yes m k j hw (by omega)
structure MSt (w0:World) (p g h:Nat) (B:List Int) (T:List Bool) (w:World):Prop where
  at_:MemAt w p g h B T
  p_:w0.heap.size≤p
  g_:w0.heap.size≤g
  h_:w0.heap.size≤h
  bel:Below w0.heap.size w0 w
section
variable {w0 w w':World} {p g h:Nat} {B B':List Int} {T T':List Bool}
theorem Chg.wide (c:Chg g g w w'):Chg g h w w':=⟨c.os,c.tape,c.output,c.size,fun k hk h1 _=>c.block k hk h1 h1⟩
end
theorem new_m (w0:World) (n:Int) (z:Nat) (hn:n=64 * z) (h1:1≤z) (h2:z≤1024) {w:World} (hb:Below w0.heap.size w0 w) :
    Calls Tryz.prog 21 #[.int .i64 n] w fun e w'=>∃ p g h,e=.returned (.tuple #[.pointer (some ⟨p,0,none⟩),.int .i64 0])∧(MSt w0 p g h (List.replicate (64 * z) 0) (List.replicate z false) w'∧w.heap.size≤p∧w.heap.size≤g∧w.heap.size≤h∧Below w.heap.size w w'):=
  (new_i n z hn h1 h2 w).mono fun e w' ⟨p,g,h,he,m,lp,lg,lh,b⟩=>⟨p,g,h,he,⟨m,Nat.le_trans hb.size lp,Nat.le_trans hb.size lg,Nat.le_trans hb.size lh,bel_then hb b⟩,lp,lg,lh,b⟩
end Go.Proofs.YteefmjhemhlapaaGreat.Mm
