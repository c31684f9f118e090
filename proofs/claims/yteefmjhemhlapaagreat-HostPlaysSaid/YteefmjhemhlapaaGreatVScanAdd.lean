/- The two appends of scan.read, in whatever order their parts come. -/
import Derived.Test.YteefmjhemhlapaaGreatVScA
namespace Go.Proofs.YteefmjhemhlapaaGreat.Mm
open Go.ChangeShapes Go.WideShapes Go.ChangeAt Go.RowKit
set_option linter.unusedVariables false
set_option maxRecDepth 10000
theorem one_new (w:World) (v:Value) (T:TypeId):(w.alloc (.cells #[v] T)).cell? ⟨w.heap.size,0,none⟩=some v:=(Boxed.new w T v).cell
theorem one_new1 (w:World) (v:Value) (T:TypeId) (o:Obj):((w.alloc (.cells #[v] T)).alloc o).cell? ⟨w.heap.size,0,none⟩=some v:=((Boxed.new w T v).alloc o).cell
theorem one_new2 (w:World) (v:Value) (T:TypeId) (o:Obj):((w.alloc o).alloc (.cells #[v] T)).cell? ⟨w.heap.size+1,0,none⟩=some v:=by
  have:=(Boxed.new (w.alloc o) T v).cell
  rwa [World.size_alloc] at this
theorem ins4_new1 (w:World) (o:Obj) (y:InsV):Ins4 ((w.alloc o).alloc (.cells #[.int .i64 y.op,.int .i64 y.a,.int .i64 y.b,.int .u32 y.imm] 134)) (w.heap.size+1) y:=by
  have:=Ins4.new (w.alloc o) y
  rwa [World.size_alloc] at this
theorem Ins4.drew {W:World} {g:Nat} {y:InsV} (h:Ins4 W g y):Ins4 W.drew g y:=h
theorem Ins4.alloc {W:World} {g:Nat} {y:InsV} (h:Ins4 W g y) (o:Obj):Ins4 (W.alloc o) g y:=h.below ((Below.refl _ W).alloc (Nat.le_refl _) o)
theorem rg_s {s n1 n2 g:Nat} {cv u1 u2 v1 v2:Value} {A:List Int} {B:List InsV} {W:World} {y:InsV} (h:RdT s cv u1 u2 v1 v2 n1 n2 A B W) (x:Ins4 W g y) :
    (W.cell? ⟨s+3,0,none⟩=some u1∧W.cell? ⟨s+4,0,none⟩=some u2)∧W.cell? ⟨g,0,none⟩=some (.int .i64 y.op)∧W.cell? ⟨g,1,none⟩=some (.int .i64 y.a)∧W.cell? ⟨g,2,none⟩=some (.int .i64 y.b)∧W.cell? ⟨g,3,none⟩=some (.int .u32 y.imm):=
  ⟨⟨h.b1.cell,h.b2.cell⟩,x.hasB.cell 0,x.hasB.cell 1,x.hasB.cell 2,x.hasB.cell 3⟩
theorem app_int_op {w:World} {o:Oper} {a:Act} {K:Act→World→Prop} {Q:Exit→Act→World→Prop} (s x:Operand)
    (ho:o.op=.call { callee:=.builtin .append,args:=#[s,x],argTypes:=#[128,128] })
    (base:Nat) (v:Value) (n:Nat) (L:List Int) (hs:a.eval s=v) (hown:w.ownsRow base 3 1 v n (L.map (Value.int .i64)))
    (g c:Nat) (y:Int) (hx:a.eval x=.slice (some ⟨g,0,none⟩) 1 c) (hT:w.cell? ⟨g,0,none⟩=some (.int .i64 y)) (hlen:n≤100000) (hbase:base≤w.heap.size)
    (h:∀ v' w',w'.ownsRow base 3 1 v' (n+1) ((L ++ [y]).map (Value.int .i64))→w.grownBy w' v.ownBlock→K (a.put o.dst v') w'):o.wp Tryz.prog a w K Q:=by
  obtain ⟨u0,hu0,hz0,hz1,hz2⟩:=info_parts int_info
  refine wp_append_own w s x 128 ho base 3 u0 _ 1 8 Tryz.underlying128 hu0 hz0 hz1 hz2 rfl (by decide) v n (L.map (Value.int .i64)) hs hown ⟨g,0,none⟩ 1 c [.int .i64 y] hx rfl
    (fun j u hj=>?_) (by intro u hu;simp at hu;subst hu;rfl) (by unfold maxLen;omega) (by omega) hbase ?_
  · match j,hj with
    | 0,hj=>simp at hj;subst hj;simpa [Addr.add] using hT
    | j+1,hj=>simp at hj
  · intro v' w' hown' hg _
    exact h v' w' (by simpa using hown') hg
set_option maxRecDepth 100000 in
set_option maxHeartbeats 2000000 in
theorem region_add {l m:Nat} {Q:Exit→Act→World→Prop} (s g n b k:Nat) (cv u1 u2:Value) (A:List Int) (B:List InsV) (y:InsV) (t0 t1 t2 t3 t4 t8 t11 t12 t13 t14 t15 t16 t17 t18 t19 t20 t21 t22 t23 t24 t25 t26 t27 t28 t29 t30 t31 t32 t33 t34 t35 t36 t37 t38 t39 t40 t41 t42 t43 t44 t45 t46:Value) (W:World)
    (ht:RdT s cv u1 u2 u1 u2 n n A B W) (hx:Ins4 W g y) (hy:y.Wf) (hW:∀ x∈B,x.Wf) (hn:n≤100000) (hw:IntKind.i64.wrap ((b:Int)+(k:Int))=(b:Int)+(k:Int))
    (h:∀ (y32 y33 y34 y35 y36 y37 y38 y39 y40 y41:Value) (A1:Option Addr) (c1:Nat) (A2:Option Addr) (c2:Nat) (W':World),RdT s cv (.slice A1 (n+1) c1) (.slice A2 (n+1) c2) (.slice A1 (n+1) c1) (.slice A2 (n+1) c2) (n+1) (n+1) (A ++ [(b:Int)+(k:Int)]) (B ++ [y]) W'→Below s W W'→KeepsOthers W W' →
      Q .normal { tmps:=#[t0,t1,t2,t3,t4,.pointer (some ⟨s+3,0,none⟩),.pointer (some ⟨s+4,0,none⟩),.int .i64 (b:Int),t8,.int .i64 (k:Int),.pointer (some ⟨g,0,none⟩),t11,t12,t13,t14,t15,t16,t17,t18,t19,t20,t21,t22,t23,t24,t25,t26,t27,t28,t29,t30,t31,y32,y33,y34,y35,y36,y37,y38,y39,y40,y41,t42,t43,t44,t45,t46],defers:=[] } W') :
    (Code.region 13 #[{ dst:=some 32,op:=Op.load 128 (Operand.tmp 5),type:=128,pos:= "scan.go:52",after:=#[],guard:=none },{ dst:=some 33,op:=Op.move (Operand.tmp 7),type:=3,pos:= "scan.go:52",after:=#[],guard:=none },{ dst:=some 34,op:=Op.move (Operand.tmp 9),type:=3,pos:= "scan.go:52",after:=#[],guard:=none },{ dst:=some 35,op:=Op.binOp BinOp.add 3 (Operand.tmp 33) (Operand.tmp 34) 3,type:=3,pos:= "scan.go:52",after:=#[{ on:=1,ground:=Ground.data },{ on:=2,ground:=Ground.data }],guard:=none },{ dst:=some 36,op:=Op.buildSlice 128 1 #[(0,Operand.tmp 35)],type:=128,pos:= "scan.go:52",after:=#[{ on:=3,ground:=Ground.data }],guard:=none },{ dst:=some 37,op:=Op.call { callee:=Callee.builtin Builtin.append,args:=#[Operand.tmp 32,Operand.tmp 36],argTypes:=#[128,128] },type:=128,pos:= "scan.go:52",after:=#[{ on:=0,ground:=Ground.data },{ on:=4,ground:=Ground.data }],guard:=none },{ dst:=some 38,op:=Op.load 129 (Operand.tmp 6),type:=129,pos:= "scan.go:52",after:=#[],guard:=none },{ dst:=some 39,op:=Op.load 134 (Operand.tmp 10),type:=134,pos:= "scan.go:52",after:=#[],guard:=none },{ dst:=some 40,op:=Op.buildSlice 129 1 #[(0,Operand.tmp 39)],type:=129,pos:= "scan.go:52",after:=#[{ on:=7,ground:=Ground.data }],guard:=none },{ dst:=some 41,op:=Op.call { callee:=Callee.builtin Builtin.append,args:=#[Operand.tmp 38,Operand.tmp 40],argTypes:=#[129,129] },type:=129,pos:= "scan.go:52",after:=#[{ on:=6,ground:=Ground.data },{ on:=8,ground:=Ground.data },{ on:=5,ground:=Ground.chain }],guard:=none },{ dst:=none,op:=Op.store 128 (Operand.tmp 5) (Operand.tmp 37),type:=0,pos:= "scan.go:52",after:=#[{ on:=5,ground:=Ground.data },{ on:=9,ground:=Ground.chain },{ on:=0,ground:=Ground.phase },{ on:=1,ground:=Ground.phase },{ on:=2,ground:=Ground.phase },{ on:=3,ground:=Ground.phase },{ on:=4,ground:=Ground.phase },{ on:=5,ground:=Ground.phase },{ on:=6,ground:=Ground.textOnly Departure.inlinedCapture },{ on:=7,ground:=Ground.textOnly Departure.lateStores },{ on:=8,ground:=Ground.textOnly Departure.inlinedCapture },{ on:=9,ground:=Ground.textOnly Departure.lateStoresUnsure }],guard:=none },{ dst:=none,op:=Op.store 129 (Operand.tmp 6) (Operand.tmp 41),type:=0,pos:= "scan.go:52",after:=#[{ on:=9,ground:=Ground.data },{ on:=10,ground:=Ground.chain },{ on:=0,ground:=Ground.phase },{ on:=1,ground:=Ground.phase },{ on:=2,ground:=Ground.phase },{ on:=3,ground:=Ground.phase },{ on:=4,ground:=Ground.phase },{ on:=5,ground:=Ground.phase },{ on:=6,ground:=Ground.phase },{ on:=7,ground:=Ground.phase },{ on:=8,ground:=Ground.phase },{ on:=9,ground:=Ground.phase },{ on:=10,ground:=Ground.phase }],guard:=none }] true).wpIn (Fence.wide.inRound l) m Tryz.prog Q { tmps:=#[t0,t1,t2,t3,t4,.pointer (some ⟨s+3,0,none⟩),.pointer (some ⟨s+4,0,none⟩),.int .i64 (b:Int),t8,.int .i64 (k:Int),.pointer (some ⟨g,0,none⟩),t11,t12,t13,t14,t15,t16,t17,t18,t19,t20,t21,t22,t23,t24,t25,t26,t27,t28,t29,t30,t31,t32,t33,t34,t35,t36,t37,t38,t39,t40,t41,t42,t43,t44,t45,t46],defers:=[] } W:=by
  have T0:=Lib.hid ht
  have X0:=Lib.hid hx
  clear ht hx
  refine region_T (n:=9) (S:=(fun w'=>(w'.cell? ⟨s+3,0,none⟩=some u1∧w'.cell? ⟨s+4,0,none⟩=some u2)∧w'.cell? ⟨g,0,none⟩=some (.int .i64 y.op)∧w'.cell? ⟨g,1,none⟩=some (.int .i64 y.a)∧w'.cell? ⟨g,2,none⟩=some (.int .i64 y.b)∧w'.cell? ⟨g,3,none⟩=some (.int .u32 y.imm))) (by kernel_rfl) (by kernel_rfl) 3 rfl ?_ (fun hHeld=>?_)
  · (try dsimp only)
    exact rg_s (T0.out.drew) (X0.out.drew)
  refine T_take (i:=0) (oi:={ dst:=some 32,op:=Op.load 128 (Operand.tmp 5),type:=128,pos:= "scan.go:52",after:=#[],guard:=none }) (v:=?_) rfl (by kernel_rfl) (by kernel_rfl) (by kernel_rfl) (by kernel_rfl) (by kernel_rfl) OnlyN.hQ (Or.inl ⟨by rfl,?_⟩) (by assumption) ?_
  rotate_left
  · intro w hSw;(try dsimp only at hSw);go_simp <;> (with_reducible rfl)
  (try simp only [Act.put,lsA,lsZ,lsS])
  refine T_take (i:=1) (oi:={ dst:=some 33,op:=Op.move (Operand.tmp 7),type:=3,pos:= "scan.go:52",after:=#[],guard:=none }) (v:=?_) rfl (by kernel_rfl) (by kernel_rfl) (by kernel_rfl) (by kernel_rfl) (by kernel_rfl) OnlyN.hQ (Or.inl ⟨by rfl,?_⟩) (by assumption) ?_
  rotate_left
  · intro w hSw;(try dsimp only at hSw);go_simp <;> (with_reducible rfl)
  (try simp only [Act.put,lsA,lsZ,lsS])
  refine T_take (i:=2) (oi:={ dst:=some 34,op:=Op.move (Operand.tmp 9),type:=3,pos:= "scan.go:52",after:=#[],guard:=none }) (v:=?_) rfl (by kernel_rfl) (by kernel_rfl) (by kernel_rfl) (by kernel_rfl) (by kernel_rfl) OnlyN.hQ (Or.inl ⟨by rfl,?_⟩) (by assumption) ?_
  rotate_left
  · intro w hSw;(try dsimp only at hSw);go_simp <;> (with_reducible rfl)
  (try simp only [Act.put,lsA,lsZ,lsS])
  refine T_take (i:=3) (oi:={ dst:=some 35,op:=Op.binOp BinOp.add 3 (Operand.tmp 33) (Operand.tmp 34) 3,type:=3,pos:= "scan.go:52",after:=#[{ on:=1,ground:=Ground.data },{ on:=2,ground:=Ground.data }],guard:=none }) (v:=?_) rfl (by kernel_rfl) (by kernel_rfl) (by kernel_rfl) (by kernel_rfl) (by kernel_rfl) OnlyN.hQ (Or.inl ⟨by rfl,?_⟩) (by assumption) ?_
  rotate_left
  · intro w hSw;(try dsimp only at hSw);go_simp <;> (with_reducible rfl)
  (try simp only [Act.put,lsA,lsZ,lsS])
  refine T_take (i:=6) (oi:={ dst:=some 38,op:=Op.load 129 (Operand.tmp 6),type:=129,pos:= "scan.go:52",after:=#[],guard:=none }) (v:=?_) rfl (by kernel_rfl) (by kernel_rfl) (by kernel_rfl) (by kernel_rfl) (by kernel_rfl) OnlyN.hQ (Or.inl ⟨by rfl,?_⟩) (by assumption) ?_
  rotate_left
  · intro w hSw;(try dsimp only at hSw);go_simp <;> (with_reducible rfl)
  (try simp only [Act.put,lsA,lsZ,lsS])
  refine T_take (i:=7) (oi:={ dst:=some 39,op:=Op.load 134 (Operand.tmp 10),type:=134,pos:= "scan.go:52",after:=#[],guard:=none }) (v:=?_) rfl (by kernel_rfl) (by kernel_rfl) (by kernel_rfl) (by kernel_rfl) (by kernel_rfl) OnlyN.hQ (Or.inl ⟨by rfl,?_⟩) (by assumption) ?_
  rotate_left
  · intro w hSw;(try dsimp only at hSw);go_simp <;> (with_reducible rfl)
  (try simp only [Act.put,lsA,lsZ,lsS])
  refine T_ready (rs:=[4,8]) (by kernel_rfl) (by simp) (by kernel_rfl) ?_
  refine AllT.cons (o:={ dst:=some 36,op:=Op.buildSlice 128 1 #[(0,Operand.tmp 35)],type:=128,pos:= "scan.go:52",after:=#[{ on:=3,ground:=Ground.data }],guard:=none }) rfl (fun K hK=>?_) ?_
  · go_simp
    refine hK.out _ _ ?_ (fun hHeld=>?_)
    · (try dsimp only)
      exact rg_s ((T0.out.drew).alloc _) ((X0.out.drew).alloc _)
    clear hK K
    (try simp only [Act.put,lsA,lsZ,lsS])
    refine T_ready (rs:=[5,8]) (by kernel_rfl) (by simp) (by kernel_rfl) ?_
    refine AllT.cons (o:={ dst:=some 37,op:=Op.call { callee:=Callee.builtin Builtin.append,args:=#[Operand.tmp 32,Operand.tmp 36],argTypes:=#[128,128] },type:=128,pos:= "scan.go:52",after:=#[{ on:=0,ground:=Ground.data },{ on:=4,ground:=Ground.data }],guard:=none }) rfl (fun K hK=>?_) ?_
    · rw [if_pos (by rfl)]
      refine app_int_op (.tmp 32) (.tmp 36) rfl s u1 n A rfl ((T0.out.drew).alloc _).o1 (W.heap.size) 1 _ rfl (one_new _ _ _) (by omega) (by have:=T0.out.size;simp;omega) ?_
      intro v1' w2 own2 grown2
      have T2:=Lib.hid (((T0.out.drew).alloc _).app1 grown2 own2)
      have X2:=Lib.hid (((X0.out.drew).alloc _).app ((T0.out.drew).alloc _).o1 grown2)
      have B2:=Lib.hid (below_of_own ((T0.out.drew).alloc _).o1 (by have:=T0.out.size;simp;omega) grown2)
      have K2:=Lib.hid (keeps_app ((T0.out.drew).alloc _).o1 grown2)
      refine hK.out _ _ ?_ (fun hHeld=>?_)
      · (try dsimp only)
        exact rg_s T2.out X2.out
      clear hK K
      (try simp only [Act.put,lsA,lsZ,lsS])
      refine T_ready (rs:=[8]) (by kernel_rfl) (by simp) (by kernel_rfl) ?_
      refine AllT.cons (o:={ dst:=some 40,op:=Op.buildSlice 129 1 #[(0,Operand.tmp 39)],type:=129,pos:= "scan.go:52",after:=#[{ on:=7,ground:=Ground.data }],guard:=none }) rfl (fun K hK=>?_) ?_
      · go_simp
        refine hK.out _ _ ?_ (fun hHeld=>?_)
        · (try dsimp only)
          exact rg_s (T2.out.alloc _) (X2.out.alloc _)
        clear hK K
        (try simp only [Act.put,lsA,lsZ,lsS])
        refine T_tail (n:=9) (tl:=[{ dst:=some 41,op:=Op.call { callee:=Callee.builtin Builtin.append,args:=#[Operand.tmp 38,Operand.tmp 40],argTypes:=#[129,129] },type:=129,pos:= "scan.go:52",after:=#[{ on:=6,ground:=Ground.data },{ on:=8,ground:=Ground.data },{ on:=5,ground:=Ground.chain }],guard:=none },{ dst:=none,op:=Op.store 128 (Operand.tmp 5) (Operand.tmp 37),type:=0,pos:= "scan.go:52",after:=#[{ on:=5,ground:=Ground.data },{ on:=9,ground:=Ground.chain },{ on:=0,ground:=Ground.phase },{ on:=1,ground:=Ground.phase },{ on:=2,ground:=Ground.phase },{ on:=3,ground:=Ground.phase },{ on:=4,ground:=Ground.phase },{ on:=5,ground:=Ground.phase },{ on:=6,ground:=Ground.textOnly Departure.inlinedCapture },{ on:=7,ground:=Ground.textOnly Departure.lateStores },{ on:=8,ground:=Ground.textOnly Departure.inlinedCapture },{ on:=9,ground:=Ground.textOnly Departure.lateStoresUnsure }],guard:=none },{ dst:=none,op:=Op.store 129 (Operand.tmp 6) (Operand.tmp 41),type:=0,pos:= "scan.go:52",after:=#[{ on:=9,ground:=Ground.data },{ on:=10,ground:=Ground.chain },{ on:=0,ground:=Ground.phase },{ on:=1,ground:=Ground.phase },{ on:=2,ground:=Ground.phase },{ on:=3,ground:=Ground.phase },{ on:=4,ground:=Ground.phase },{ on:=5,ground:=Ground.phase },{ on:=6,ground:=Ground.phase },{ on:=7,ground:=Ground.phase },{ on:=8,ground:=Ground.phase },{ on:=9,ground:=Ground.phase },{ on:=10,ground:=Ground.phase }],guard:=none }]) rfl (by kernel_rfl) ?_
        obtain ⟨g1,c1,rfl⟩:=ownsRow_succ T2.out.o1
        have TT:=Lib.hid (T2.out.alloc (.cells #[.int .i64 y.op,.int .i64 y.a,.int .i64 y.b,.int .u32 y.imm] 134))
        refine append_ins rfl (.tmp 38) (.tmp 40) rfl s u2 n B rfl TT.out.o2 hW (w2.heap.size) 1 y rfl ((Ins4.new w2 y)).at hy (n+1) rfl hn (by have:=TT.out.size;omega) ?_
        intro A' cap' w5 own5 grown5 row5 bel5
        have T5:=Lib.hid (TT.out.app2 grown5 own5)
        have B5:Hid (Below s W w5):=Lib.hid (((((Below.refl s W).drew.alloc (by have:=T0.out.size;simp;omega) _).trans B2.out).alloc (by have:=T2.out.size;omega) _).trans bel5)
        have K5:Hid (KeepsOthers W w5):=Lib.hid (((((keeps_below (Below.refl W.heap.size W).drew).trans (KeepsOthers.alloc _ _)).trans K2.out).trans (KeepsOthers.alloc _ _)).trans (keeps_app TT.out.o2 grown5))
        clear bel5 row5 own5 grown5
        have c5:=T5.out.b1.cell
        have f5:=T5.out.b1.frozen
        have c6:=(T5.out.put1 (.slice (some ⟨g1,0,none⟩) (n+1) c1)).b2.cell
        have f6:=(T5.out.put1 (.slice (some ⟨g1,0,none⟩) (n+1) c1)).b2.frozen
        go_wp2
        refine OnlyN.normal (h _ _ _ _ _ _ _ _ _ _ (some ⟨g1,0,none⟩) c1 A' cap' _ ?_ ?_ ?_)
        · exact (T5.out.put1 _).put2 _
        · exact (B5.out.setCell (p:=⟨s+3,0,none⟩) (Nat.le_add_right s 3) _).setCell (p:=⟨s+4,0,none⟩) (Nat.le_add_right s 4) _
        · exact (K5.out.trans (KeepsOthers.setCell _ _ _)).trans (KeepsOthers.setCell _ _ _)
      exact AllT.nil
    refine AllT.cons (o:={ dst:=some 40,op:=Op.buildSlice 129 1 #[(0,Operand.tmp 39)],type:=129,pos:= "scan.go:52",after:=#[{ on:=7,ground:=Ground.data }],guard:=none }) rfl (fun K hK=>?_) ?_
    · go_simp
      refine hK.out _ _ ?_ (fun hHeld=>?_)
      · (try dsimp only)
        exact rg_s (((T0.out.drew).alloc _).alloc _) (((X0.out.drew).alloc _).alloc _)
      clear hK K
      (try simp only [Act.put,lsA,lsZ,lsS])
      refine T_ready (rs:=[5]) (by kernel_rfl) (by simp) (by kernel_rfl) ?_
      refine AllT.cons (o:={ dst:=some 37,op:=Op.call { callee:=Callee.builtin Builtin.append,args:=#[Operand.tmp 32,Operand.tmp 36],argTypes:=#[128,128] },type:=128,pos:= "scan.go:52",after:=#[{ on:=0,ground:=Ground.data },{ on:=4,ground:=Ground.data }],guard:=none }) rfl (fun K hK=>?_) ?_
      · rw [if_pos (by rfl)]
        refine app_int_op (.tmp 32) (.tmp 36) rfl s u1 n A rfl (((T0.out.drew).alloc _).alloc _).o1 (W.heap.size) 1 _ rfl (one_new1 _ _ _ _) (by omega) (by have:=T0.out.size;simp;omega) ?_
        intro v1' w2 own2 grown2
        have T2:=Lib.hid ((((T0.out.drew).alloc _).alloc _).app1 grown2 own2)
        have X2:=Lib.hid ((((X0.out.drew).alloc _).alloc _).app (((T0.out.drew).alloc _).alloc _).o1 grown2)
        have B2:=Lib.hid (below_of_own (((T0.out.drew).alloc _).alloc _).o1 (by have:=T0.out.size;simp;omega) grown2)
        have K2:=Lib.hid (keeps_app (((T0.out.drew).alloc _).alloc _).o1 grown2)
        refine hK.out _ _ ?_ (fun hHeld=>?_)
        · (try dsimp only)
          exact rg_s T2.out X2.out
        clear hK K
        (try simp only [Act.put,lsA,lsZ,lsS])
        refine T_tail (n:=9) (tl:=[{ dst:=some 41,op:=Op.call { callee:=Callee.builtin Builtin.append,args:=#[Operand.tmp 38,Operand.tmp 40],argTypes:=#[129,129] },type:=129,pos:= "scan.go:52",after:=#[{ on:=6,ground:=Ground.data },{ on:=8,ground:=Ground.data },{ on:=5,ground:=Ground.chain }],guard:=none },{ dst:=none,op:=Op.store 128 (Operand.tmp 5) (Operand.tmp 37),type:=0,pos:= "scan.go:52",after:=#[{ on:=5,ground:=Ground.data },{ on:=9,ground:=Ground.chain },{ on:=0,ground:=Ground.phase },{ on:=1,ground:=Ground.phase },{ on:=2,ground:=Ground.phase },{ on:=3,ground:=Ground.phase },{ on:=4,ground:=Ground.phase },{ on:=5,ground:=Ground.phase },{ on:=6,ground:=Ground.textOnly Departure.inlinedCapture },{ on:=7,ground:=Ground.textOnly Departure.lateStores },{ on:=8,ground:=Ground.textOnly Departure.inlinedCapture },{ on:=9,ground:=Ground.textOnly Departure.lateStoresUnsure }],guard:=none },{ dst:=none,op:=Op.store 129 (Operand.tmp 6) (Operand.tmp 41),type:=0,pos:= "scan.go:52",after:=#[{ on:=9,ground:=Ground.data },{ on:=10,ground:=Ground.chain },{ on:=0,ground:=Ground.phase },{ on:=1,ground:=Ground.phase },{ on:=2,ground:=Ground.phase },{ on:=3,ground:=Ground.phase },{ on:=4,ground:=Ground.phase },{ on:=5,ground:=Ground.phase },{ on:=6,ground:=Ground.phase },{ on:=7,ground:=Ground.phase },{ on:=8,ground:=Ground.phase },{ on:=9,ground:=Ground.phase },{ on:=10,ground:=Ground.phase }],guard:=none }]) rfl (by kernel_rfl) ?_
        obtain ⟨g1,c1,rfl⟩:=ownsRow_succ T2.out.o1
        have TT:=Lib.hid T2.out
        refine append_ins rfl (.tmp 38) (.tmp 40) rfl s u2 n B rfl TT.out.o2 hW (W.heap.size+1) 1 y rfl (((ins4_new1 _ _ _).app (T0.out.drew.alloc _ |>.alloc _).o1 grown2)).at hy (n+1) rfl hn (by have:=TT.out.size;omega) ?_
        intro A' cap' w5 own5 grown5 row5 bel5
        have T5:=Lib.hid (TT.out.app2 grown5 own5)
        have B5:Hid (Below s W w5):=Lib.hid (((((Below.refl s W).drew.alloc (by have:=T0.out.size;simp;omega) _).alloc (by have:=T0.out.size;simp;omega) _).trans B2.out).trans bel5)
        have K5:Hid (KeepsOthers W w5):=Lib.hid (((((keeps_below (Below.refl W.heap.size W).drew).trans (KeepsOthers.alloc _ _)).trans (KeepsOthers.alloc _ _)).trans K2.out).trans (keeps_app TT.out.o2 grown5))
        clear bel5 row5 own5 grown5
        have c5:=T5.out.b1.cell
        have f5:=T5.out.b1.frozen
        have c6:=(T5.out.put1 (.slice (some ⟨g1,0,none⟩) (n+1) c1)).b2.cell
        have f6:=(T5.out.put1 (.slice (some ⟨g1,0,none⟩) (n+1) c1)).b2.frozen
        go_wp2
        refine OnlyN.normal (h _ _ _ _ _ _ _ _ _ _ (some ⟨g1,0,none⟩) c1 A' cap' _ ?_ ?_ ?_)
        · exact (T5.out.put1 _).put2 _
        · exact (B5.out.setCell (p:=⟨s+3,0,none⟩) (Nat.le_add_right s 3) _).setCell (p:=⟨s+4,0,none⟩) (Nat.le_add_right s 4) _
        · exact (K5.out.trans (KeepsOthers.setCell _ _ _)).trans (KeepsOthers.setCell _ _ _)
      exact AllT.nil
    exact AllT.nil
  refine AllT.cons (o:={ dst:=some 40,op:=Op.buildSlice 129 1 #[(0,Operand.tmp 39)],type:=129,pos:= "scan.go:52",after:=#[{ on:=7,ground:=Ground.data }],guard:=none }) rfl (fun K hK=>?_) ?_
  · go_simp
    refine hK.out _ _ ?_ (fun hHeld=>?_)
    · (try dsimp only)
      exact rg_s ((T0.out.drew).alloc _) ((X0.out.drew).alloc _)
    clear hK K
    (try simp only [Act.put,lsA,lsZ,lsS])
    refine T_ready (rs:=[4]) (by kernel_rfl) (by simp) (by kernel_rfl) ?_
    refine AllT.cons (o:={ dst:=some 36,op:=Op.buildSlice 128 1 #[(0,Operand.tmp 35)],type:=128,pos:= "scan.go:52",after:=#[{ on:=3,ground:=Ground.data }],guard:=none }) rfl (fun K hK=>?_) ?_
    · go_simp
      refine hK.out _ _ ?_ (fun hHeld=>?_)
      · (try dsimp only)
        exact rg_s (((T0.out.drew).alloc _).alloc _) (((X0.out.drew).alloc _).alloc _)
      clear hK K
      (try simp only [Act.put,lsA,lsZ,lsS])
      refine T_ready (rs:=[5]) (by kernel_rfl) (by simp) (by kernel_rfl) ?_
      refine AllT.cons (o:={ dst:=some 37,op:=Op.call { callee:=Callee.builtin Builtin.append,args:=#[Operand.tmp 32,Operand.tmp 36],argTypes:=#[128,128] },type:=128,pos:= "scan.go:52",after:=#[{ on:=0,ground:=Ground.data },{ on:=4,ground:=Ground.data }],guard:=none }) rfl (fun K hK=>?_) ?_
      · rw [if_pos (by rfl)]
        refine app_int_op (.tmp 32) (.tmp 36) rfl s u1 n A rfl (((T0.out.drew).alloc _).alloc _).o1 (W.heap.size+1) 1 _ rfl (one_new2 _ _ _ _) (by omega) (by have:=T0.out.size;simp;omega) ?_
        intro v1' w2 own2 grown2
        have T2:=Lib.hid ((((T0.out.drew).alloc _).alloc _).app1 grown2 own2)
        have X2:=Lib.hid ((((X0.out.drew).alloc _).alloc _).app (((T0.out.drew).alloc _).alloc _).o1 grown2)
        have B2:=Lib.hid (below_of_own (((T0.out.drew).alloc _).alloc _).o1 (by have:=T0.out.size;simp;omega) grown2)
        have K2:=Lib.hid (keeps_app (((T0.out.drew).alloc _).alloc _).o1 grown2)
        refine hK.out _ _ ?_ (fun hHeld=>?_)
        · (try dsimp only)
          exact rg_s T2.out X2.out
        clear hK K
        (try simp only [Act.put,lsA,lsZ,lsS])
        refine T_tail (n:=9) (tl:=[{ dst:=some 41,op:=Op.call { callee:=Callee.builtin Builtin.append,args:=#[Operand.tmp 38,Operand.tmp 40],argTypes:=#[129,129] },type:=129,pos:= "scan.go:52",after:=#[{ on:=6,ground:=Ground.data },{ on:=8,ground:=Ground.data },{ on:=5,ground:=Ground.chain }],guard:=none },{ dst:=none,op:=Op.store 128 (Operand.tmp 5) (Operand.tmp 37),type:=0,pos:= "scan.go:52",after:=#[{ on:=5,ground:=Ground.data },{ on:=9,ground:=Ground.chain },{ on:=0,ground:=Ground.phase },{ on:=1,ground:=Ground.phase },{ on:=2,ground:=Ground.phase },{ on:=3,ground:=Ground.phase },{ on:=4,ground:=Ground.phase },{ on:=5,ground:=Ground.phase },{ on:=6,ground:=Ground.textOnly Departure.inlinedCapture },{ on:=7,ground:=Ground.textOnly Departure.lateStores },{ on:=8,ground:=Ground.textOnly Departure.inlinedCapture },{ on:=9,ground:=Ground.textOnly Departure.lateStoresUnsure }],guard:=none },{ dst:=none,op:=Op.store 129 (Operand.tmp 6) (Operand.tmp 41),type:=0,pos:= "scan.go:52",after:=#[{ on:=9,ground:=Ground.data },{ on:=10,ground:=Ground.chain },{ on:=0,ground:=Ground.phase },{ on:=1,ground:=Ground.phase },{ on:=2,ground:=Ground.phase },{ on:=3,ground:=Ground.phase },{ on:=4,ground:=Ground.phase },{ on:=5,ground:=Ground.phase },{ on:=6,ground:=Ground.phase },{ on:=7,ground:=Ground.phase },{ on:=8,ground:=Ground.phase },{ on:=9,ground:=Ground.phase },{ on:=10,ground:=Ground.phase }],guard:=none }]) rfl (by kernel_rfl) ?_
        obtain ⟨g1,c1,rfl⟩:=ownsRow_succ T2.out.o1
        have TT:=Lib.hid T2.out
        refine append_ins rfl (.tmp 38) (.tmp 40) rfl s u2 n B rfl TT.out.o2 hW (W.heap.size) 1 y rfl ((((Ins4.new W.drew y).alloc _).app (T0.out.drew.alloc _ |>.alloc _).o1 grown2)).at hy (n+1) rfl hn (by have:=TT.out.size;omega) ?_
        intro A' cap' w5 own5 grown5 row5 bel5
        have T5:=Lib.hid (TT.out.app2 grown5 own5)
        have B5:Hid (Below s W w5):=Lib.hid (((((Below.refl s W).drew.alloc (by have:=T0.out.size;simp;omega) _).alloc (by have:=T0.out.size;simp;omega) _).trans B2.out).trans bel5)
        have K5:Hid (KeepsOthers W w5):=Lib.hid (((((keeps_below (Below.refl W.heap.size W).drew).trans (KeepsOthers.alloc _ _)).trans (KeepsOthers.alloc _ _)).trans K2.out).trans (keeps_app TT.out.o2 grown5))
        clear bel5 row5 own5 grown5
        have c5:=T5.out.b1.cell
        have f5:=T5.out.b1.frozen
        have c6:=(T5.out.put1 (.slice (some ⟨g1,0,none⟩) (n+1) c1)).b2.cell
        have f6:=(T5.out.put1 (.slice (some ⟨g1,0,none⟩) (n+1) c1)).b2.frozen
        go_wp2
        refine OnlyN.normal (h _ _ _ _ _ _ _ _ _ _ (some ⟨g1,0,none⟩) c1 A' cap' _ ?_ ?_ ?_)
        · exact (T5.out.put1 _).put2 _
        · exact (B5.out.setCell (p:=⟨s+3,0,none⟩) (Nat.le_add_right s 3) _).setCell (p:=⟨s+4,0,none⟩) (Nat.le_add_right s 4) _
        · exact (K5.out.trans (KeepsOthers.setCell _ _ _)).trans (KeepsOthers.setCell _ _ _)
      exact AllT.nil
    exact AllT.nil
  exact AllT.nil
end Go.Proofs.YteefmjhemhlapaaGreat.Mm
