/- The document's example of chapter 13. -/
import Derived.Test.YteefmjhemhlapaaGreatVBxA
import Derived.Test.YteefmjhemhlapaaGreatVMeR
namespace Go.Proofs.YteefmjhemhlapaaGreat.Mm
open Go.RowKit
set_option linter.unusedVariables false
open Go.ChangeShapes Go.WideShapes Go.ChangeAt Go.RowKit
set_option linter.unusedSimpArgs false

section
variable {code:List Int} {base half z:Nat} {B0 B:List Int} {c:Cp} {T:List Bool}
theorem exec_nar (H:RgT T base (base+2 * half)) (hN:base+2 * half≤64 * z) (c d:Cp) (op a b imm:Int) :
    exec c d B T op a b imm=⟨c,B,3,0⟩∨exec c d B T op a b imm=exec c d B (List.replicate z true) op a b imm:=by
  have key:∀ v:Int,wholeB T v 4=true→wholeB (List.replicate z true) v 4=true:=fun v h=>by
    have e:=H.wh v 4 (by omega)
    rw [show ((4:Nat):Int)=4 from rfl,h] at e
    have:=of_decide_eq_true e.symm
    rw [show v=(v.toNat:Int) by omega]
    exact all_true z _ 4 (by omega)
  by_cases h15:op=15
  · subst h15
    cases hw:wholeB T (c.reg b) 4
    · exact .inl (exec_15n _ _ _ _ _ _ _ hw)
    · exact .inr (by rw [exec_15y _ _ _ _ _ _ _ hw,exec_15y _ _ _ _ _ _ _ (key _ hw)])
  · by_cases h16:op=16
    · subst h16
      cases hw:wholeB T (c.reg a) 4
      · exact .inl (exec_16n _ _ _ _ _ _ _ hw)
      · exact .inr (by rw [exec_16y _ _ _ _ _ _ _ hw,exec_16y _ _ _ _ _ _ _ (key _ hw)])
    · right
      unfold exec
      simp only [if_neg h15,if_neg h16]
theorem step_nar (R:Regn code base half z B0) (I:SafeI code base half B0 c B) (H:RgT T base (base+2 * half)) {x:Ou} (hx:StepIs c B T x):x=⟨c,B,3,0⟩∨StepIs c B (List.replicate z true) x:=by
  obtain ⟨p,hp,hlt,_⟩:=I.pc
  have h0:=R.h0
  have hN:=R.hN
  have e1:fet T c.pc 6=6:=by
    unfold fet
    rw [if_pos]
    rw [H.wh c.pc (5+1) (by omega)]
    exact decide_eq_true (by omega)
  have e2:fet (List.replicate z true) c.pc 6=6:=by
    rw [show c.pc=((base+p:Nat):Int) by rw [hp];push_cast;rfl]
    exact fet_all z (base+p) (by omega)
  have ec:codeL B T c.pc=codeL B (List.replicate z true) c.pc:=by unfold codeL;rw [e1,e2]
  rcases hx with ⟨h1,rfl⟩ | ⟨h1,h2,rfl⟩ | ⟨op,a,b,imm,n,h1,rfl⟩
  · exact .inr (.inl ⟨ec ▸ h1,rfl⟩)
  · exact .inr (.inr (.inl ⟨ec ▸ h1,ec ▸ h2,rfl⟩))
  · rcases exec_nar (B:=B) (z:=z) H (by omega) c (c.setPc (IntKind.u32.wrap (c.pc+n))) op a b imm with e | e
    · exact .inl e
    · exact .inr (.inr (.inr ⟨op,a,b,imm,n,ec ▸ h1,e⟩))
theorem exec_gate {d:Cp} {op a b imm:Int} (h:(exec c d B T op a b imm).what=2):op=22:=by
  by_cases h22:op=22
  · exact h22
  exfalso
  unfold exec at h
  by_cases h0:op=0
  · rw [if_pos h0] at h;exact absurd (show (1:Int)=2 from h) (by decide)
  rw [if_neg h0] at h
  rw [if_neg h22] at h
  by_cases h15:op=15
  · rw [if_pos h15] at h
    split at h
    · exact absurd (show (0:Int)=2 from h) (by decide)
    · exact absurd (show (3:Int)=2 from h) (by decide)
  rw [if_neg h15] at h
  by_cases h16:op=16
  · rw [if_pos h16] at h
    split at h
    · exact absurd (show (0:Int)=2 from h) (by decide)
    · exact absurd (show (3:Int)=2 from h) (by decide)
  rw [if_neg h16] at h
  by_cases h23:op=23
  · rw [if_pos h23] at h;exact absurd (show (0:Int)=2 from h) (by decide)
  rw [if_neg h23] at h
  by_cases h1:op=1
  · rw [if_pos h1] at h;exact absurd (show (0:Int)=2 from h) (by decide)
  rw [if_neg h1] at h
  by_cases h2:op=2
  · rw [if_pos h2] at h;exact absurd (show (0:Int)=2 from h) (by decide)
  rw [if_neg h2] at h
  by_cases h17:op=17
  · rw [if_pos h17] at h;exact absurd (show (0:Int)=2 from h) (by decide)
  rw [if_neg h17] at h
  by_cases h18:op=18
  · rw [if_pos h18] at h;exact absurd (show (0:Int)=2 from h) (by decide)
  rw [if_neg h18] at h
  by_cases h19:op=19
  · rw [if_pos h19] at h;exact absurd (show (0:Int)=2 from h) (by decide)
  rw [if_neg h19] at h
  by_cases h20:op=20
  · rw [if_pos h20] at h
    split at h
    · exact absurd (show (0:Int)=2 from h) (by decide)
    · exact absurd (show (0:Int)=2 from h) (by decide)
  rw [if_neg h20] at h
  by_cases h21:op=21
  · rw [if_pos h21] at h;exact absurd (show (0:Int)=2 from h) (by decide)
  rw [if_neg h21] at h
  split at h
  · exact absurd (show (0:Int)=2 from h) (by decide)
  · exact absurd (show (4:Int)=2 from h) (by decide)
theorem safe_gate (R:Regn code base half z B0) (I:SafeI code base half B0 c B) {x:Ou} (hx:StepIs c B (List.replicate z true) x) (hw:x.what=2) {d:Cp} (od:d.Ok) (hb:d.b=c.b) (hs:d.s=c.s) (hpc:d.pc=x.c.pc) :
    SafeI code base half B0 d x.B:=by
  obtain ⟨p,hp,hlt,hcase⟩:=I.pc
  rcases hcase with hl | ⟨k,hk,rfl,hsec⟩
  · rw [step_behind R I hp hlt hl hx] at hw
    exact absurd (show (1:Int)=2 from hw) (by decide)
  · have e:=step_at R I hk hp hx
    rw [e] at hw
    have h22:=exec_gate hw
    rw [h22,exec_22] at e
    rw [e] at hpc ⊢
    have hq:d.pc=(base:Int)+(posN (scanL code) k+(insN (scanL code) k).lay.length:Nat):=hpc
    exact ⟨od,hb.trans I.cb,hs.trans I.cs,I.byt,I.len,I.same,fall' R hk hq (by rw [h22];decide) (by rw [h22];decide)⟩
structure BoxS (code:List Int) (base half:Nat) (B0:List Int) (x:Bx) (B:List Int):Prop where
  low:∀ i,i < base+half→B.getD i 0=B0.getD i 0
  safe:x.is=0→SafeI code base half B0 x.c B
theorem gateS_pc (c:Cp) (s:Int) (W:Wd) (n:Int):(gateS c s W n).1.pc=c.pc:=by
  unfold gateS
  split
  · rfl
  · split
    · rfl
    · split
      · rfl
      · split
        · rfl
        · split
          · rfl
          · rfl
theorem bxS_safe (R:Regn code base half z B0) (H:RgT T base (base+2 * half)) {lo hi n0:Nat} {x:Bx} (i:BxI T lo hi n0 x B) (hx:x.is=0) (S:BoxS code base half B0 x B):BoxS code base half B0 (bxS T x B).1 (bxS T x B).2:=by
  have I:=S.safe hx
  have hS:=stF_is x.c B T
  have j:=bxS_i i hx
  have jb:=gateS_bs (stF x.c B T).c (sumV (stF x.c B T).c (stF x.c B T).B T) x.W (stF x.c B T).gate
  have jp:=gateS_pc (stF x.c B T).c (sumV (stF x.c B T).c (stF x.c B T).B T) x.W (stF x.c B T).gate
  obtain ⟨⟨f1,f2⟩,_⟩:=step_few i.byt i.len hS
  have jok:=j.ok.c
  unfold bxS at jok ⊢
  simp only at jok ⊢
  rcases step_nar R I H hS with e | hA
  · rw [e]
    refine ⟨S.low,fun h=>?_⟩
    simp at h
  · rcases safe_step R I hA with ⟨hw,hB⟩ | ⟨hw,hI⟩
    · have h0:(stF x.c B T).what≠0:=by omega
      have h2:(stF x.c B T).what≠2:=by omega
      rw [if_neg h0,if_neg h2]
      refine ⟨fun k hk=>by rw [hB];exact S.low k hk,fun h=>?_⟩
      simp at h
    · by_cases h0:(stF x.c B T).what=0
      · rw [if_pos h0]
        exact ⟨fun k hk=>hI.same k (.inl hk),fun _=>hI⟩
      · have h2:(stF x.c B T).what=2:=by omega
        rw [if_neg h0,if_pos h2] at jok ⊢
        refine ⟨fun k hk=>hI.same k (.inl hk),fun _=>?_⟩
        exact safe_gate R I hA h2 jok (jb.1.trans f1) (jb.2.trans f2) jp
theorem slF_safe (R:Regn code base half z B0) (H:RgT T base (base+2 * half)) (n:Nat):∀ {lo hi n0:Nat} {x:Bx} {B:List Int},BxI T lo hi n0 x B→BoxS code base half B0 x B→BoxS code base half B0 (slF T n x B).1 (slF T n x B).2.1:=by
  induction n with
  | zero=>intro lo hi n0 x B i S;exact S
  | succ n ih=>
    intro lo hi n0 x B i S
    by_cases hx:x.is=0
    · have j:=bxS_i i hx
      have S2:=bxS_safe R H i hx S
      cases hy:yldB T x B
      · rw [slF_step n hx hy];exact ih j S2
      · rw [slF_yld n hx hy];exact S2
    · rw [slF_over _ hx];exact S
end
theorem newB_len {B code data:List Int} {b s:Nat} (h1:b+s≤B.length) (h2:code.length≤s / 2) (h3:data.length≤s / 2):(newB B (b,s) code data).length=B.length:=by
  unfold newB
  simp only [Int.toNat_natCast]
  have e:((b:Int)+(s:Int) / 2).toNat=b+s / 2:=by omega
  rw [e,splice_len _ _ _ (by rw [splice_len _ _ _ (by rw [splice_len _ _ _ (by rw [List.length_replicate];omega)];omega),splice_len _ _ _ (by rw [List.length_replicate];omega)];omega),splice_len _ _ _ (by rw [splice_len _ _ _ (by rw [List.length_replicate];omega)];omega),splice_len _ _ _ (by rw [List.length_replicate];omega)]
theorem newB_get {B code data:List Int} {b s:Nat} (h1:b+s≤B.length) (h2:code.length≤s / 2) (h3:data.length≤s / 2) (i:Nat):(newB B (b,s) code data).getD i 0 =
    if b+s / 2≤i∧i < b+s / 2+data.length then data.getD (i - (b+s / 2)) 0 else if b≤i∧i < b+code.length then code.getD (i - b) 0 else if b≤i∧i < b+s then 0 else B.getD i 0:=by
  unfold newB
  simp only [Int.toNat_natCast]
  have e:((b:Int)+(s:Int) / 2).toNat=b+s / 2:=by omega
  have l1:(splice B b (List.replicate s 0)).length=B.length:=splice_len _ _ _ (by rw [List.length_replicate];omega)
  have l2:(splice (splice B b (List.replicate s 0)) b code).length=B.length:=(splice_len _ _ _ (by rw [l1];omega)).trans l1
  rw [e,splice_getD _ _ _ _ (by rw [l2];omega),splice_getD _ _ _ _ (by rw [l1];omega),splice_getD _ _ _ _ (by rw [List.length_replicate];omega),List.length_replicate]
  by_cases h:b≤i∧i < b+s
  · rw [if_pos h,if_pos h]
    have:(List.replicate s (0:Int)).getD (i - b) 0=0:=by simp [List.getD,show i - b < s by omega]
    rw [this]
  · rw [if_neg h,if_neg h]
theorem newB_byte {B code data:List Int} (r:Rg) (hB:Bytes B) (hc:Bytes code) (hd:Bytes data):Bytes (newB B r code data):=by
  intro y hy
  unfold newB at hy
  rcases splice_mem hy with hy | hy
  · rcases splice_mem hy with hy | hy
    · rcases splice_mem hy with hy | hy
      · exact hB y hy
      · rw [List.eq_of_mem_replicate hy];decide
    · exact hc y hy
  · exact hd y hy
theorem reg_one {n:Int} {r:Rg} (h0:0≤n) (h1:n≤65536) (h:regB n r=true):rgtB [r] n=true:=
  rgt_iff.2 ⟨h0,h1,fun x hx=>by rw [List.mem_singleton.1 hx];exact h,by simp⟩
end Go.Proofs.YteefmjhemhlapaaGreat.Mm
