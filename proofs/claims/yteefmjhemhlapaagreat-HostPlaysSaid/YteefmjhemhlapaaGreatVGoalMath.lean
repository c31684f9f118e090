/- Where jumps go: the plain sums of layer 9. -/
import Derived.Test.YteefmjhemhlapaaGreatVRuA
namespace Go.Proofs.YteefmjhemhlapaaGreat.Mm
open Go.RowKit
set_option linter.unusedVariables false
set_option maxRecDepth 10000
def jmpB (x:InsV):Bool:=x.op == 19 || x.op == 20
def goalV (p:Nat×InsV):Int:=(p.1:Int)+Go.Proofs.YteefmjhemhlapaaGreat.szO p.2.op+wrap32 p.2.imm
def goalL (L:List (Nat×InsV)):List Int:=(L.filter fun p=>jmpB p.2).map goalV
def hitB (S:List Nat) (g:Int) (p:Nat×InsV):Bool:=decide ((p.1:Int)=g) && !decide (p.1∈S)
def foundB (L:List (Nat×InsV)) (S:List Nat) (g:Int):Bool:=L.any (hitB S g)
def mayB (L:List (Nat×InsV)):Bool:=L.all fun p=>!jmpB p.2 || foundB L (secP L) (goalV p)
def mayE (code:List Int):Int:=if ruleE code≠0 then ruleE code else if mayB (scanL code)=true then 0 else 6
def goalsC (code:List Int):List Int:=if ruleE code=0 then goalL (scanL code) else []
theorem goal_yes {L:List (Nat×InsV)} {k:Nat} (hk:k < L.length) (h:jmpB (L.getD k dfl).2=true):goalL (L.take (k+1))=goalL (L.take k) ++ [goalV (L.getD k dfl)]:=by
  rw [take_1 L dfl k hk]
  unfold goalL
  rw [List.filter_append,List.map_append]
  generalize L.getD k dfl=p at *
  simp [h]
theorem goal_no {L:List (Nat×InsV)} {k:Nat} (hk:k < L.length) (h:jmpB (L.getD k dfl).2=false):goalL (L.take (k+1))=goalL (L.take k):=by
  rw [take_1 L dfl k hk]
  unfold goalL
  rw [List.filter_append,List.map_append]
  generalize L.getD k dfl=p at *
  simp [h]
theorem goal_all (L:List (Nat×InsV)):goalL (L.take L.length)=goalL L:=by rw [List.take_length]
theorem goal_len (L:List (Nat×InsV)):(goalL L).length≤L.length:=by
  unfold goalL
  rw [List.length_map]
  exact List.length_filter_le _ _
theorem found_step {L:List (Nat×InsV)} {S:List Nat} {g:Int} {k:Nat} (hk:k < L.length):foundB (L.take (k+1)) S g=(foundB (L.take k) S g || hitB S g (L.getD k dfl)):=by
  unfold foundB
  rw [take_1 L dfl k hk,List.any_append]
  simp
theorem found_0 (L:List (Nat×InsV)) (S:List Nat) (g:Int):foundB (L.take 0) S g=false:=rfl
theorem found_all (L:List (Nat×InsV)) (S:List Nat) (g:Int):foundB (L.take L.length) S g=foundB L S g:=by rw [List.take_length]
def MayI (L:List (Nat×InsV)) (k:Nat):Prop:=∀ j,j < k→jmpB (L.getD j dfl).2=true→foundB L (secP L) (goalV (L.getD j dfl))=true
theorem mayI_0 (L:List (Nat×InsV)):MayI L 0:=fun j h=>by omega
theorem mayI_yes {L:List (Nat×InsV)} {k:Nat} (h:MayI L k) (hf:foundB L (secP L) (goalV (L.getD k dfl))=true):MayI L (k+1):=fun j hj hu=>by
  rcases Nat.lt_or_ge j k with hlt | hge
  · exact h j hlt hu
  · obtain rfl:j=k:=by omega
    exact hf
theorem mayI_no {L:List (Nat×InsV)} {k:Nat} (h:MayI L k) (hf:jmpB (L.getD k dfl).2=false):MayI L (k+1):=fun j hj hu=>by
  rcases Nat.lt_or_ge j k with hlt | hge
  · exact h j hlt hu
  · obtain rfl:j=k:=by omega
    rw [hf] at hu;cases hu
theorem may_iff (L:List (Nat×InsV)):mayB L=true↔MayI L L.length:=by
  unfold mayB MayI
  rw [List.all_eq_true]
  constructor
  · intro h j hj hu
    have:=h (L.getD j dfl) (by rw [getD_el L dfl j hj];exact List.getElem_mem hj)
    rw [hu] at this
    exact this
  · intro h p hp
    obtain ⟨j,hj,rfl⟩:=List.mem_iff_getElem.1 hp
    have:=h j hj
    rw [getD_el L dfl j hj] at this
    cases hu:jmpB (L[j]).2
    · rfl
    · simpa using this hu
theorem may_bad {L:List (Nat×InsV)} {k:Nat} (hk:k < L.length) (hu:jmpB (L.getD k dfl).2=true) (hf:foundB L (secP L) (goalV (L.getD k dfl))=false):mayB L=false:=by
  cases h:mayB L
  · rfl
  · have:=(may_iff L).1 h k hk hu
    rw [hf] at this;cases this
theorem may_cases (code:List Int):(ruleE code≠0∧mayE code=ruleE code∧goalsC code=[])∨(ruleE code=0∧mayB (scanL code)=false∧mayE code=6∧goalsC code=goalL (scanL code)) ∨
    (ruleE code=0∧mayB (scanL code)=true∧mayE code=0∧goalsC code=goalL (scanL code)):=by
  unfold mayE goalsC
  by_cases h:ruleE code=0
  · cases hm:mayB (scanL code)
    · exact .inr (.inl ⟨h,rfl,by simp [h],by simp [h]⟩)
    · exact .inr (.inr ⟨h,rfl,by simp [h],by simp [h]⟩)
  · exact .inl ⟨h,by simp [h],by simp [h]⟩
theorem may_0 {code:List Int} (h:mayE code=0):ruleE code=0∧mayB (scanL code)=true∧goalsC code=goalL (scanL code):=by
  rcases may_cases code with ⟨h1,h2,_⟩ | ⟨_,_,h3,_⟩ | ⟨h1,h2,_,h4⟩
  · rw [h2] at h;exact absurd h h1
  · rw [h3] at h;cases h
  · exact ⟨h1,h2,h4⟩
theorem rule_scan {code:List Int} (h:ruleE code=0):scanE code=0∧secL code=secP (scanL code)∧ruleB (scanL code)=true:=by
  rcases rule_cases code with ⟨h1,h2,_⟩ | ⟨_,_,h3,_⟩ | ⟨h1,h2,_,h4⟩
  · rw [h] at h2;exact absurd h2.symm h1
  · rw [h] at h3;cases h3
  · exact ⟨h1,h4,h2⟩
theorem size_bd (op:Int):0≤Go.Proofs.YteefmjhemhlapaaGreat.szO op∧Go.Proofs.YteefmjhemhlapaaGreat.szO op≤6:=by
  unfold Go.Proofs.YteefmjhemhlapaaGreat.szO
  cases h:Go.Proofs.YteefmjhemhlapaaGreat.fK op
  · simp
  · have:=Go.Proofs.YteefmjhemhlapaaGreat.szV_bd _ _ _ _ (Go.Proofs.YteefmjhemhlapaaGreat.form_of op)
    simp
    omega
theorem sign_bd (n:Int):-2147483648≤wrap32 n∧wrap32 n≤2147483647:=by unfold wrap32;omega
end Go.Proofs.YteefmjhemhlapaaGreat.Mm
