/- Merged by wip/tools/regroup: MemApart, MemBack, MemRef, MemRefSet, MemRefWrite. -/
import Derived.Test.YteefmjhemhlapaaGreatVMeA
import Derived.Deep.AppendLies
import Derived.Deep.RegionLaw
import Derived.Deep.DeepCutAuto
namespace Go.Proofs.YteefmjhemhlapaaGreat.Mm
open Go.ChangeShapes Go.WideShapes Go.ChangeAt Go.RowKit
set_option linter.unusedVariables false
set_option maxRecDepth 10000
theorem u8_bd {n:Int} (h:(Lit.int .u8 n).wf=true):0≤n∧n≤255:=bounds_u8 h
theorem u32_bd {n:Int} (h:(Lit.int .u32 n).wf=true):0≤n∧n < 4294967296:=by
  have:=bounds_u32 h
  omega
end Go.Proofs.YteefmjhemhlapaaGreat.Mm
namespace Go.Proofs.YteefmjhemhlapaaGreat.Mm
open Go.ChangeShapes Go.WideShapes Go.ChangeAt Go.RowKit
set_option linter.unusedVariables false
set_option maxRecDepth 10000
end Go.Proofs.YteefmjhemhlapaaGreat.Mm
namespace Go.Proofs.YteefmjhemhlapaaGreat.Mm
open Go.ChangeShapes Go.WideShapes Go.ChangeAt Go.RowKit
set_option linter.unusedVariables false
set_option maxRecDepth 10000
end Go.Proofs.YteefmjhemhlapaaGreat.Mm
namespace Go.Proofs.YteefmjhemhlapaaGreat.Mm
open Go.ChangeShapes Go.WideShapes Go.ChangeAt Go.RowKit
set_option linter.unusedVariables false
set_option maxRecDepth 10000
section
variable {α:Type}
end
theorem has_set {w:World} {g:Nat} {t:TypeId} {cs:List Value} (h:HasB w g t cs) (i:Nat) (u:Value):HasB (w.setCell ⟨g,i,none⟩ u) g t (cs.set i u):=by
  unfold HasB at h ⊢
  simp [World.setCell,Array.getElem?_modify,h]
theorem has_far {w:World} {g g':Nat} {t:TypeId} {cs:List Value} (h:HasB w g t cs) (hne:g≠g') (i:Nat) (u:Value):HasB (w.setCell ⟨g',i,none⟩ u) g t cs:=h.same (Below.heap_setCell _ _ _ _ hne)
theorem chg_set {g h:Nat} {W w:World} (c:Chg g h W w) (b:Nat) (hb:b=g∨b=h) (i:Nat) (u:Value):Chg g h W (w.setCell ⟨b,i,none⟩ u):=
  c.trans ⟨rfl,rfl,rfl,by simp,fun k _ h1 h2=>Below.heap_setCell _ _ _ _ (by rcases hb with rfl | rfl <;> assumption)⟩
theorem chg_drew {g h:Nat} {W w:World} (c:Chg g h W w):Chg g h W w.drew:=⟨c.os,c.tape,c.output,c.size,c.block⟩
end Go.Proofs.YteefmjhemhlapaaGreat.Mm
namespace Go.Proofs.YteefmjhemhlapaaGreat.Mm
open Go.ChangeShapes Go.WideShapes Go.ChangeAt Go.RowKit
set_option linter.unusedVariables false
set_option maxRecDepth 10000
theorem HasB.al {w:World} {g:Nat} {t:TypeId} {cs:List Value} (h:HasB w g t cs) (o:Obj):HasB (w.alloc o) g t cs:=h.below (bel_al (Below.refl _ _) _)
theorem HasB.newAt (w:World) (g:Nat) (t:TypeId) (cs:Array Value) (hg:g=w.heap.size):HasB (w.alloc (.cells cs t)) g t cs.toList:=by
  subst hg
  have:=HasB.new w t cs.toList
  rwa [Array.toArray_toList] at this
theorem RowAt.al {w:World} {A:Option Addr} {cap:Nat} {l:List Int} (r:RowAt w A cap l) (o:Obj):RowAt (w.alloc o) A cap l:=r.below (bel_al (Below.refl _ _) _)
theorem RowAt.dr {w:World} {A:Option Addr} {cap:Nat} {l:List Int} (r:RowAt w A cap l):RowAt w.drew A cap l:=r
end Go.Proofs.YteefmjhemhlapaaGreat.Mm
