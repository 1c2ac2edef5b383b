/-
  Own text.
-/
import Derived.Test.YtfjiinaekcibhaaGreatDoorMCa
import Derived.Test.YtfjiinaekcibhaaGreatDoorS13C
set_option linter.unusedVariables false
namespace Go.Proofs.YtfjiinaekcibhaaGreatDoor
namespace S13D
open Go Go.ChangeShapes Go.WideShapes Go.ChangeAt Go.RowKit Reg Base Limb Sx Fp2 S13R S13S S13C
section
variable {H:Type} {enc:TypeId×Value→H} {w:World} {base:Nat} {spare:Nat→Bool} {held:Bool}
theorem pts_of:∀{css:List (List Value)},(∀cs∈css,∃(zs:List Int) (b:Bool),cs=zs.map (Value.int .u64)++[.bool b]∧zs.length=24∧∀z∈zs,(Lit.int .u64 z).wf=true)→∃ps:List (List Int×Bool),ps.length=css.length∧(∀p∈ps,Nm 24 p.1)∧den (prow ps)=css.flatten
 |[],_=>⟨[],rfl,fun p h=>(by cases h),rfl⟩
 |cs :: css,h=>by
  obtain ⟨zs,b,rfl,hl,hw⟩:=h cs List.mem_cons_self
  obtain ⟨ps,h1,h2,h3⟩:=pts_of (css:=css) (fun c hc=>h c (List.mem_cons_of_mem _ hc))
  refine ⟨(zs,b) :: ps,by simp [h1],fun p hp=>?_,?_⟩
  ·rcases List.mem_cons.1 hp with rfl|hp
   ·exact ⟨hl,words_wf hw⟩
   ·exact h2 p hp
  ·rw [prow,den,den,h3,List.flatten_cons,List.append_assoc]
   rfl
abbrev Cells (w:World)(A:Option Addr)(r:Row):Prop:=r=[]∨∃b o,A=some ⟨b,o,none⟩∧∀j v,(den r)[j]? = some v→w.cell? ⟨b,o+j,none⟩=some v∧b<w.heap.size
theorem open_g2s {fuel:Nat}{A:Option Addr}{len cap:Nat}{x:DataW H×List MemPlace}(h:DataW.trod enc Tryz.prog w base spare held fuel 24 [.slice A len cap]=some x):∃ps:List (List Int×Bool),ps.length=len∧(∀p∈ps,Nm 24 p.1)∧Cells w A (prow ps):=by
 obtain ⟨css,h1,_,_,h2,h3⟩:=open_elems Tryz.underlying24 h
 obtain ⟨ps,p1,p2,p3⟩:=pts_of (css:=css) (fun cs hcs=>by
  obtain ⟨_,fuel',y,hy⟩:=h2 cs hcs
  exact flat_g2 _ _ _ hy)
 rw [←p3] at h3
 refine ⟨ps,p1.trans h1,p2,?_⟩
 rcases h3 with h3|h3
 ·left
  cases ps with
  |nil=>rfl
  |cons p ps=>
   obtain ⟨x,b⟩:=p
   simp [prow,den,Sg.den] at h3
 ·exact .inr h3
end
end S13D
end Go.Proofs.YtfjiinaekcibhaaGreatDoor
