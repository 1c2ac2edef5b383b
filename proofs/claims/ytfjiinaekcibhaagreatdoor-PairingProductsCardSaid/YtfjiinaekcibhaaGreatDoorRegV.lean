/-
  Own text.
-/
import Derived.Test.YtfjiinaekcibhaaGreatDoorMRegT
import Derived.Test.YtfjiinaekcibhaaGreatDoorMReg
import Derived.Great.Frames
set_option linter.unusedVariables false
set_option linter.unusedSimpArgs false
namespace Go.Proofs.YtfjiinaekcibhaaGreatDoor
namespace Reg
open Go Go.RowKit Base
section
variable {P:Program} {ops:Array Oper} {md:Region.Mode} {Q:Exit→Act→World→Prop}
theorem Own.apart {y:World}{base:Nat}{e t:TypeId}{k:IntKind}{A:Option Addr}{n c q:Nat}{xs:List Int}{z:Array Value}(h:Own y base e k A n c xs)(hq:Has y q t z)(hne:t≠e):∀g,A=some ⟨g,0,none⟩→q≠g:=by
 rintro g rfl rfl
 rcases h.own.2 with ⟨hv,_⟩|⟨g',cap,cur,hv,hg,hh,r⟩
 ·injection hv with h1
  cases h1
 ·injection hv with h1
  injection h1 with h1
  injection h1 with h1
  subst h1
  have:=hq.eq.symm.trans hh
  injection this with this
  injection this with _ this
  exact hne this
def kpE (B:Nat)(t:TypeId)(z:Array Value)(y:World):Option Nat→Prop
 |none=>True
 |some g=>Has y g t z∧B≤g
theorem kpE.keep {B:Nat}{t:TypeId}{z:Array Value}{y y':World}:∀{E},kpE B t z y E→RowKit.Below y.heap.size y y'→kpE B t z y' E
 |none,_,_=>trivial
 |some _,h,hb=>⟨h.1.keep hb,h.2⟩
end
end Reg
end Go.Proofs.YtfjiinaekcibhaaGreatDoor
