/-
  Own text.
-/
import Derived.Test.YtjamcbjghffboaaGreatDoorSxV
set_option linter.unusedVariables false
set_option linter.unusedSimpArgs false
namespace Go.Proofs.YtjamcbjghffboaaGreatDoor
namespace SxV
open Go Go.RowKit Reg Base Sx SxR
section
variable {P:Program} {ops:Array Oper} {Q:Exit->Act->World->Prop}
theorem call_run {i:Nat}{o:Oper}{F:FuncId}{d:Tmp}{K:Act->World->Prop}{b:Act}{y:World}{R:Value->World->Prop}(hi:ops[i]? = some o)(hg:o.guard=none)(hd:o.dst=some d)(ho:o.op=.call { callee:=.value (.func F),args:=#[],argTypes:=#[] })
  (he:∀args w,(callFunc F args).run P w=.ok (.enter F args) w) (hc:Calls P F #[] y fun e w'=>∃v,e=.returned v/\R v w') (h:∀v w',R v w'->K (b.put (some d) v) w'):wpOp P ops Q i K b y:=by
 unfold wpOp
 simp only[hi]
 rw[if_pos (by simp[Region.wanted,hg])]
 refine .inl ?_
 unfold Oper.wp execOp
 simp[ho,resolve,show b.eval (.func F)=.func (.func F) #[] #[] from rfl,Deferred.ofValue,invoke,he,Oper.upon]
 refine hc.mono ?_
 rintro e w' ⟨v,rfl,hr⟩
 simp only[hd]
 exact h v w' hr
end
end SxV
end Go.Proofs.YtjamcbjghffboaaGreatDoor
