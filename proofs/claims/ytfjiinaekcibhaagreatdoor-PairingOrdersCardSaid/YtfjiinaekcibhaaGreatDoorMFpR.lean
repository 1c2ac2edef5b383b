/-
  Own text.
-/
import Derived.Test.YtfjiinaekcibhaaGreatDoorMLimbR
import Derived.Test.YtfjiinaekcibhaaGreatDoorBits
import Derived.Test.YtfjiinaekcibhaaGreatDoorMReg
import Derived.Deep.LoopGhost
set_option linter.unusedVariables false
namespace Go.Proofs.YtfjiinaekcibhaaGreatDoor
namespace Fp
open Go Go.RowKit Reg Base Limb
def PP:Int:=4002409555221667393417789825735904156556882819939007885332058136124031650490837864442687629129015664037894272559787
def pL:List Int:=[13402431016077863595,2210141511517208575,7435674573564081700,7239337960414712511,5412103778470702295,1873798617647539866]
theorem pL_len:pL.length=6:=rfl
theorem num_pL:num pL=PP:=by decide +kernel
theorem pL_words:Words pL:=words_of _ (by decide)
theorem PP_pos:0<PP:=by decide +kernel
theorem PP_lt:PP<wp 6∧wp 6≤10*PP∧2*PP<wp 6:=by decide +kernel
def fe (v:Int):List Int:=wd 6 (v%PP)
theorem fe_len (v:Int):(fe v).length=6:=wd_len _ _
theorem fe_words (v:Int):Words (fe v):=wd_words _ _
theorem fe_mod (v:Int):0≤v%PP∧v%PP<PP:=⟨Int.emod_nonneg _ (Int.ne_of_gt PP_pos),Int.emod_lt_of_pos _ PP_pos⟩
theorem num_fe (v:Int):num (fe v)=v%PP:=by
 have h:=fe_mod v
 exact num_wd_of h.1 (Int.lt_trans h.2 PP_lt.1)
theorem fe_congr {v u:Int}(h:v%PP=u%PP):fe v=fe u:=by rw[fe,fe,h]
theorem fe_inj {v u:Int}(h:fe v=fe u):v%PP=u%PP:=by rw[←num_fe,←num_fe,h]
theorem fe_below {l:List Int}(hw:Words l)(hl:l.length=6)(h:num l<PP):l=fe (num l):=by
 rw[fe,Int.emod_eq_of_lt (num_bounds hw).1 h]
 exact (wd_num hw hl).symm
theorem num6 {l:List Int}(hw:Words l)(hl:l.length=6):0≤num l∧num l<wp 6:=by have:=num_bounds hw;rwa [hl] at this
end Fp
namespace Fp
open Go Go.RowKit Reg Base Limb Bits
def Z6:List Int:=[0,0,0,0,0,0]
end Fp
namespace Fp
open Go Go.RowKit Reg Base Limb Bits
end Fp
namespace Fp
open Go Go.RowKit Reg Base Limb Bits
end Fp
namespace Fp
open Go Go.RowKit Reg Base Limb Bits
end Fp
namespace Fp
open Go Go.RowKit Reg Base Limb Bits
end Fp
namespace Fp
open Go Go.RowKit Reg Base Limb Bits
theorem fe_zero:fe 0=Z6:=by decide +kernel
end Fp
namespace Fp
open Go Go.RowKit Reg Base Limb Bits
def Z12:List Int:=[0,0,0,0,0,0,0,0,0,0,0,0]
end Fp
namespace Fp
open Go Go.RowKit Reg Base Limb Bits
def pw (x e:Int):Int:=x^e.toNat
theorem pw_add {x a b:Int}(ha:0≤a)(hb:0≤b):pw x (a+b)=pw x a*pw x b:=by
 rw[pw,pw,pw,←Int.pow_add]
 congr 1
 omega
theorem pw_one (x:Int):pw x 1=x:=by rw[pw];exact Int.pow_one x
end Fp
namespace Fp
open Go Go.RowKit Reg Base Limb Bits
end Fp
end Go.Proofs.YtfjiinaekcibhaaGreatDoor
