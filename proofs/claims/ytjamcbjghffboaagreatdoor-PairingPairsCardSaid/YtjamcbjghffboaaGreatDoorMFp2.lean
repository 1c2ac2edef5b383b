/-
  Own text.
-/
import Derived.Test.YtjamcbjghffboaaGreatDoorMRegT
import Derived.Test.YtjamcbjghffboaaGreatDoorFp2Spec
import Derived.Test.YtjamcbjghffboaaGreatDoorMFp2M
import Derived.Test.YtjamcbjghffboaaGreatDoorMFw3
import Derived.Test.YtjamcbjghffboaaGreatDoorMFw1
set_option linter.unusedVariables false
set_option linter.unusedSimpArgs false
namespace Go.Proofs.YtjamcbjghffboaaGreatDoor
namespace Fp2
set_option maxRecDepth 100000
open Go Go.RowKit Reg
theorem eqok6:EqOK Tryz.prog 9999 24 6:=eqok_arr (d:=9997) Tryz.underlying24 Tryz.underlying22 (by kernel_rfl) (by kernel_rfl)
theorem eqok2:EqOK Tryz.prog 10000 26 12:=eqok_two (n:=6) eqok6 Tryz.underlying24 rfl (by kernel_rfl) Tryz.underlying26 (by kernel_rfl) (by kernel_rfl)
theorem gd2:Tryz.prog.eqGuardType Tryz.prog.depth 26=false:=by kernel_rfl
end Fp2
namespace Fp2
open Go Go.RowKit Reg Base Limb Fp
theorem gdF:Tryz.prog.eqGuardType Tryz.prog.depth 24=false:=by kernel_rfl
section
variable (p q:G)
end
end Fp2
namespace Fp2
open Go Go.RowKit Reg Base Limb Fp
section
variable {x y:List Int}
theorem pAdd (h:Nm 6 x)(h':Nm 6 y)(w:World)(hG:Glob w):Calls Tryz.prog 124 #[.agg (vals .u64 x),.agg (vals .u64 y)] w fun e w'=>e=.returned (.agg (vals .u64 (fe (num x+num y))))/\Below w.heap.size w w':=fpAdd_c x h.len h.words y h'.len h'.words w hG
theorem pSub (h:Nm 6 x)(h':Nm 6 y)(w:World)(hG:Glob w):Calls Tryz.prog 117 #[.agg (vals .u64 x),.agg (vals .u64 y)] w fun e w'=>e=.returned (.agg (vals .u64 (fe (num x-num y))))/\Below w.heap.size w w':=fpSub_c x h.len h.words y h'.len h'.words w hG
theorem pMul (h:Nm 6 x)(h':Nm 6 y)(w:World)(hG:Glob w):Calls Tryz.prog 120 #[.agg (vals .u64 x),.agg (vals .u64 y)] w fun e w'=>e=.returned (.agg (vals .u64 (fe (num x*num y))))/\Below w.heap.size w w':=fpMul_c x h.len h.words y h'.len h'.words w hG
end
end Fp2
namespace Fp2
open Go Go.RowKit Reg Base Limb Fp
section
variable {x:List Int}
theorem pRed (h:Nm 6 x)(w:World)(hG:Glob w):Calls Tryz.prog 115 #[.agg (vals .u64 x)] w fun e w'=>e=.returned (.agg (vals .u64 (Fp.fe (num x))))/\Below w.heap.size w w':=fpReduce_c x h.len h.words w hG
theorem pNeg (h:Nm 6 x)(w:World)(hG:Glob w):Calls Tryz.prog 116 #[.agg (vals .u64 x)] w fun e w'=>e=.returned (.agg (vals .u64 (Fp.fe (-num x))))/\Below w.heap.size w w':=fpNeg_c x h.len h.words w hG
end
theorem nfe (x:Int):num (Fp.fe x)%PP=x%PP:=by rw[num_fe,Int.emod_emod]
theorem mul_b (p q x y:Int):Fp.fe (num (Fp.fe (num (Fp.fe p)*num (Fp.fe q)))-num (Fp.fe (num (Fp.fe x)+num (Fp.fe y))))=Fp.fe (p*q-(x+y)):=by
 rw[fe_subl,fe_subr]
 refine fe_congr ?_
 have h1:=mulm (nfe p) (nfe q)
 have h2:(num (Fp.fe x)+num (Fp.fe y))%PP=(x+y)%PP:=by rw[Int.add_emod,nfe,nfe,<-Int.add_emod]
 rw[Int.sub_emod,h1,h2,<-Int.sub_emod]
theorem mul_v (a b:List Int):Fp.fe (num (Fp.fe (num (seg 0 6 a)*num (seg 0 6 b)))-num (Fp.fe (num (seg 6 6 a)*num (seg 6 6 b))))++Fp.fe (num (Fp.fe (num (Fp.fe (num (seg 0 6 a)+num (seg 6 6 a)))*num (Fp.fe (num (seg 0 6 b)+num (seg 6 6 b)))))-num (Fp.fe (num (Fp.fe (num (seg 0 6 a)*num (seg 0 6 b)))+num (Fp.fe (num (seg 6 6 a)*num (seg 6 6 b))))))=F2 (gm (v2 a) (v2 b)):=by
 rw[mul_b,fe_subl,fe_subr,F2]
 show _=Fp.fe (num (seg 0 6 a)*num (seg 0 6 b)-num (seg 6 6 a)*num (seg 6 6 b))++Fp.fe (num (seg 0 6 a)*num (seg 6 6 b)+num (seg 6 6 a)*num (seg 0 6 b))
 congr 2
 grind
theorem square_v (a:List Int):Fp.fe (num (Fp.fe (num (seg 0 6 a)+num (seg 6 6 a)))*num (Fp.fe (num (seg 0 6 a)-num (seg 6 6 a))))++Fp.fe (num (Fp.fe (num (seg 0 6 a)*num (seg 6 6 a)))+num (Fp.fe (num (seg 0 6 a)*num (seg 6 6 a))))=F2 (gm (v2 a) (v2 a)):=by
 rw[fe_mull,fe_mulr,fe_addl,fe_addr,F2]
 show _=Fp.fe (num (seg 0 6 a)*num (seg 0 6 a)-num (seg 6 6 a)*num (seg 6 6 a))++Fp.fe (num (seg 0 6 a)*num (seg 6 6 a)+num (seg 6 6 a)*num (seg 0 6 a))
 congr 2<;>grind
theorem xi_v (a:List Int):Fp.fe (num (seg 0 6 a)-num (seg 6 6 a))++Fp.fe (num (seg 0 6 a)+num (seg 6 6 a))=F2 (gm (v2 a) (1,1)):=by
 rw[F2]
 show _=Fp.fe (num (seg 0 6 a)*1-num (seg 6 6 a)*1)++Fp.fe (num (seg 0 6 a)*1+num (seg 6 6 a)*1)
 rw[Int.mul_one,Int.mul_one]
theorem inv_v (a:List Int):E2 (gk (v2 (F2 (gc (v2 a)))) (num (Fp.fe (pw (num (Fp.fe (num (Fp.fe (num (seg 0 6 a)*num (seg 0 6 a)))+num (Fp.fe (num (seg 6 6 a)*num (seg 6 6 a)))))) (PP-2))))) (gi (v2 a)):=by
 refine gk_congr (v2_F2 _) ?_
 rw[nfe]
 refine pw_congr ?_ _
 rw[nfe,Int.add_emod,nfe,nfe,<-Int.add_emod]
 rfl
end Fp2
end Go.Proofs.YtjamcbjghffboaaGreatDoor
