/-
  Own text.
-/
import Derived.Test.YtjamcbjghffboaaGreatDoorMPt
import Derived.Test.YtjamcbjghffboaaGreatDoorMSy
import Derived.Test.YtjamcbjghffboaaGreatDoorMFw1
import Derived.Test.YtjamcbjghffboaaGreatDoorMFpN
import Derived.Test.YtjamcbjghffboaaGreatDoorMFp2
import Derived.Test.YtjamcbjghffboaaGreatDoorMFp2M
import Derived.Test.YtjamcbjghffboaaGreatDoorS7
import Derived.Test.YtjamcbjghffboaaGreatDoorMFpR
import Derived.Test.YtjamcbjghffboaaGreatDoorMReg
import Derived.Test.YtjamcbjghffboaaGreatDoorFp2AlgI
set_option linter.unusedVariables false
set_option linter.unusedSimpArgs false
set_option maxRecDepth 100000
namespace Go.Proofs.YtjamcbjghffboaaGreatDoor
namespace G1K
open Go Go.RowKit Reg Base Limb Sx Fp Fp2 Ec Pts
instance decZ:DecidablePred FI.Z:=fun a=>inferInstanceAs (Decidable (a%PP=0))
theorem feq {a b:Int}:FI.eq a b↔a%PP=b%PP:=by
 rw[Int.emod_eq_emod_iff_emod_sub_eq_zero,Int.sub_eq_add_neg,<-Int.neg_one_mul]
 exact Iff.rfl
def K1:Nk Int where
 F:=FI
 n:=6
 wo:=Fp.fe
 va:=num
 wo_nm:=fun a=>.fe a
 wo_eq:=fun h=>fe_congr (feq.1 h)
 eq_wo:=fun h=>feq.2 (fe_inj h)
 va_wo:=fun a=>feq.2 (by rw[num_fe,Int.emod_emod])
 inv_eq:=fun h=>feq.2 (pw_congr (feq.1 h) _)
 dec:=decZ
theorem fsub (a b:Int):FI.sub a b=a-b:=by
 show a + -1*b=a-b
 omega
theorem num_k (k:Int):num [k,0,0,0,0,0]=k:=by
 simp[num,low,nth,wp]
theorem va_k (k:Int):K1.va [k,0,0,0,0,0]=K1.F.int k:=num_k k
def c0:List Int:=[0,0,0,0,0,0]
def c1:List Int:=[1,0,0,0,0,0]
def c2:List Int:=[2,0,0,0,0,0]
def c3:List Int:=[3,0,0,0,0,0]
def c4:List Int:=[4,0,0,0,0,0]
def c8:List Int:=[8,0,0,0,0,0]
theorem h0:K1.wo (K1.F.int 0)=c0:=by decide +kernel
theorem h2:K1.va c2=K1.F.int 2:=va_k 2
theorem h3:K1.va c3=K1.F.int 3:=va_k 3
theorem h4:K1.va c4=K1.F.int 4:=va_k 4
theorem h8:K1.va c8=K1.F.int 8:=va_k 8
def PA (A:Pt Int):AV:=.agg [.nums 12 (ptW K1 A),.nm (.bl (ptB A))]
theorem pa_ok (A:Pt Int)(n:Nat):(PA A).Ok n:=⟨nm_ptW K1 A,trivial,trivial⟩
theorem pa_den (A:Pt Int)(gs:List Nat):(PA A).den gs=.agg (vals .u64 (ptW K1 A) ++ #[.bool (ptB A)]):=by simp[PA,AV.den,den,Sg.den,NV.den,vals]
theorem eqG:EqOB Tryz.prog 10000 35 12:=eqob_two (d:=9998) (n:=6) (eqok_arr (d:=9997) Tryz.underlying24 Tryz.underlying22 (by kernel_rfl) (by kernel_rfl)) Tryz.underlying24 rfl (by kernel_rfl) Tryz.underlying4 Tryz.underlying35 (by kernel_rfl) (by kernel_rfl)
theorem gdG:Tryz.prog.eqGuardType Tryz.prog.depth 35=false:=by kernel_rfl
theorem eqF:EqOK Tryz.prog 10000 24 6:=eqok_arr (d:=9998) Tryz.underlying24 Tryz.underlying22 (by kernel_rfl) (by kernel_rfl)
theorem gdF:Tryz.prog.eqGuardType Tryz.prog.depth 24=false:=by kernel_rfl
def o1 (f:List Int->Bool->AV):List AA->AV
 |[.p x b]=>f x b
 |_=>.unk
abbrev Pre0:List AA->List Ob:=fun _=>[]
section
variable {P:Program} {G:World->Prop} {F:FuncId}
theorem con1 {f:List Int->Bool->AV}(h0:∀x b n,(f x b).Ok n)(h1:∀x b gs,(f x b).den gs=(f x b).den [])(h:∀x,Nm 12 x->∀b w,G w->Calls P F #[.agg (vals .u64 x ++ #[.bool b])] w fun e w'=>e=.returned ((f x b).den [])/\RowKit.Below w.heap.size w w'):ConG P G F [.p 12] Pre0 (o1 f):=by
 intro l hl _
 match l,hl with
 |[.p x b],⟨hx,_⟩=>
  refine⟨h0 x b,h1 x b,fun w hG vs hv=>?_⟩
  match vs,hv with
  |[v],⟨hv,_⟩=>
   obtain rfl:=hv
   exact h x hx b w hG
end
theorem p_den {x:List Int}{b:Bool}{gs:List Nat}:(AV.agg [.nums 12 x,.nm (.bl b)]).den gs=.agg (vals .u64 x ++ #[.bool b]):=by simp[AV.den,den,Sg.den,NV.den,vals]
theorem noSS {G:World->Prop}{w:World}(h:G w):GS G [] w:=⟨h,fun s hs=>by cases hs⟩
theorem rReduce:Con Tryz.prog GlobD 83 [6] (f1 fun x=>W 6 (wr K1 x)):=.un (fun _ _=>K1.wo_nm _) (fun x h w _=>Fp2.rRed h w)
theorem rAdd:Con Tryz.prog GlobD 82 [6,6] (f2 fun x y=>W 6 (wa K1 x y)):=.bi (fun _ _ _ _=>K1.wo_nm _) (fun x h y k w _=>Fp2.rAdd h k w)
theorem rSub:Con Tryz.prog GlobD 80 [6,6] (f2 fun x y=>W 6 (ws K1 x y)):=.bi (fun _ _ _ _=>K1.wo_nm _) (fun x h y k w _=>by rw[show ws K1 x y=Fp.fe (num x-num y) from congrArg Fp.fe (fsub _ _)];exact Fp2.rSub h k w)
theorem rNeg:Con Tryz.prog GlobD 84 [6] (f1 fun x=>W 6 (wn K1 x)):=.un (fun _ _=>K1.wo_nm _) (fun x h w _=>by rw[show wn K1 x=Fp.fe (-num x) from congrArg Fp.fe ((fsub _ _).trans (Int.zero_sub _))];exact Fp2.rNeg h w)
theorem rMul:Con Tryz.prog GlobD 81 [6,6] (f2 fun x y=>W 6 (wm K1 x y)):=.bi (fun _ _ _ _=>K1.wo_nm _) (fun x h y k w _=>Fp2.rMul h k w)
theorem rInv:Con Tryz.prog GlobD 89 [6] (f1 fun x=>W 6 (wi K1 x)):=.un (fun _ _=>K1.wo_nm _) (fun x h w _=>Fp2.rInv h w)
end G1K
namespace G2K
open Go Go.RowKit Reg Base Limb Sx Fp Fp2 Ec Pts
instance decZ:DecidablePred FG.Z:=fun a=>inferInstanceAs (Decidable (a.1%PP=0/\a.2%PP=0))
theorem fsub (a b:Fp2.G):FG.sub a b=gs a b:=by
 show ga a (gm (-1,0) b)=gs a b
 apply Prod.ext<;>simp[ga,gm,gs,Int.sub_eq_add_neg]
theorem feq {a b:Fp2.G}:FG.eq a b↔E2 a b:=by
 have h:FG.add a (FG.mul (FG.int (-1)) b)=gs a b:=fsub a b
 rw[Fd.eq,h]
 show ((a.1-b.1)%PP=0/\(a.2-b.2)%PP=0)↔(a.1%PP=b.1%PP/\a.2%PP=b.2%PP)
 rw[Int.emod_eq_emod_iff_emod_sub_eq_zero,Int.emod_eq_emod_iff_emod_sub_eq_zero]
def K2:Nk Fp2.G where
 F:=FG
 n:=12
 wo:=F2
 va:=v2
 wo_nm:=fun a=>.F2 a
 wo_eq:=fun h=>F2_eq (feq.1 h)
 eq_wo:=fun h=>feq.2 (F2_inj h)
 va_wo:=fun a=>feq.2 (v2_F2 a)
 inv_eq:=fun h=>feq.2 (gi_congr (feq.1 h))
 dec:=decZ
theorem va_k (k:Int):K2.va [k,0,0,0,0,0,0,0,0,0,0,0]=K2.F.int k:=by
 show (num [k,0,0,0,0,0],num [0,0,0,0,0,0])=(k,0)
 simp[num,low,nth,wp]
def c0:List Int:=[0,0,0,0,0,0,0,0,0,0,0,0]
def c1:List Int:=[1,0,0,0,0,0,0,0,0,0,0,0]
def c2:List Int:=[2,0,0,0,0,0,0,0,0,0,0,0]
def c3:List Int:=[3,0,0,0,0,0,0,0,0,0,0,0]
def c4:List Int:=[4,0,0,0,0,0,0,0,0,0,0,0]
def c8:List Int:=[8,0,0,0,0,0,0,0,0,0,0,0]
theorem h0:K2.wo (K2.F.int 0)=c0:=by decide +kernel
theorem h2:K2.va c2=K2.F.int 2:=va_k 2
theorem h3:K2.va c3=K2.F.int 3:=va_k 3
theorem h4:K2.va c4=K2.F.int 4:=va_k 4
theorem h8:K2.va c8=K2.F.int 8:=va_k 8
def bb:Fp2.G:=(4,4)
def cb:List Int:=[4,0,0,0,0,0,4,0,0,0,0,0]
theorem hb:K2.va cb=bb:=by decide +kernel
def PA (A:Pt Fp2.G):AV:=.agg [.nums 24 (ptW K2 A),.nm (.bl (ptB A))]
theorem pa_ok (A:Pt Fp2.G)(n:Nat):(PA A).Ok n:=⟨nm_ptW K2 A,trivial,trivial⟩
theorem pa_den (A:Pt Fp2.G)(gs:List Nat):(PA A).den gs=.agg (vals .u64 (ptW K2 A) ++ #[.bool (ptB A)]):=by simp[PA,AV.den,den,Sg.den,NV.den,vals]
theorem eqG:EqOB Tryz.prog 10000 37 24:=eqob_two (n:=12) (eqok_two (d:=9998) (n:=6) (eqok_arr (d:=9996) Tryz.underlying24 Tryz.underlying22 (by kernel_rfl) (by kernel_rfl)) Tryz.underlying24 rfl (by kernel_rfl) Tryz.underlying26 (by kernel_rfl) (by kernel_rfl)) Tryz.underlying26 rfl (by kernel_rfl) Tryz.underlying4 Tryz.underlying37 (by kernel_rfl) (by kernel_rfl)
theorem gdG:Tryz.prog.eqGuardType Tryz.prog.depth 37=false:=by kernel_rfl
theorem eqF:EqOK Tryz.prog 10000 26 12:=eqok2
theorem gdF:Tryz.prog.eqGuardType Tryz.prog.depth 26=false:=by kernel_rfl
def o1 (f:List Int->Bool->AV):List AA->AV
 |[.p x b]=>f x b
 |_=>.unk
def o2 (f:List Int->Bool->List Int->Bool->AV):List AA->AV
 |[.p x b,.p y c]=>f x b y c
 |_=>.unk
abbrev Pre0:List AA->List Ob:=fun _=>[]
section
variable {P:Program} {G:World->Prop} {F:FuncId}
theorem con1 {f:List Int->Bool->AV}(h0:∀x b n,(f x b).Ok n)(h1:∀x b gs,(f x b).den gs=(f x b).den [])(h:∀x,Nm 24 x->∀b w,G w->Calls P F #[.agg (vals .u64 x ++ #[.bool b])] w fun e w'=>e=.returned ((f x b).den [])/\RowKit.Below w.heap.size w w'):ConG P G F [.p 24] Pre0 (o1 f):=by
 intro l hl _
 match l,hl with
 |[.p x b],⟨hx,_⟩=>
  refine⟨h0 x b,h1 x b,fun w hG vs hv=>?_⟩
  match vs,hv with
  |[v],⟨hv,_⟩=>
   obtain rfl:=hv
   exact h x hx b w hG
theorem con2 {f:List Int->Bool->List Int->Bool->AV}(h0:∀x b y c n,(f x b y c).Ok n)(h1:∀x b y c gs,(f x b y c).den gs=(f x b y c).den [])(h:∀x,Nm 24 x->∀b y,Nm 24 y->∀c w,G w->Calls P F #[.agg (vals .u64 x ++ #[.bool b]),.agg (vals .u64 y ++ #[.bool c])] w fun e w'=>e=.returned ((f x b y c).den [])/\RowKit.Below w.heap.size w w'):ConG P G F [.p 24,.p 24] Pre0 (o2 f):=by
 intro l hl _
 match l,hl with
 |[.p x b,.p y c],⟨hx,hy,_⟩=>
  refine⟨h0 x b y c,h1 x b y c,fun w hG vs hv=>?_⟩
  match vs,hv with
  |[v,u],⟨hv,hu,_⟩=>
   obtain rfl:=hv
   obtain rfl:=hu
   exact h x hx b y hy c w hG
end
theorem p_den {x:List Int}{b:Bool}{gs:List Nat}:(AV.agg [.nums 24 x,.nm (.bl b)]).den gs=.agg (vals .u64 x ++ #[.bool b]):=by simp[AV.den,den,Sg.den,NV.den,vals]
theorem noSS {G:World->Prop}{w:World}(h:G w):GS G [] w:=⟨h,fun s hs=>by cases hs⟩
theorem rReduce:Con Tryz.prog GlobD 75 [12] (f1 fun x=>W 12 (wr K2 x)):=S7.qReduce
theorem rAdd:Con Tryz.prog GlobD 73 [12,12] (f2 fun x y=>W 12 (wa K2 x y)):=S7.qAdd
theorem rSub:Con Tryz.prog GlobD 77 [12,12] (f2 fun x y=>W 12 (ws K2 x y)):=by rw[show (f2 fun x y=>W 12 (ws K2 x y))=f2 fun x y=>W 12 (F2 (gs (v2 x) (v2 y))) from congrArg f2 (funext fun x=>funext fun y=>congrArg (W 12) (congrArg F2 (fsub _ _)))];exact S7.qSub
theorem rNeg:Con Tryz.prog GlobD 76 [12] (f1 fun x=>W 12 (wn K2 x)):=by rw[show (f1 fun x=>W 12 (wn K2 x))=f1 fun x=>W 12 (F2 (gn (v2 x))) from congrArg f1 (funext fun x=>congrArg (W 12) (congrArg F2 ((fsub _ _).trans (by show ((0:Int)-(v2 x).1,(0:Int)-(v2 x).2)=(-(v2 x).1,-(v2 x).2);rw[Int.zero_sub,Int.zero_sub]))))];exact S7.qNeg
theorem rMul:Con Tryz.prog GlobD 47 [12,12] (f2 fun x y=>W 12 (wm K2 x y)):=S7.qMul
theorem rInv:Con Tryz.prog GlobD 79 [12] (f1 fun x=>W 12 (wi K2 x)):=S7.qInv
end G2K
namespace Ey
open Go Go.RowKit Reg Base Limb Fp
section
variable {n:Nat} {l:List Int}
abbrev ji (n k:Nat):Int:=64*(n:Int)-1-k
abbrev wd_ (n:Nat)(l:List Int)(k:Nat):Int:=nth l ((ji n k/64).toNat*1)/2^(ji n k%64).toNat
theorem wd_in (hw:Words l)(k:Nat):0<=wd_ n l k/\wd_ n l k<=18446744073709551615:=by
 have h:=hw ((ji n k/64).toNat*1)
 have h2:wd_ n l k<=nth l ((ji n k/64).toNat*1):=Int.ediv_le_self _ h.1
 exact⟨Int.ediv_nonneg h.1 (Int.le_of_lt (Int.pow_pos (by decide))),by omega⟩
def ey (n:Nat)(l:List Int)(k:Nat):Nat:=(num l/tp (64*n-k)).toNat
theorem ey_0 (hw:Words l)(hl:l.length=n):ey n l 0=0:=by
 have hb:=num_bounds hw
 rw[hl] at hb
 rw[ey,show 64*n-0=64*n by omega,tp_wp,Int.ediv_eq_zero_of_lt hb.1 hb.2]
 rfl
theorem ey_n:ey n l (64*n)=(num l).toNat:=by rw[ey,Nat.sub_self,tp_zero,Int.ediv_one]
theorem ey_more {k:Nat}(hk:k<64*n)(hw:Words l):ey n l (k+1)=2*ey n l k+(wd_ n l k%2).toNat:=by
 have h:=num_shift (num l) (64*n-(k+1))
 rw[num_bit hw,show 64*n-(k+1)+1=64*n-k by omega] at h
 have e:bitL l (64*n-(k+1))=wd_ n l k%2:=by
  show nth l ((64*n-(k+1))/64)/2^((64*n-(k+1))%64)%2=nth l ((ji n k/64).toNat*1)/2^(ji n k%64).toNat%2
  rw[show (ji n k/64).toNat*1=(64*n-(k+1))/64 by simp only[ji];omega,show (ji n k%64).toNat=(64*n-(k+1))%64 by simp only[ji];omega]
 rw[e] at h
 have h0:0<=num l/tp (64*n-k):=Int.ediv_nonneg (num_bounds hw).1 (Int.le_of_lt (tp_pos _))
 have h1:=Int.emod_nonneg (wd_ n l k) (show (2:Int)≠0 by decide)
 rw[ey,ey,h]
 omega
end
end Ey
namespace S12R
open Go Go.RowKit Reg Base Limb Sx Fp Fp2 Ec Pts G1K Ey
def L0:List (Fact Tryz.prog GlobD):=rReduce.fact (.con Tryz.func83 rfl (by decide) rReduce) ::
 rAdd.fact (.con Tryz.func82 rfl (by decide) rAdd) ::
 rSub.fact (.con Tryz.func80 rfl (by decide) rSub) ::
 rNeg.fact (.con Tryz.func84 rfl (by decide) rNeg) ::
 rMul.fact (.con Tryz.func81 rfl (by decide) rMul) ::
 rInv.fact (.con Tryz.func89 rfl (by decide) rInv) ::
 []
def XN:Cx:=.of [] []
theorem XN_ok:CxOk Tryz.prog XN GlobD:=cx_ok (E:=[]) [] trivial (by kernel_rfl)
def L1:List (Fact Tryz.prog GlobD):=⟨88,entI 88 XN 9,.inline XN_ok GlobD.keep Tryz.func88 rfl (by decide)⟩ ::
 ⟨94,entI 94 XN 9,.inline XN_ok GlobD.keep Tryz.func94 rfl (by decide)⟩ ::
 L0
def X1:Cx:=((Cx.of [(24,6)] (tb L1)).eqs [(35,12)]).more []
theorem X1_ok:CxOk Tryz.prog X1 GlobD:=((cx_ok (E:=[(24,6)]) L1 ⟨⟨G1K.eqF,G1K.gdF⟩,trivial⟩ (by kernel_rfl)).eqs (EM:=[(35,12)]) ⟨⟨eqG,gdG⟩,trivial⟩).more (T2:=[]) trivial
theorem qReduce:ConG Tryz.prog GlobD 85 [.p 12] Pre0 (o1 fun x b=>PA (ptv K1 x b)):=con1 (fun x b n=>pa_ok _ _) (fun x b gs=>by rw[pa_den,pa_den]) (fun x hx b w hG=>by
 cases b
 ·exact fn_outS (N:=9) X1_ok GlobD.keep Tryz.func85 [] (fun s hs=>by cases hs) (noSS hG) (args:=[.agg [.nums 12 x,.nm (.bl false)]]) (q:=[false]) (v:=(.agg [.nums 12 (wr K1 (seg 0 6 x)++wr K1 (seg 6 6 x)),.nm (.bl false)])) (obs:=[false=false]) 1 (by kernel_rfl) (hp (rfl) trivial) (okA1 ⟨hx,trivial,trivial⟩) (by rw[ptv_f];rfl) (by simp only[List.map_cons,List.map_nil,p_den])
 ·exact fn_outS (N:=9) X1_ok GlobD.keep Tryz.func85 [] (fun s hs=>by cases hs) (noSS hG) (args:=[.agg [.nums 12 x,.nm (.bl true)]]) (q:=[true]) (v:=(PA none)) (obs:=[true=true]) 1 (by kernel_rfl) (hp (rfl) trivial) (okA1 ⟨hx,trivial,trivial⟩) (by rw[ptv_t]) (by simp only[List.map_cons,List.map_nil,p_den]))
theorem qOn:ConG Tryz.prog GlobD 52 [.p 12] Pre0 (o1 fun x b=>.bl (onB K1 (K1.F.int 4) (ptv K1 x b))):=con1 (fun x b n=>trivial) (fun x b gs=>rfl) (fun x hx b w hG=>by
 cases b
 ·have ho:=on_w (K:=K1) (h4:=h4) (seg 0 6 x) (seg 6 6 x)
  by_cases h:wm K1 (seg 6 6 x) (seg 6 6 x)=wa K1 (wm K1 (wm K1 (seg 0 6 x) (seg 0 6 x)) (seg 0 6 x)) c4
  ·exact fn_outS (N:=9) X1_ok GlobD.keep Tryz.func52 [] (fun s hs=>by cases hs) (noSS hG) (args:=[.agg [.nums 12 x,.nm (.bl false)]]) (q:=[false,true]) (v:=(.bl true)) (obs:=[false=false,qb true (wm K1 (seg 6 6 x) (seg 6 6 x)=wa K1 (wm K1 (wm K1 (seg 0 6 x) (seg 0 6 x)) (seg 0 6 x)) c4)]) 1 (by kernel_rfl) (hp (rfl) (hp (h) trivial)) (okA1 ⟨hx,trivial,trivial⟩) (by rw[ptv_f];exact congrArg Value.bool (ho.1 h).symm) (by simp only[List.map_cons,List.map_nil,p_den])
  ·exact fn_outS (N:=9) X1_ok GlobD.keep Tryz.func52 [] (fun s hs=>by cases hs) (noSS hG) (args:=[.agg [.nums 12 x,.nm (.bl false)]]) (q:=[false,false]) (v:=(.bl false)) (obs:=[false=false,qb false (wm K1 (seg 6 6 x) (seg 6 6 x)=wa K1 (wm K1 (wm K1 (seg 0 6 x) (seg 0 6 x)) (seg 0 6 x)) c4)]) 1 (by kernel_rfl) (hp (rfl) (hp (h) trivial)) (okA1 ⟨hx,trivial,trivial⟩) (by rw[ptv_f];exact congrArg Value.bool (Bool.eq_false_iff.2 (fun e=>h (ho.2 e))).symm) (by simp only[List.map_cons,List.map_nil,p_den])
 ·exact fn_outS (N:=9) X1_ok GlobD.keep Tryz.func52 [] (fun s hs=>by cases hs) (noSS hG) (args:=[.agg [.nums 12 x,.nm (.bl true)]]) (q:=[true]) (v:=(.bl true)) (obs:=[true=true]) 1 (by kernel_rfl) (hp (rfl) trivial) (okA1 ⟨hx,trivial,trivial⟩) (by rw[ptv_t];rfl) (by simp only[List.map_cons,List.map_nil,p_den]))
def T2:List (FuncId×Ent2):=[(85,entG [.p 12] Pre0 (o1 fun x b=>PA (ptv K1 x b))),(52,entG [.p 12] Pre0 (o1 fun x b=>.bl (onB K1 (K1.F.int 4) (ptv K1 x b))))]
theorem T2_ok:TOk2 Tryz.prog GlobD T2:=⟨.conG Tryz.func85 rfl (by decide) qReduce,.conG Tryz.func52 rfl (by decide) qOn,trivial⟩
def X2:Cx:=((Cx.of [(24,6)] (tb L1)).eqs [(35,12)]).more T2
theorem X2_ok:CxOk Tryz.prog X2 GlobD:=((cx_ok (E:=[(24,6)]) L1 ⟨⟨G1K.eqF,G1K.gdF⟩,trivial⟩ (by kernel_rfl)).eqs (EM:=[(35,12)]) ⟨⟨eqG,gdG⟩,trivial⟩).more T2_ok
def T3_:List (FuncId×Ent2):=[(85,entG [.p 12] Pre0 (o1 fun x b=>PA (ptv K1 x b))),(52,entG [.p 12] Pre0 (o1 fun x b=>.bl (onB K1 (K1.F.int 4) (ptv K1 x b))))]
theorem T3__ok:TOk2 Tryz.prog GlobD T3_:=⟨.conG Tryz.func85 rfl (by decide) qReduce,.conG Tryz.func52 rfl (by decide) qOn,trivial⟩
theorem nm_twR (X Y Z:List Int):Nm 18 (twR K1 c2 c3 c4 c8 X Y Z):=((K1.wo_nm _).app (K1.wo_nm _)).app (K1.wo_nm _)
theorem nm_plR (X Y Z u v:List Int):Nm 18 (plRw K1 X Y Z u v):=((K1.wo_nm _).app (K1.wo_nm _)).app (K1.wo_nm _)
theorem qTwice:Con Tryz.prog GlobD 86 [18] (f1 fun l=>W 18 (twR K1 c2 c3 c4 c8 (seg 0 6 l) (seg 6 6 l) (seg 12 6 l))):=.w1 X2_ok GlobD.keep Tryz.func86 9 (fun _ _=>nm_twR _ _ _) (fun _ _=>rfl) (fun _=>by kernel_rfl)
theorem nm_c1:Nm 6 c1:=⟨rfl,words_of _ (by decide)⟩
theorem nm_plF {l q:List Int}(hq:Nm 12 q):Nm 18 (plF K1 c0 c1 c2 c3 c4 c8 l q):=by
 unfold plF
 split
 ·exact hq.app nm_c1
 ·split
  ·split
   ·exact nm_twR _ _ _
   ·exact⟨rfl,words_zeros 18⟩
  ·exact nm_plR _ _ _ _ _
abbrev PreF1:List AA->List Ob
 |[.w l,.p q b]=>[b=false]
 |_=>[]
def owp (f:List Int->List Int->AV):List AA->AV
 |[.w l,.p q _]=>f l q
 |_=>.unk
theorem conwp {P:Program}{G:World->Prop}{F:FuncId}{f:List Int->List Int->AV}(h0:∀l q,Nm 12 q->∀n,(f l q).Ok n)(h1:∀l q gs,(f l q).den gs=(f l q).den [])(h:∀l,Nm 18 l->∀q,Nm 12 q->∀w,G w->Calls P F #[.agg (vals .u64 l),.agg (vals .u64 q ++ #[.bool false])] w fun e w'=>e=.returned ((f l q).den [])/\RowKit.Below w.heap.size w w'):ConG P G F [.w 18,.p 12] PreF1 (owp f):=by
 intro l hl hp
 match l,hl,hp with
 |[.w x,.p q c],⟨hx,hy,_⟩,hp=>
  obtain⟨rfl,_⟩:=hp
  refine⟨h0 x q hy,h1 x q,fun w hG vs hv=>?_⟩
  match vs,hv with
  |[v,u],⟨hv,hu,_⟩=>
   obtain rfl:=hv
   obtain rfl:=hu
   exact h x hx q hy w hG
theorem l_den {n:Nat}{x:List Int}{gs:List Nat}:(AV.agg [.nums n x]).den gs=.agg (vals .u64 x):=den_nums
def L4:List (Fact Tryz.prog GlobD):=qTwice.fact (.con Tryz.func86 rfl (by decide) qTwice) ::
 L1
def X4:Cx:=((Cx.of [(24,6)] (tb L4)).eqs [(35,12)]).more T3_
theorem X4_ok:CxOk Tryz.prog X4 GlobD:=((cx_ok (E:=[(24,6)]) L4 ⟨⟨G1K.eqF,G1K.gdF⟩,trivial⟩ (by kernel_rfl)).eqs (EM:=[(35,12)]) ⟨⟨eqG,gdG⟩,trivial⟩).more T3__ok
theorem qPlus:ConG Tryz.prog GlobD 87 [.w 18,.p 12] PreF1 (owp fun l q=>.agg [.nums 18 (plF K1 c0 c1 c2 c3 c4 c8 l q)]):=conwp (fun l q hq n=>⟨nm_plF hq,trivial⟩) (fun l q gs=>rfl) (fun l hl q hq w hG=>by
 by_cases e1:seg 12 6 l=c0
 ·exact fn_outS (N:=9) X4_ok GlobD.keep Tryz.func87 [] (fun s hs=>by cases hs) (noSS hG) (args:=[.agg [.nums 18 l],.agg [.nums 12 q,.nm (.bl false)]]) (q:=[true]) (v:=(.agg [.nums 18 (seg 0 6 q++seg 6 6 q++[1]++[0,0,0,0,0])])) (obs:=[qb true (seg 12 6 l=[0,0,0,0,0,0])]) 1 (by kernel_rfl) (hp (e1) trivial) (okA2 ⟨hl,trivial⟩ ⟨hq,trivial,trivial⟩) (by rw[show plF K1 c0 c1 c2 c3 c4 c8 l q=q++c1 from if_pos e1,<-seg_all (n:=6) (m:=6) hq.len,List.append_assoc];rfl) (by simp only[List.map_cons,List.map_nil,p_den,l_den])
 ·by_cases e2:hW K1 (seg 0 6 l) (seg 12 6 l) (seg 0 6 q)=c0
  ·by_cases e3:rW K1 (seg 6 6 l) (seg 12 6 l) (seg 6 6 q)=c0
   ·exact fn_outS (N:=9) X4_ok GlobD.keep Tryz.func87 [] (fun s hs=>by cases hs) (noSS hG) (args:=[.agg [.nums 18 l],.agg [.nums 12 q,.nm (.bl false)]]) (q:=[false,true,true]) (v:=(.agg [.nums 18 (twR K1 c2 c3 c4 c8 (seg 0 6 l) (seg 6 6 l) (seg 12 6 l))])) (obs:=[qb false (seg 12 6 l=[0,0,0,0,0,0]),qb true (hW K1 (seg 0 6 l) (seg 12 6 l) (seg 0 6 q)=[0,0,0,0,0,0]),qb true (rW K1 (seg 6 6 l) (seg 12 6 l) (seg 6 6 q)=[0,0,0,0,0,0])]) 1 (by kernel_rfl) (hp (e1) (hp (e2) (hp (e3) trivial))) (fun v hv=>by
   simp only[List.mem_cons,List.not_mem_nil,or_false] at hv
   rcases hv with rfl|rfl
   ·exact⟨hl,trivial⟩
   ·exact⟨hq,trivial,trivial⟩) (by rw[show plF K1 c0 c1 c2 c3 c4 c8 l q=twR K1 c2 c3 c4 c8 (seg 0 6 l) (seg 6 6 l) (seg 12 6 l) from (if_neg e1).trans ((if_pos e2).trans (if_pos e3))]) (by simp only[List.map_cons,List.map_nil,p_den,l_den])
   ·exact fn_outS (N:=9) X4_ok GlobD.keep Tryz.func87 [] (fun s hs=>by cases hs) (noSS hG) (args:=[.agg [.nums 18 l],.agg [.nums 12 q,.nm (.bl false)]]) (q:=[false,true,false]) (v:=(.agg [.nums 18 (List.replicate 18 0)])) (obs:=[qb false (seg 12 6 l=[0,0,0,0,0,0]),qb true (hW K1 (seg 0 6 l) (seg 12 6 l) (seg 0 6 q)=[0,0,0,0,0,0]),qb false (rW K1 (seg 6 6 l) (seg 12 6 l) (seg 6 6 q)=[0,0,0,0,0,0])]) 1 (by kernel_rfl) (hp (e1) (hp (e2) (hp (e3) trivial))) (okA2 ⟨hl,trivial⟩ ⟨hq,trivial,trivial⟩) (by rw[show plF K1 c0 c1 c2 c3 c4 c8 l q=List.replicate 18 0 from (if_neg e1).trans ((if_pos e2).trans (if_neg e3))]) (by simp only[List.map_cons,List.map_nil,p_den,l_den])
  ·exact fn_outS (N:=9) X4_ok GlobD.keep Tryz.func87 [] (fun s hs=>by cases hs) (noSS hG) (args:=[.agg [.nums 18 l],.agg [.nums 12 q,.nm (.bl false)]]) (q:=[false,false]) (v:=(.agg [.nums 18 (plRw K1 (seg 0 6 l) (seg 6 6 l) (seg 12 6 l) (seg 0 6 q) (seg 6 6 q))])) (obs:=[qb false (seg 12 6 l=[0,0,0,0,0,0]),qb false (hW K1 (seg 0 6 l) (seg 12 6 l) (seg 0 6 q)=[0,0,0,0,0,0])]) 1 (by kernel_rfl) (hp (e1) (hp (e2) trivial)) (fun v hv=>by
   simp only[List.mem_cons,List.not_mem_nil,or_false] at hv
   rcases hv with rfl|rfl
   ·exact⟨hl,trivial⟩
   ·exact⟨hq,trivial,trivial⟩) (by rw[show plF K1 c0 c1 c2 c3 c4 c8 l q=plRw K1 (seg 0 6 l) (seg 6 6 l) (seg 12 6 l) (seg 0 6 q) (seg 6 6 q) from (if_neg e1).trans (if_neg e2)]) (by simp only[List.map_cons,List.map_nil,p_den,l_den]))
def T5:List (FuncId×Ent2):=[(87,entG [.w 18,.p 12] PreF1 (owp fun l q=>.agg [.nums 18 (plF K1 c0 c1 c2 c3 c4 c8 l q)])),(85,entG [.p 12] Pre0 (o1 fun x b=>PA (ptv K1 x b))),(52,entG [.p 12] Pre0 (o1 fun x b=>.bl (onB K1 (K1.F.int 4) (ptv K1 x b))))]
theorem T5_ok:TOk2 Tryz.prog GlobD T5:=⟨.conG Tryz.func87 rfl (by decide) qPlus,.conG Tryz.func85 rfl (by decide) qReduce,.conG Tryz.func52 rfl (by decide) qOn,trivial⟩
def X5:Cx:=((Cx.of [(24,6)] (tb L4)).eqs [(35,12)]).more T5
theorem X5_ok:CxOk Tryz.prog X5 GlobD:=((cx_ok (E:=[(24,6)]) L4 ⟨⟨G1K.eqF,G1K.gdF⟩,trivial⟩ (by kernel_rfl)).eqs (EM:=[(35,12)]) ⟨⟨eqG,gdG⟩,trivial⟩).more T5_ok
theorem four_ne:¬K1.F.Z (K1.F.int 4):=by show ¬(4:Int)%PP=0;decide +kernel
theorem h1:K1.wo (K1.F.int 1)=c1:=by decide +kernel
theorem hz:List.replicate K1.n 0=c0:=rfl
abbrev q_ (x:List Int):List Int:=ptW K1 (ptv K1 x false)
abbrev tw_ (l:List Int):List Int:=twR K1 c2 c3 c4 c8 (seg 0 6 l) (seg 6 6 l) (seg 12 6 l)
abbrev pl_ (x l:List Int):List Int:=plF K1 c0 c1 c2 c3 c4 c8 l (q_ x)
section
variable (x o:List Int) (A:Option Addr) (n c:Nat) (l:List Int)
def b4:List Bk:=[(35,[.nums 12 x,.nm (.bl false)]),(35,[.nums 12 [0,0,0,0,0,0,0,0,0,0,0,0],.one (.bool false)]),(35,[.nums 12 (q_ x),.nm (.bl false)]),(87,[.nums 18 o])]
def m1 (k:Nat):St:=⟨mkSl 68 [(0,.ext A n c l),(3,.ptr 0 0),(4,.ptr 1 0),(7,.ptr 2 0),(8,.ptr 3 0),(9,.num .i64 (64*(n:Int)-1-k))],b4 x o⟩
def m1e:St:=⟨mkSl 68 [(4,.ptr 1 0),(8,.ptr 3 0)],b4 x o⟩
end
def DM (A:Option Addr)(n:Nat)(l:List Int)(A':Option Addr)(n':Nat)(l':List Int):Prop:=A'=A/\n'=n/\l'=l
def GM (A:Option Addr)(n:Nat)(l:List Int)(B:Nat)(u:World):Prop:=(GlobD u/\B<=u.heap.size)/\Rd u B A n .u64 l
theorem GM.keep {A:Option Addr}{n:Nat}{l:List Int}{B:Nat}{w u:World}(h:GM A n l B w)(hb:RowKit.Below w.heap.size w u):GM A n l B u:=⟨⟨h.1.1.keep hb,Nat.le_trans h.1.2 hb.size⟩,h.2.keep hb h.1.2⟩
abbrev XM (A:Option Addr)(n:Nat)(l:List Int)(H:List (Nat×Ev)):Cx:=X5.sym (DM A n l) H
theorem XM_ok {A:Option Addr}{n:Nat}{l:List Int}{B:Nat}(hw:Words l)(H:List (Nat×Ev)):CxB Tryz.prog (XM A n l H) (GM A n l B):=
 X5_ok.toCxB.sym (fun u h=>h.1.1) (fun A' n' l' h=>by
  obtain⟨rfl,rfl,rfl⟩:=h
  exact⟨hw,B,fun u hu=>⟨hu.1.2,hu.2⟩⟩) H
section
variable {x o o':List Int} {A:Option Addr} {n c:Nat} {l:List Int} {B S:Nat} {w:World}
theorem does (hw:Words l)(hG:∀u,RowKit.Below S w u->GM A n l B u)(c:Code):Does Tryz.prog S 0 w c (evalC Tryz.prog (XM A n l []) 0 9 c):=code_ok (XM_ok hw []) hG c (fun _ _ _ h=>by rw[hooked_nil] at h;cases h)
theorem rndf {k:Nat}(hk:k<64*n)(hn:n<=10000)(h2:qb false (bits .and .u64 (wd_ n l k) 1=1))(hrow:tw_ o=o')(hw:Words l)(hG:∀u,RowKit.Below S w u->GM A n l B u):Goes Tryz.prog S 0 w (lpc Tryz.f49 0) (m1 x o A n c l k) .nrm (m1 x o' A n c l (k+1)):=by
 have hd:=wd_in (n:=n) hw k
 have hand:=and_one hd.1 hd.2
 exact (does hw hG _).goes [true,false] (ps:=[A=A/\n=n/\c=c/\l=l,64*(n:Int)-1-k-1=64*(n:Int)-1-((k+1:Nat):Int),[Sg.nums 12 x,.nm (.bl false)]=[Sg.nums 12 x,.nm (.bl false)],[Sg.nums 12 [0,0,0,0,0,0,0,0,0,0,0,0],.one (.bool false)]=[Sg.nums 12 [0,0,0,0,0,0,0,0,0,0,0,0],.one (.bool false)],[Sg.nums 12 (q_ x),.nm (.bl false)]=[Sg.nums 12 (q_ x),.nm (.bl false)],tw_ o=o',qb true (0<=ji n k),0<=ji n k/\(0:Int)<64,IntKind.i64.wrap (ji n k/64)=ji n k/64,0<=ji n k/64/\ji n k/64<(n:Int),DM A n l A (n*1) l/\0<1,(ji n k/64).toNat*1<n*1,DM A n l A (n*1) l/\0<n*1,0<=ji n k/\(0:Int)<64,True,IntKind.u64.wrap (ji n k%64)=ji n k%64,rng .u64 (ji n k%64),0<=ji n k%64/\ji n k%64<((64:Nat):Int),rng .u64 (wd_ n l k),rng .u64 (bits .and .u64 (wd_ n l k) 1),qb false (bits .and .u64 (wd_ n l k) 1=1),IntKind.i64.wrap (64*(n:Int)-1-k-1)=64*(n:Int)-1-k-1]) (by kernel_rfl) (hp (⟨rfl,rfl,rfl,rfl⟩) (hp (by omega) (hp (rfl) (hp (rfl) (hp (rfl) (hp (hrow) (hp ((by simp only[ji];omega:0<=ji n k)) (hp (by simp only[ji];omega) (hp (IntWalk.i64_in _ (by simp only[ji];omega)) (hp (by simp only[ji];omega) (hp (⟨⟨rfl,Nat.mul_one _,rfl⟩,by decide⟩) (hp (by simp only[ji];omega) (hp (⟨⟨rfl,Nat.mul_one _,rfl⟩,by omega⟩) (hp (by simp only[ji];omega) (hp (trivial) (hp (IntWalk.u64_in _ (by simp only[ji];omega)) (hp ((by simp only[ji];omega:0<=ji n k%64/\ji n k%64<18446744073709551616)) (hp (by simp only[ji];omega) (hp ((by omega:0<=wd_ n l k/\wd_ n l k<18446744073709551616)) (hp (hand▸(by omega:0<=wd_ n l k%2/\wd_ n l k%2<18446744073709551616)) (hp (h2) (hp (IntWalk.i64_in _ (by omega)) trivial)))))))))))))))))))))) (by kernel_rfl)
theorem rndt {k:Nat}(hk:k<64*n)(hn:n<=10000)(h2:qb true (bits .and .u64 (wd_ n l k) 1=1))(hrow:pl_ x (tw_ o)=o')(hw:Words l)(hG:∀u,RowKit.Below S w u->GM A n l B u):Goes Tryz.prog S 0 w (lpc Tryz.f49 0) (m1 x o A n c l k) .nrm (m1 x o' A n c l (k+1)):=by
 have hd:=wd_in (n:=n) hw k
 have hand:=and_one hd.1 hd.2
 exact (does hw hG _).goes [true,true] (ps:=[A=A/\n=n/\c=c/\l=l,64*(n:Int)-1-k-1=64*(n:Int)-1-((k+1:Nat):Int),[Sg.nums 12 x,.nm (.bl false)]=[Sg.nums 12 x,.nm (.bl false)],[Sg.nums 12 [0,0,0,0,0,0,0,0,0,0,0,0],.one (.bool false)]=[Sg.nums 12 [0,0,0,0,0,0,0,0,0,0,0,0],.one (.bool false)],[Sg.nums 12 (q_ x),.nm (.bl false)]=[Sg.nums 12 (q_ x),.nm (.bl false)],pl_ x (tw_ o)=o',qb true (0<=ji n k),0<=ji n k/\(0:Int)<64,IntKind.i64.wrap (ji n k/64)=ji n k/64,0<=ji n k/64/\ji n k/64<(n:Int),DM A n l A (n*1) l/\0<1,(ji n k/64).toNat*1<n*1,DM A n l A (n*1) l/\0<n*1,0<=ji n k/\(0:Int)<64,True,IntKind.u64.wrap (ji n k%64)=ji n k%64,rng .u64 (ji n k%64),0<=ji n k%64/\ji n k%64<((64:Nat):Int),rng .u64 (wd_ n l k),rng .u64 (bits .and .u64 (wd_ n l k) 1),qb true (bits .and .u64 (wd_ n l k) 1=1),false=false,IntKind.i64.wrap (64*(n:Int)-1-k-1)=64*(n:Int)-1-k-1]) (by kernel_rfl) (hp (⟨rfl,rfl,rfl,rfl⟩) (hp (by omega) (hp (rfl) (hp (rfl) (hp (rfl) (hp (hrow) (hp ((by simp only[ji];omega:0<=ji n k)) (hp (by simp only[ji];omega) (hp (IntWalk.i64_in _ (by simp only[ji];omega)) (hp (by simp only[ji];omega) (hp (⟨⟨rfl,Nat.mul_one _,rfl⟩,by decide⟩) (hp (by simp only[ji];omega) (hp (⟨⟨rfl,Nat.mul_one _,rfl⟩,by omega⟩) (hp (by simp only[ji];omega) (hp (trivial) (hp (IntWalk.u64_in _ (by simp only[ji];omega)) (hp ((by simp only[ji];omega:0<=ji n k%64/\ji n k%64<18446744073709551616)) (hp (by simp only[ji];omega) (hp ((by omega:0<=wd_ n l k/\wd_ n l k<18446744073709551616)) (hp (hand▸(by omega:0<=wd_ n l k%2/\wd_ n l k%2<18446744073709551616)) (hp (h2) (hp (rfl) (hp (IntWalk.i64_in _ (by omega)) trivial))))))))))))))))))))))) (by kernel_rfl)
end
section
variable {x o o':List Int} {A:Option Addr} {n c:Nat} {l:List Int} {B S:Nat} {w:World}
theorem end_ (hw:Words l)(hG:∀u,RowKit.Below S w u->GM A n l B u):Goes Tryz.prog S 0 w (lpc Tryz.f49 0) (m1 x o A n c l (64*n)) (.ext 0) (m1e x o):=
 (does hw hG _).goes [false] (ps:=[[Sg.nums 12 x,.nm (.bl false)]=[Sg.nums 12 x,.nm (.bl false)],[Sg.nums 12 [0,0,0,0,0,0,0,0,0,0,0,0],.one (.bool false)]=[Sg.nums 12 [0,0,0,0,0,0,0,0,0,0,0,0],.one (.bool false)],[Sg.nums 12 (q_ x),.nm (.bl false)]=[Sg.nums 12 (q_ x),.nm (.bl false)],o=o,qb false (0<=ji n (64*n))]) (by kernel_rfl) (hp (rfl) (hp (rfl) (hp (rfl) (hp (rfl) (hp ((by simp only[ji];omega:¬(0<=ji n (64*n)))) trivial))))) (by kernel_rfl)
def jr (x:List Int)(n:Nat)(l:List Int):Nat->List Int
 |0=>List.replicate 18 0
 |k+1=>if wd_ n l k%2=1 then pl_ x (tw_ (jr x n l k)) else tw_ (jr x n l k)
theorem loop (hn:n<=10000)(hw:Words l)(hG:∀u,RowKit.Below S w u->GM A n l B u):Goes Tryz.prog S 0 w (.block 0 (.loop (lpc Tryz.f49 0))) (m1 x (jr x n l 0) A n c l 0) .nrm (m1e x (jr x n l (64*n))):=by
 refine .loop (n:=64*n) (fun k=>m1 x (jr x n l k) A n c l k) (fun k hk=>?_) (end_ hw hG)
 have hd:=wd_in (n:=n) hw k
 have hand:=and_one hd.1 hd.2
 by_cases hb:wd_ n l k%2=1
 ·exact rndt hk hn (by rw[hand];exact hb) (by rw[jr,if_pos hb]) hw hG
 ·exact rndf hk hn (by rw[hand];exact hb) (by rw[jr,if_neg hb]) hw hG
theorem jr_ok (hw:Words l)(hl:l.length=n)(on:OnP K1.F (K1.F.int 4) (ptv K1 x false)):∀k,k<=64*n->∃C,Mult K1.F (ey n l k) (ptv K1 x false) C/\RepW K1 (jr x n l k) C
 |0,_=>⟨none,by rw[ey_0 hw hl];trivial,rep_none K1 h0 hz⟩
 |k+1,hk=>by
  obtain⟨C,hC,hR⟩:=jr_ok hw hl on k (by omega)
  obtain⟨D,hD,hE⟩:=round_two K1 h2 h3 h4 h8 four_ne on hC hR
  have hd:=wd_in (n:=n) hw k
  have hm:=ey_more (by omega:k<64*n) hw
  rw[jr]
  by_cases hb:wd_ n l k%2=1
  ·rw[if_pos hb]
   obtain⟨E,e1,e2⟩:=round_one K1 h2 h3 h4 h8 h0 h1 hz on hD hE
   exact⟨E,by rw[hm,hb,show 2*ey n l k+(1:Int).toNat=ey n l k+ey n l k+1 by omega];exact e1,e2⟩
  ·rw[if_neg hb]
   exact⟨D,by rw[hm,show wd_ n l k%2=0 by omega,show 2*ey n l k+(0:Int).toNat=ey n l k+ey n l k by omega];exact hD,hE⟩
end
theorem blk0:blkc Tryz.f49 0=.loop (lpc Tryz.f49 0):=by kernel_rfl
def mulA (m:Nat)(x:List Int)(b:Bool):AV:=.tup [.agg [.nums 12 (ptW K1 (mulO K1 (K1.F.int 4) m (ptv K1 x b))),.nm (.bl (ptB (mulO K1 (K1.F.int 4) m (ptv K1 x b))))],.num .i64 (if onB K1 (K1.F.int 4) (ptv K1 x b)=true then 0 else 120)]
theorem qMul_ (x:List Int)(hx:Nm 12 x)(b:Bool)(A:Option Addr)(n c:Nat)(l:List Int)(B:Nat)(w:World)(hG0:GlobD w)(hr:Rd w B A n .u64 l)(hw:Words l)(hB:B<=w.heap.size)(hn:n<=10000):Calls Tryz.prog 49 #[.slice A n c,.agg (vals .u64 x ++ #[.bool b])] w fun e w'=>e=.returned ((mulA (num l).toNat x b).den [])/\RowKit.Below w.heap.size w w':=by
 have hG:∀u,RowKit.Below w.heap.size w u->GM A n l B u:=fun u hu=>GM.keep ⟨⟨hG0,hB⟩,hr⟩ hu
 cases b
 ·cases hon:onB K1 (K1.F.int 4) (ptv K1 x false)
  ·exact fn_outK (N:=9) (XM_ok (B:=B) hw []) (fun c _ id c' f h=>by rw[hooked_nil] at h;cases h) Tryz.func49 hG (args:=[.ext A n c l,.agg [.nums 12 x,.nm (.bl false)]]) (q:=[false]) (v:=(.tup [.agg [.nums 12 (List.replicate 12 0),.nm (.bl false)],.num .i64 120])) (obs:=[onB K1 (K1.F.int 4) (ptv K1 x false)=false]) 1 (by kernel_rfl) (hp (hon) trivial) (okA2 trivial ⟨hx,trivial,trivial⟩) (by rw[mulA,mulO,if_neg (by rw[hon];decide),if_neg (by rw[hon];decide),show ptW K1 (some (K1.F.int 0,K1.F.int 0))=List.replicate 12 0 by rw[ptW,h0];rfl];rfl) (by simp only[List.map_cons,List.map_nil,p_den];rfl)
  ·have on:=(onB_iff K1).1 hon
   obtain⟨C,hC,hR⟩:=jr_ok hw hr.len on (64*n) (Nat.le_refl _)
   rw[ey_n] at hC
   have hk:AllH Tryz.prog w.heap.size 0 w [(0,blkc Tryz.f49 0,hookEv (m1 x (jr x n l 0) A n c l 0) (m1e x (jr x n l (64*n))))]:=⟨by rw[blk0];exact (loop hn hw hG).does (by kernel_rfl),trivial⟩
   by_cases e:seg 12 6 (jr x n l (64*n))=c0
   ·obtain⟨f1,f2⟩:=fin_z K1 h0 on hC hR e
    exact fn_outK (N:=9) (XM_ok (B:=B) hw [(0,hookEv (m1 x (jr x n l 0) A n c l 0) (m1e x (jr x n l (64*n))))]) (fn_hooks (by kernel_rfl) hk) Tryz.func49 hG (args:=[.ext A n c l,.agg [.nums 12 x,.nm (.bl false)]]) (q:=[true,false,true]) (v:=(.tup [.agg [.nums 12 (ptW K1 none),.nm (.bl true)],.num .i64 0])) (obs:=[onB K1 (K1.F.int 4) (ptv K1 x false)=true,false=false,IntKind.i64.wrap (64*(n:Int))=64*(n:Int),IntKind.i64.wrap (64*(n:Int)-1)=64*(n:Int)-1,A=A/\n=n/\c=c/\l=l,64*(n:Int)-1=64*(n:Int)-1-((0:Nat):Int),[Sg.nums 12 x,.nm (.bl false)]=[Sg.nums 12 x,.nm (.bl false)],[Sg.nums 12 [0,0,0,0,0,0,0,0,0,0,0,0],.one (.bool false)]=[Sg.nums 12 [0,0,0,0,0,0,0,0,0,0,0,0],.one (.bool false)],[Sg.nums 12 (q_ x),.nm (.bl (ptB (ptv K1 x false)))]=[Sg.nums 12 (q_ x),.nm (.bl false)],List.replicate 18 0=jr x n l 0,qb true (seg 12 6 (jr x n l (64*n))=[0,0,0,0,0,0])]) 1 (by kernel_rfl) (hp (hon) (hp (rfl) (hp (IntWalk.i64_in _ (by omega)) (hp (IntWalk.i64_in _ (by omega)) (hp (⟨rfl,rfl,rfl,rfl⟩) (hp (by omega) (hp (rfl) (hp (rfl) (hp (rfl) (hp (rfl) (hp (e) trivial))))))))))) (okA2 trivial ⟨hx,trivial,trivial⟩) (by rw[mulA,mulO,if_pos hon,if_pos hon,f1,f2]) (by simp only[List.map_cons,List.map_nil,p_den];rfl)
   ·obtain⟨f1,f2⟩:=fin_n K1 h0 on hC hR e
    exact fn_outK (N:=9) (XM_ok (B:=B) hw [(0,hookEv (m1 x (jr x n l 0) A n c l 0) (m1e x (jr x n l (64*n))))]) (fn_hooks (by kernel_rfl) hk) Tryz.func49 hG (args:=[.ext A n c l,.agg [.nums 12 x,.nm (.bl false)]]) (q:=[true,false,false]) (v:=(.tup [.agg [.nums 12 (nmW K1 (seg 0 6 (jr x n l (64*n))) (seg 6 6 (jr x n l (64*n))) (seg 12 6 (jr x n l (64*n)))),.nm (.bl false)],.num .i64 0])) (obs:=[onB K1 (K1.F.int 4) (ptv K1 x false)=true,false=false,IntKind.i64.wrap (64*(n:Int))=64*(n:Int),IntKind.i64.wrap (64*(n:Int)-1)=64*(n:Int)-1,A=A/\n=n/\c=c/\l=l,64*(n:Int)-1=64*(n:Int)-1-((0:Nat):Int),[Sg.nums 12 x,.nm (.bl false)]=[Sg.nums 12 x,.nm (.bl false)],[Sg.nums 12 [0,0,0,0,0,0,0,0,0,0,0,0],.one (.bool false)]=[Sg.nums 12 [0,0,0,0,0,0,0,0,0,0,0,0],.one (.bool false)],[Sg.nums 12 (q_ x),.nm (.bl (ptB (ptv K1 x false)))]=[Sg.nums 12 (q_ x),.nm (.bl false)],List.replicate 18 0=jr x n l 0,qb false (seg 12 6 (jr x n l (64*n))=[0,0,0,0,0,0])]) 1 (by kernel_rfl) (hp (hon) (hp (rfl) (hp (IntWalk.i64_in _ (by omega)) (hp (IntWalk.i64_in _ (by omega)) (hp (⟨rfl,rfl,rfl,rfl⟩) (hp (by omega) (hp (rfl) (hp (rfl) (hp (rfl) (hp (rfl) (hp (e) trivial))))))))))) (okA2 trivial ⟨hx,trivial,trivial⟩) (by rw[mulA,mulO,if_pos hon,if_pos hon,f1,f2];rfl) (by simp only[List.map_cons,List.map_nil,p_den];rfl)
 ·have f1:=out_eq K1 (mulP_none K1 (num l).toNat)
  exact fn_outK (N:=9) (XM_ok (B:=B) hw []) (fun c _ id c' f h=>by rw[hooked_nil] at h;cases h) Tryz.func49 hG (args:=[.ext A n c l,.agg [.nums 12 x,.nm (.bl true)]]) (q:=[true,true]) (v:=(.tup [.agg [.nums 12 (ptW K1 none),.nm (.bl true)],.num .i64 0])) (obs:=[onB K1 (K1.F.int 4) (ptv K1 x true)=true,true=true]) 1 (by kernel_rfl) (hp (rfl) (hp (rfl) trivial)) (okA2 trivial ⟨hx,trivial,trivial⟩) (by rw[mulA,mulO,ptv_t,if_pos (by rfl),if_pos (by rfl),<-f1.1,<-f1.2];rfl) (by simp only[List.map_cons,List.map_nil,p_den];rfl)
def oM (f:Nat->List Int->Bool->AV):List AA->AV
 |[.sl _ l,.p x b]=>f (num l).toNat x b
 |_=>.unk
theorem conM {P:Program}{G:World->Prop}{F:FuncId}{f:Nat->List Int->Bool->AV}(h0:∀m x b n,(f m x b).Ok n)(h1:∀m x b gs,(f m x b).den gs=(f m x b).den [])(h:∀x,Nm 12 x->∀b A n c l B w,G w->Rd w B A n .u64 l->Words l->B<=w.heap.size->n<=10000->Calls P F #[.slice A n c,.agg (vals .u64 x ++ #[.bool b])] w fun e w'=>e=.returned ((f (num l).toNat x b).den [])/\RowKit.Below w.heap.size w w'):ConG P G F [.sl,.p 12] Pre0 (oM f):=by
 intro l hl _
 match l,hl with
 |[.sl n l,.p x b],⟨⟨hn,hl⟩,hx,_⟩=>
  refine⟨h0 _ x b,h1 _ x b,fun w hG vs hv=>?_⟩
  match vs,hv with
  |[v,u],⟨⟨A,c,hv,B,hB,hr⟩,hu,_⟩=>
   obtain rfl:=hv
   obtain rfl:=hu
   exact h x hx b A n c l B w hG hr hl.words hB hn
theorem mulA_ok (m:Nat)(x:List Int)(b:Bool)(n:Nat):(mulA m x b).Ok n:=⟨⟨nm_ptW K1 _,trivial,trivial⟩,trivial,trivial⟩
theorem qMul:ConG Tryz.prog GlobD 49 [.sl,.p 12] Pre0 (oM mulA):=conM mulA_ok (fun _ _ _ _=>rfl) (fun x hx b A n c l B w hG hr hw hB hn=>qMul_ x hx b A n c l B w hG hr hw hB hn)
def BL:List Int:=[18103045581585958587,7806400890582735599,11623291730934869080,14080658508445169925,2780237799254240271,1725392847304644500,912580534683953121,15005087156090211044,61670280795567085,18227722000993880822,11573741888802228964,627113611842199793]
theorem nm_BL:Nm 12 BL:=⟨rfl,words_of _ (by decide)⟩
def o0 (v:AV):List AA->AV
 |[]=>v
 |_=>.unk
def BP:AV:=.agg [.nums 12 BL,.nm (.bl false)]
theorem con0 {P:Program}{G:World->Prop}{F:FuncId}{v:AV}(h0:∀n,v.Ok n)(h1:∀gs,v.den gs=v.den [])(h:∀w,G w->Calls P F #[] w fun e w'=>e=.returned (v.den [])/\RowKit.Below w.heap.size w w'):ConG P G F [] Pre0 (o0 v):=by
 intro l hl _
 match l,hl with
 |[],_=>
  refine⟨h0,h1,fun w hG vs hv=>?_⟩
  match vs,hv with
  |[],_=>exact h w hG
end S12R
namespace S13R
open Go Go.RowKit Reg Base Limb Sx Fp Fp2 Ec Pts G2K Ey
def L0:List (Fact Tryz.prog GlobD):=rReduce.fact (.con Tryz.func75 rfl (by decide) rReduce) ::
 rAdd.fact (.con Tryz.func73 rfl (by decide) rAdd) ::
 rSub.fact (.con Tryz.func77 rfl (by decide) rSub) ::
 rNeg.fact (.con Tryz.func76 rfl (by decide) rNeg) ::
 rMul.fact (.con Tryz.func47 rfl (by decide) rMul) ::
 rInv.fact (.con Tryz.func79 rfl (by decide) rInv) ::
 []
def XN:Cx:=.of [] []
theorem XN_ok:CxOk Tryz.prog XN GlobD:=cx_ok (E:=[]) [] trivial (by kernel_rfl)
def L1:List (Fact Tryz.prog GlobD):=⟨93,entI 93 XN 9,.inline XN_ok GlobD.keep Tryz.func93 rfl (by decide)⟩ ::
 ⟨95,entI 95 XN 9,.inline XN_ok GlobD.keep Tryz.func95 rfl (by decide)⟩ ::
 L0
def X1:Cx:=((Cx.of [(26,12)] (tb L1)).eqs [(37,24)]).more []
theorem X1_ok:CxOk Tryz.prog X1 GlobD:=((cx_ok (E:=[(26,12)]) L1 ⟨⟨G2K.eqF,G2K.gdF⟩,trivial⟩ (by kernel_rfl)).eqs (EM:=[(37,24)]) ⟨⟨eqG,gdG⟩,trivial⟩).more (T2:=[]) trivial
theorem qReduce:ConG Tryz.prog GlobD 54 [.p 24] Pre0 (o1 fun x b=>PA (ptv K2 x b)):=con1 (fun x b n=>pa_ok _ _) (fun x b gs=>by rw[pa_den,pa_den]) (fun x hx b w hG=>by
 cases b
 ·exact fn_outS (N:=9) X1_ok GlobD.keep Tryz.func54 [] (fun s hs=>by cases hs) (noSS hG) (args:=[.agg [.nums 24 x,.nm (.bl false)]]) (q:=[false]) (v:=(.agg [.nums 24 (wr K2 (seg 0 12 x)++wr K2 (seg 12 12 x)),.nm (.bl false)])) (obs:=[false=false]) 1 (by kernel_rfl) (hp (rfl) trivial) (okA1 ⟨hx,trivial,trivial⟩) (by rw[ptv_f];rfl) (by simp only[List.map_cons,List.map_nil,p_den])
 ·exact fn_outS (N:=9) X1_ok GlobD.keep Tryz.func54 [] (fun s hs=>by cases hs) (noSS hG) (args:=[.agg [.nums 24 x,.nm (.bl true)]]) (q:=[true]) (v:=(PA none)) (obs:=[true=true]) 1 (by kernel_rfl) (hp (rfl) trivial) (okA1 ⟨hx,trivial,trivial⟩) (by rw[ptv_t]) (by simp only[List.map_cons,List.map_nil,p_den]))
theorem qOn:ConG Tryz.prog GlobD 53 [.p 24] Pre0 (o1 fun x b=>.bl (onB K2 bb (ptv K2 x b))):=con1 (fun x b n=>trivial) (fun x b gs=>rfl) (fun x hx b w hG=>by
 cases b
 ·have ho:=on_wc (K:=K2) (hb:=hb) (seg 0 12 x) (seg 12 12 x)
  by_cases h:wm K2 (seg 12 12 x) (seg 12 12 x)=wa K2 (wm K2 (wm K2 (seg 0 12 x) (seg 0 12 x)) (seg 0 12 x)) cb
  ·exact fn_outS (N:=9) X1_ok GlobD.keep Tryz.func53 [] (fun s hs=>by cases hs) (noSS hG) (args:=[.agg [.nums 24 x,.nm (.bl false)]]) (q:=[false,true]) (v:=(.bl true)) (obs:=[false=false,qb true (wm K2 (seg 12 12 x) (seg 12 12 x)=wa K2 (wm K2 (wm K2 (seg 0 12 x) (seg 0 12 x)) (seg 0 12 x)) cb)]) 1 (by kernel_rfl) (hp (rfl) (hp (h) trivial)) (okA1 ⟨hx,trivial,trivial⟩) (by rw[ptv_f];exact congrArg Value.bool (ho.1 h).symm) (by simp only[List.map_cons,List.map_nil,p_den])
  ·exact fn_outS (N:=9) X1_ok GlobD.keep Tryz.func53 [] (fun s hs=>by cases hs) (noSS hG) (args:=[.agg [.nums 24 x,.nm (.bl false)]]) (q:=[false,false]) (v:=(.bl false)) (obs:=[false=false,qb false (wm K2 (seg 12 12 x) (seg 12 12 x)=wa K2 (wm K2 (wm K2 (seg 0 12 x) (seg 0 12 x)) (seg 0 12 x)) cb)]) 1 (by kernel_rfl) (hp (rfl) (hp (h) trivial)) (okA1 ⟨hx,trivial,trivial⟩) (by rw[ptv_f];exact congrArg Value.bool (Bool.eq_false_iff.2 (fun e=>h (ho.2 e))).symm) (by simp only[List.map_cons,List.map_nil,p_den])
 ·exact fn_outS (N:=9) X1_ok GlobD.keep Tryz.func53 [] (fun s hs=>by cases hs) (noSS hG) (args:=[.agg [.nums 24 x,.nm (.bl true)]]) (q:=[true]) (v:=(.bl true)) (obs:=[true=true]) 1 (by kernel_rfl) (hp (rfl) trivial) (okA1 ⟨hx,trivial,trivial⟩) (by rw[ptv_t];rfl) (by simp only[List.map_cons,List.map_nil,p_den]))
theorem rx (x:List Int):seg 0 12 (ptW K2 (ptv K2 x false))=wr K2 (seg 0 12 x):=by
 rw[ptv_f,ptW]
 exact seg_x K2 _ _
theorem ry (x:List Int):seg 12 12 (ptW K2 (ptv K2 x false))=wr K2 (seg 12 12 x):=by
 rw[ptv_f,ptW]
 exact seg_y K2 _ _
abbrev PreFF:List AA->List Ob
 |[.p _ b,.p _ c]=>[b=false,c=false]
 |_=>[]
theorem con2f {P:Program}{G:World->Prop}{F:FuncId}{f:List Int->List Int->AV}(h0:∀x y n,(f x y).Ok n)(h1:∀x y gs,(f x y).den gs=(f x y).den [])(h:∀x,Nm 24 x->∀y,Nm 24 y->∀w,G w->Calls P F #[.agg (vals .u64 x ++ #[.bool false]),.agg (vals .u64 y ++ #[.bool false])] w fun e w'=>e=.returned ((f x y).den [])/\RowKit.Below w.heap.size w w'):ConG P G F [.p 24,.p 24] PreFF (o2 fun x _ y _=>f x y):=by
 intro l hl hp
 match l,hl,hp with
 |[.p x b,.p y c],⟨hx,hy,_⟩,hp=>
  obtain⟨rfl,rfl,_⟩:=hp
  refine⟨h0 x y,h1 x y,fun w hG vs hv=>?_⟩
  match vs,hv with
  |[v,u],⟨hv,hu,_⟩=>
   obtain rfl:=hv
   obtain rfl:=hu
   exact h x hx y hy w hG
def T2:List (FuncId×Ent2):=[(54,entG [.p 24] Pre0 (o1 fun x b=>PA (ptv K2 x b))),(53,entG [.p 24] Pre0 (o1 fun x b=>.bl (onB K2 bb (ptv K2 x b))))]
theorem T2_ok:TOk2 Tryz.prog GlobD T2:=⟨.conG Tryz.func54 rfl (by decide) qReduce,.conG Tryz.func53 rfl (by decide) qOn,trivial⟩
def X2:Cx:=((Cx.of [(26,12)] (tb L1)).eqs [(37,24)]).more T2
theorem X2_ok:CxOk Tryz.prog X2 GlobD:=((cx_ok (E:=[(26,12)]) L1 ⟨⟨G2K.eqF,G2K.gdF⟩,trivial⟩ (by kernel_rfl)).eqs (EM:=[(37,24)]) ⟨⟨eqG,gdG⟩,trivial⟩).more T2_ok
theorem qSlope:ConG Tryz.prog GlobD 97 [.p 24,.p 24] PreFF (o2 fun x _ y _=>.tup [.agg [.nums 12 (slF K2 c0 c2 c3 x y).1],.bl (slF K2 c0 c2 c3 x y).2]):=con2f (fun x y n=>⟨⟨nm_slF K2 _ _ _ _ _,trivial⟩,trivial,trivial⟩) (fun x y gs=>rfl) (fun x hx y hy w hG=>by
 by_cases e1:wr K2 (seg 0 12 x)=wr K2 (seg 0 12 y)
 ·by_cases e2:wr K2 (seg 12 12 x)=wr K2 (seg 12 12 y)
  ·by_cases e3:wr K2 (seg 12 12 x)=c0
   ·exact fn_outS (N:=9) X2_ok GlobD.keep Tryz.func97 [] (fun s hs=>by cases hs) (noSS hG) (args:=[.agg [.nums 24 x,.nm (.bl false)],.agg [.nums 24 y,.nm (.bl false)]]) (q:=[true,true,true]) (v:=(.tup [.agg [.nums 12 (List.replicate 12 0)],.bl false])) (obs:=[qb true ((seg 0 12 (ptW K2 (ptv K2 x false)))=(seg 0 12 (ptW K2 (ptv K2 y false)))),qb true ((seg 12 12 (ptW K2 (ptv K2 x false)))=(seg 12 12 (ptW K2 (ptv K2 y false)))),qb true ((seg 12 12 (ptW K2 (ptv K2 x false)))=[0,0,0,0,0,0,0,0,0,0,0,0])]) 1 (by kernel_rfl) (hp ((by rw[rx,rx];exact e1)) (hp ((by rw[ry,ry];exact e2)) (hp ((by rw[ry];exact e3)) trivial))) (okA2 ⟨hx,trivial,trivial⟩ ⟨hy,trivial,trivial⟩) (by rw[show slF K2 c0 c2 c3 x y=(List.replicate 12 0,false) from (if_pos e1).trans (if_neg fun h=>h.2 e3)]) (by simp only[List.map_cons,List.map_nil,p_den])
   ·exact fn_outS (N:=9) X2_ok GlobD.keep Tryz.func97 [] (fun s hs=>by cases hs) (noSS hG) (args:=[.agg [.nums 24 x,.nm (.bl false)],.agg [.nums 24 y,.nm (.bl false)]]) (q:=[true,true,false]) (v:=(.tup [.agg [.nums 12 (slTw K2 c2 c3 (seg 0 12 (ptW K2 (ptv K2 x false))) (seg 12 12 (ptW K2 (ptv K2 x false))))],.bl true])) (obs:=[qb true ((seg 0 12 (ptW K2 (ptv K2 x false)))=(seg 0 12 (ptW K2 (ptv K2 y false)))),qb true ((seg 12 12 (ptW K2 (ptv K2 x false)))=(seg 12 12 (ptW K2 (ptv K2 y false)))),qb false ((seg 12 12 (ptW K2 (ptv K2 x false)))=[0,0,0,0,0,0,0,0,0,0,0,0])]) 1 (by kernel_rfl) (hp ((by rw[rx,rx];exact e1)) (hp ((by rw[ry,ry];exact e2)) (hp ((by rw[ry];exact e3)) trivial))) (fun v hv=>by
   simp only[List.mem_cons,List.not_mem_nil,or_false] at hv
   rcases hv with rfl|rfl
   ·exact⟨hx,trivial,trivial⟩
   ·exact⟨hy,trivial,trivial⟩) (by rw[rx,ry,show slF K2 c0 c2 c3 x y=(slTw K2 c2 c3 (wr K2 (seg 0 12 x)) (wr K2 (seg 12 12 x)),true) from (if_pos e1).trans (if_pos ⟨e2,e3⟩)]) (by simp only[List.map_cons,List.map_nil,p_den])
  ·exact fn_outS (N:=9) X2_ok GlobD.keep Tryz.func97 [] (fun s hs=>by cases hs) (noSS hG) (args:=[.agg [.nums 24 x,.nm (.bl false)],.agg [.nums 24 y,.nm (.bl false)]]) (q:=[true,false]) (v:=(.tup [.agg [.nums 12 (List.replicate 12 0)],.bl false])) (obs:=[qb true ((seg 0 12 (ptW K2 (ptv K2 x false)))=(seg 0 12 (ptW K2 (ptv K2 y false)))),qb false ((seg 12 12 (ptW K2 (ptv K2 x false)))=(seg 12 12 (ptW K2 (ptv K2 y false))))]) 1 (by kernel_rfl) (hp ((by rw[rx,rx];exact e1)) (hp ((by rw[ry,ry];exact e2)) trivial)) (okA2 ⟨hx,trivial,trivial⟩ ⟨hy,trivial,trivial⟩) (by rw[show slF K2 c0 c2 c3 x y=(List.replicate 12 0,false) from (if_pos e1).trans (if_neg fun h=>e2 h.1)]) (by simp only[List.map_cons,List.map_nil,p_den])
 ·exact fn_outS (N:=9) X2_ok GlobD.keep Tryz.func97 [] (fun s hs=>by cases hs) (noSS hG) (args:=[.agg [.nums 24 x,.nm (.bl false)],.agg [.nums 24 y,.nm (.bl false)]]) (q:=[false]) (v:=(.tup [.agg [.nums 12 (slCw K2 (seg 0 12 (ptW K2 (ptv K2 x false))) (seg 12 12 (ptW K2 (ptv K2 x false))) (seg 0 12 (ptW K2 (ptv K2 y false))) (seg 12 12 (ptW K2 (ptv K2 y false))))],.bl true])) (obs:=[qb false ((seg 0 12 (ptW K2 (ptv K2 x false)))=(seg 0 12 (ptW K2 (ptv K2 y false))))]) 1 (by kernel_rfl) (hp ((by rw[rx,rx];exact e1)) trivial) (fun v hv=>by
   simp only[List.mem_cons,List.not_mem_nil,or_false] at hv
   rcases hv with rfl|rfl
   ·exact⟨hx,trivial,trivial⟩
   ·exact⟨hy,trivial,trivial⟩) (by rw[rx,rx,ry,ry,show slF K2 c0 c2 c3 x y=(slCw K2 (wr K2 (seg 0 12 x)) (wr K2 (seg 12 12 x)) (wr K2 (seg 0 12 y)) (wr K2 (seg 12 12 y)),true) from if_neg e1]) (by simp only[List.map_cons,List.map_nil,p_den]))
def T3_:List (FuncId×Ent2):=[(97,entG [.p 24,.p 24] PreFF (o2 fun x _ y _=>.tup [.agg [.nums 12 (slF K2 c0 c2 c3 x y).1],.bl (slF K2 c0 c2 c3 x y).2])),(54,entG [.p 24] Pre0 (o1 fun x b=>PA (ptv K2 x b))),(53,entG [.p 24] Pre0 (o1 fun x b=>.bl (onB K2 bb (ptv K2 x b))))]
theorem T3__ok:TOk2 Tryz.prog GlobD T3_:=⟨.conG Tryz.func97 rfl (by decide) qSlope,.conG Tryz.func54 rfl (by decide) qReduce,.conG Tryz.func53 rfl (by decide) qOn,trivial⟩
def X3:Cx:=((Cx.of [(26,12)] (tb L1)).eqs [(37,24)]).more T3_
theorem X3_ok:CxOk Tryz.prog X3 GlobD:=((cx_ok (E:=[(26,12)]) L1 ⟨⟨G2K.eqF,G2K.gdF⟩,trivial⟩ (by kernel_rfl)).eqs (EM:=[(37,24)]) ⟨⟨eqG,gdG⟩,trivial⟩).more T3__ok
theorem qAdd:ConG Tryz.prog GlobD 96 [.p 24,.p 24] Pre0 (o2 fun x b y c=>PA (addP K2.F (ptv K2 x b) (ptv K2 y c))):=con2 (fun x b y c n=>pa_ok _ _) (fun x b y c gs=>by rw[pa_den,pa_den]) (fun x hx b y hy c w hG=>by
 cases b
 ·cases c
  ·cases e:(slF K2 c0 c2 c3 x y).2
   ·exact fn_outS (N:=9) X3_ok GlobD.keep Tryz.func96 [] (fun s hs=>by cases hs) (noSS hG) (args:=[.agg [.nums 24 x,.nm (.bl false)],.agg [.nums 24 y,.nm (.bl false)]]) (q:=[false,false,false]) (v:=(PA none)) (obs:=[false=false,false=false,false=false,false=false,(slF K2 c0 c2 c3 x y).2=false]) 1 (by kernel_rfl) (hp (rfl) (hp (rfl) (hp (rfl) (hp (rfl) (hp (e) trivial))))) (okA2 ⟨hx,trivial,trivial⟩ ⟨hy,trivial,trivial⟩) (by rw[add_no K2 h0 e]) (by simp only[List.map_cons,List.map_nil,p_den])
   ·obtain⟨k1,k2⟩:=add_yes K2 h2 h3 h0 e
    exact fn_outS (N:=9) X3_ok GlobD.keep Tryz.func96 [] (fun s hs=>by cases hs) (noSS hG) (args:=[.agg [.nums 24 x,.nm (.bl false)],.agg [.nums 24 y,.nm (.bl false)]]) (q:=[false,false,true]) (v:=(.agg [.nums 24 (xsw K2 (slF K2 c0 c2 c3 x y).1 (seg 0 12 x) (seg 0 12 y)++ysw K2 (slF K2 c0 c2 c3 x y).1 (seg 0 12 x) (seg 12 12 x) (xsw K2 (slF K2 c0 c2 c3 x y).1 (seg 0 12 x) (seg 0 12 y))),.nm (.bl false)])) (obs:=[false=false,false=false,false=false,false=false,(slF K2 c0 c2 c3 x y).2=true]) 1 (by kernel_rfl) (hp (rfl) (hp (rfl) (hp (rfl) (hp (rfl) (hp (e) trivial))))) (okA2 ⟨hx,trivial,trivial⟩ ⟨hy,trivial,trivial⟩) (by rw[pa_den,<-k1,k2];exact p_den) (by simp only[List.map_cons,List.map_nil,p_den])
  ·exact fn_outS (N:=9) X3_ok GlobD.keep Tryz.func96 [] (fun s hs=>by cases hs) (noSS hG) (args:=[.agg [.nums 24 x,.nm (.bl false)],.agg [.nums 24 y,.nm (.bl true)]]) (q:=[false,true]) (v:=(PA (ptv K2 x false))) (obs:=[false=false,true=true]) 1 (by kernel_rfl) (hp (rfl) (hp (rfl) trivial)) (fun v hv=>by
   simp only[List.mem_cons,List.not_mem_nil,or_false] at hv
   rcases hv with rfl|rfl
   ·exact⟨hx,trivial,trivial⟩
   ·exact⟨hy,trivial,trivial⟩) (by rw[ptv_t,ptv_f];rfl) (by simp only[List.map_cons,List.map_nil,p_den])
 ·exact fn_outS (N:=9) X3_ok GlobD.keep Tryz.func96 [] (fun s hs=>by cases hs) (noSS hG) (args:=[.agg [.nums 24 x,.nm (.bl true)],.agg [.nums 24 y,.nm (.bl c)]]) (q:=[true]) (v:=(PA (ptv K2 y c))) (obs:=[true=true]) 1 (by kernel_rfl) (hp (rfl) trivial) (okA2 ⟨hx,trivial,trivial⟩ ⟨hy,trivial,trivial⟩) (by rw[ptv_t];rfl) (by simp only[List.map_cons,List.map_nil,p_den]))
theorem nm_twR (X Y Z:List Int):Nm 36 (twR K2 c2 c3 c4 c8 X Y Z):=((K2.wo_nm _).app (K2.wo_nm _)).app (K2.wo_nm _)
theorem nm_plR (X Y Z u v:List Int):Nm 36 (plRw K2 X Y Z u v):=((K2.wo_nm _).app (K2.wo_nm _)).app (K2.wo_nm _)
theorem qTwice:Con Tryz.prog GlobD 91 [36] (f1 fun l=>W 36 (twR K2 c2 c3 c4 c8 (seg 0 12 l) (seg 12 12 l) (seg 24 12 l))):=.w1 X2_ok GlobD.keep Tryz.func91 9 (fun _ _=>nm_twR _ _ _) (fun _ _=>rfl) (fun _=>by kernel_rfl)
theorem nm_c1:Nm 12 c1:=⟨rfl,words_of _ (by decide)⟩
theorem nm_plF {l q:List Int}(hq:Nm 24 q):Nm 36 (plF K2 c0 c1 c2 c3 c4 c8 l q):=by
 unfold plF
 split
 ·exact hq.app nm_c1
 ·split
  ·split
   ·exact nm_twR _ _ _
   ·exact⟨rfl,words_zeros 36⟩
  ·exact nm_plR _ _ _ _ _
abbrev PreF1:List AA->List Ob
 |[.w l,.p q b]=>[b=false]
 |_=>[]
def owp (f:List Int->List Int->AV):List AA->AV
 |[.w l,.p q _]=>f l q
 |_=>.unk
theorem conwp {P:Program}{G:World->Prop}{F:FuncId}{f:List Int->List Int->AV}(h0:∀l q,Nm 24 q->∀n,(f l q).Ok n)(h1:∀l q gs,(f l q).den gs=(f l q).den [])(h:∀l,Nm 36 l->∀q,Nm 24 q->∀w,G w->Calls P F #[.agg (vals .u64 l),.agg (vals .u64 q ++ #[.bool false])] w fun e w'=>e=.returned ((f l q).den [])/\RowKit.Below w.heap.size w w'):ConG P G F [.w 36,.p 24] PreF1 (owp f):=by
 intro l hl hp
 match l,hl,hp with
 |[.w x,.p q c],⟨hx,hy,_⟩,hp=>
  obtain⟨rfl,_⟩:=hp
  refine⟨h0 x q hy,h1 x q,fun w hG vs hv=>?_⟩
  match vs,hv with
  |[v,u],⟨hv,hu,_⟩=>
   obtain rfl:=hv
   obtain rfl:=hu
   exact h x hx q hy w hG
theorem l_den {n:Nat}{x:List Int}{gs:List Nat}:(AV.agg [.nums n x]).den gs=.agg (vals .u64 x):=den_nums
def L4:List (Fact Tryz.prog GlobD):=qTwice.fact (.con Tryz.func91 rfl (by decide) qTwice) ::
 L1
def X4:Cx:=((Cx.of [(26,12)] (tb L4)).eqs [(37,24)]).more T3_
theorem X4_ok:CxOk Tryz.prog X4 GlobD:=((cx_ok (E:=[(26,12)]) L4 ⟨⟨G2K.eqF,G2K.gdF⟩,trivial⟩ (by kernel_rfl)).eqs (EM:=[(37,24)]) ⟨⟨eqG,gdG⟩,trivial⟩).more T3__ok
theorem qPlus:ConG Tryz.prog GlobD 92 [.w 36,.p 24] PreF1 (owp fun l q=>.agg [.nums 36 (plF K2 c0 c1 c2 c3 c4 c8 l q)]):=conwp (fun l q hq n=>⟨nm_plF hq,trivial⟩) (fun l q gs=>rfl) (fun l hl q hq w hG=>by
 by_cases e1:seg 24 12 l=c0
 ·exact fn_outS (N:=9) X4_ok GlobD.keep Tryz.func92 [] (fun s hs=>by cases hs) (noSS hG) (args:=[.agg [.nums 36 l],.agg [.nums 24 q,.nm (.bl false)]]) (q:=[true]) (v:=(.agg [.nums 36 (seg 0 12 q++seg 12 12 q++[1]++[0,0,0,0,0]++[0,0,0,0,0,0])])) (obs:=[qb true (seg 24 12 l=[0,0,0,0,0,0,0,0,0,0,0,0])]) 1 (by kernel_rfl) (hp (e1) trivial) (okA2 ⟨hl,trivial⟩ ⟨hq,trivial,trivial⟩) (by rw[show plF K2 c0 c1 c2 c3 c4 c8 l q=q++c1 from if_pos e1,<-seg_all (n:=12) (m:=12) hq.len,List.append_assoc,List.append_assoc];rfl) (by simp only[List.map_cons,List.map_nil,p_den,l_den])
 ·by_cases e2:hW K2 (seg 0 12 l) (seg 24 12 l) (seg 0 12 q)=c0
  ·by_cases e3:rW K2 (seg 12 12 l) (seg 24 12 l) (seg 12 12 q)=c0
   ·exact fn_outS (N:=9) X4_ok GlobD.keep Tryz.func92 [] (fun s hs=>by cases hs) (noSS hG) (args:=[.agg [.nums 36 l],.agg [.nums 24 q,.nm (.bl false)]]) (q:=[false,true,true]) (v:=(.agg [.nums 36 (twR K2 c2 c3 c4 c8 (seg 0 12 l) (seg 12 12 l) (seg 24 12 l))])) (obs:=[qb false (seg 24 12 l=[0,0,0,0,0,0,0,0,0,0,0,0]),qb true (hW K2 (seg 0 12 l) (seg 24 12 l) (seg 0 12 q)=[0,0,0,0,0,0,0,0,0,0,0,0]),qb true (rW K2 (seg 12 12 l) (seg 24 12 l) (seg 12 12 q)=[0,0,0,0,0,0,0,0,0,0,0,0])]) 1 (by kernel_rfl) (hp (e1) (hp (e2) (hp (e3) trivial))) (fun v hv=>by
   simp only[List.mem_cons,List.not_mem_nil,or_false] at hv
   rcases hv with rfl|rfl
   ·exact⟨hl,trivial⟩
   ·exact⟨hq,trivial,trivial⟩) (by rw[show plF K2 c0 c1 c2 c3 c4 c8 l q=twR K2 c2 c3 c4 c8 (seg 0 12 l) (seg 12 12 l) (seg 24 12 l) from (if_neg e1).trans ((if_pos e2).trans (if_pos e3))]) (by simp only[List.map_cons,List.map_nil,p_den,l_den])
   ·exact fn_outS (N:=9) X4_ok GlobD.keep Tryz.func92 [] (fun s hs=>by cases hs) (noSS hG) (args:=[.agg [.nums 36 l],.agg [.nums 24 q,.nm (.bl false)]]) (q:=[false,true,false]) (v:=(.agg [.nums 36 (List.replicate 36 0)])) (obs:=[qb false (seg 24 12 l=[0,0,0,0,0,0,0,0,0,0,0,0]),qb true (hW K2 (seg 0 12 l) (seg 24 12 l) (seg 0 12 q)=[0,0,0,0,0,0,0,0,0,0,0,0]),qb false (rW K2 (seg 12 12 l) (seg 24 12 l) (seg 12 12 q)=[0,0,0,0,0,0,0,0,0,0,0,0])]) 1 (by kernel_rfl) (hp (e1) (hp (e2) (hp (e3) trivial))) (okA2 ⟨hl,trivial⟩ ⟨hq,trivial,trivial⟩) (by rw[show plF K2 c0 c1 c2 c3 c4 c8 l q=List.replicate 36 0 from (if_neg e1).trans ((if_pos e2).trans (if_neg e3))]) (by simp only[List.map_cons,List.map_nil,p_den,l_den])
  ·exact fn_outS (N:=9) X4_ok GlobD.keep Tryz.func92 [] (fun s hs=>by cases hs) (noSS hG) (args:=[.agg [.nums 36 l],.agg [.nums 24 q,.nm (.bl false)]]) (q:=[false,false]) (v:=(.agg [.nums 36 (plRw K2 (seg 0 12 l) (seg 12 12 l) (seg 24 12 l) (seg 0 12 q) (seg 12 12 q))])) (obs:=[qb false (seg 24 12 l=[0,0,0,0,0,0,0,0,0,0,0,0]),qb false (hW K2 (seg 0 12 l) (seg 24 12 l) (seg 0 12 q)=[0,0,0,0,0,0,0,0,0,0,0,0])]) 1 (by kernel_rfl) (hp (e1) (hp (e2) trivial)) (fun v hv=>by
   simp only[List.mem_cons,List.not_mem_nil,or_false] at hv
   rcases hv with rfl|rfl
   ·exact⟨hl,trivial⟩
   ·exact⟨hq,trivial,trivial⟩) (by rw[show plF K2 c0 c1 c2 c3 c4 c8 l q=plRw K2 (seg 0 12 l) (seg 12 12 l) (seg 24 12 l) (seg 0 12 q) (seg 12 12 q) from (if_neg e1).trans (if_neg e2)]) (by simp only[List.map_cons,List.map_nil,p_den,l_den]))
def T5:List (FuncId×Ent2):=[(92,entG [.w 36,.p 24] PreF1 (owp fun l q=>.agg [.nums 36 (plF K2 c0 c1 c2 c3 c4 c8 l q)])),(54,entG [.p 24] Pre0 (o1 fun x b=>PA (ptv K2 x b))),(53,entG [.p 24] Pre0 (o1 fun x b=>.bl (onB K2 bb (ptv K2 x b))))]
theorem T5_ok:TOk2 Tryz.prog GlobD T5:=⟨.conG Tryz.func92 rfl (by decide) qPlus,.conG Tryz.func54 rfl (by decide) qReduce,.conG Tryz.func53 rfl (by decide) qOn,trivial⟩
def X5:Cx:=((Cx.of [(26,12)] (tb L4)).eqs [(37,24)]).more T5
theorem X5_ok:CxOk Tryz.prog X5 GlobD:=((cx_ok (E:=[(26,12)]) L4 ⟨⟨G2K.eqF,G2K.gdF⟩,trivial⟩ (by kernel_rfl)).eqs (EM:=[(37,24)]) ⟨⟨eqG,gdG⟩,trivial⟩).more T5_ok
theorem four_ne:¬K2.F.Z bb:=by show ¬((4:Int)%PP=0/\(4:Int)%PP=0);decide +kernel
theorem h1:K2.wo (K2.F.int 1)=c1:=by decide +kernel
theorem hz:List.replicate K2.n 0=c0:=rfl
abbrev q_ (x:List Int):List Int:=ptW K2 (ptv K2 x false)
abbrev tw_ (l:List Int):List Int:=twR K2 c2 c3 c4 c8 (seg 0 12 l) (seg 12 12 l) (seg 24 12 l)
abbrev pl_ (x l:List Int):List Int:=plF K2 c0 c1 c2 c3 c4 c8 l (q_ x)
section
variable (x o:List Int) (A:Option Addr) (n c:Nat) (l:List Int)
def b4:List Bk:=[(37,[.nums 24 x,.nm (.bl false)]),(37,[.nums 24 [0,0,0,0,0,0,0,0,0,0,0,0,0,0,0,0,0,0,0,0,0,0,0,0],.one (.bool false)]),(37,[.nums 24 (q_ x),.nm (.bl false)]),(95,[.nums 36 o])]
def m1 (k:Nat):St:=⟨mkSl 68 [(0,.ext A n c l),(3,.ptr 0 0),(4,.ptr 1 0),(7,.ptr 2 0),(8,.ptr 3 0),(9,.num .i64 (64*(n:Int)-1-k))],b4 x o⟩
def m1e:St:=⟨mkSl 68 [(4,.ptr 1 0),(8,.ptr 3 0)],b4 x o⟩
end
def DM (A:Option Addr)(n:Nat)(l:List Int)(A':Option Addr)(n':Nat)(l':List Int):Prop:=A'=A/\n'=n/\l'=l
def GM (A:Option Addr)(n:Nat)(l:List Int)(B:Nat)(u:World):Prop:=(GlobD u/\B<=u.heap.size)/\Rd u B A n .u64 l
theorem GM.keep {A:Option Addr}{n:Nat}{l:List Int}{B:Nat}{w u:World}(h:GM A n l B w)(hb:RowKit.Below w.heap.size w u):GM A n l B u:=⟨⟨h.1.1.keep hb,Nat.le_trans h.1.2 hb.size⟩,h.2.keep hb h.1.2⟩
abbrev XM (A:Option Addr)(n:Nat)(l:List Int)(H:List (Nat×Ev)):Cx:=X5.sym (DM A n l) H
theorem XM_ok {A:Option Addr}{n:Nat}{l:List Int}{B:Nat}(hw:Words l)(H:List (Nat×Ev)):CxB Tryz.prog (XM A n l H) (GM A n l B):=
 X5_ok.toCxB.sym (fun u h=>h.1.1) (fun A' n' l' h=>by
  obtain⟨rfl,rfl,rfl⟩:=h
  exact⟨hw,B,fun u hu=>⟨hu.1.2,hu.2⟩⟩) H
section
variable {x o o':List Int} {A:Option Addr} {n c:Nat} {l:List Int} {B S:Nat} {w:World}
theorem does (hw:Words l)(hG:∀u,RowKit.Below S w u->GM A n l B u)(c:Code):Does Tryz.prog S 0 w c (evalC Tryz.prog (XM A n l []) 0 9 c):=code_ok (XM_ok hw []) hG c (fun _ _ _ h=>by rw[hooked_nil] at h;cases h)
theorem rndf {k:Nat}(hk:k<64*n)(hn:n<=10000)(h2:qb false (bits .and .u64 (wd_ n l k) 1=1))(hrow:tw_ o=o')(hw:Words l)(hG:∀u,RowKit.Below S w u->GM A n l B u):Goes Tryz.prog S 0 w (lpc Tryz.f51 0) (m1 x o A n c l k) .nrm (m1 x o' A n c l (k+1)):=by
 have hd:=wd_in (n:=n) hw k
 have hand:=and_one hd.1 hd.2
 exact (does hw hG _).goes [true,false] (ps:=[A=A/\n=n/\c=c/\l=l,64*(n:Int)-1-k-1=64*(n:Int)-1-((k+1:Nat):Int),[Sg.nums 24 x,.nm (.bl false)]=[Sg.nums 24 x,.nm (.bl false)],[Sg.nums 24 [0,0,0,0,0,0,0,0,0,0,0,0,0,0,0,0,0,0,0,0,0,0,0,0],.one (.bool false)]=[Sg.nums 24 [0,0,0,0,0,0,0,0,0,0,0,0,0,0,0,0,0,0,0,0,0,0,0,0],.one (.bool false)],[Sg.nums 24 (q_ x),.nm (.bl false)]=[Sg.nums 24 (q_ x),.nm (.bl false)],tw_ o=o',qb true (0<=ji n k),0<=ji n k/\(0:Int)<64,IntKind.i64.wrap (ji n k/64)=ji n k/64,0<=ji n k/64/\ji n k/64<(n:Int),DM A n l A (n*1) l/\0<1,(ji n k/64).toNat*1<n*1,DM A n l A (n*1) l/\0<n*1,0<=ji n k/\(0:Int)<64,True,IntKind.u64.wrap (ji n k%64)=ji n k%64,rng .u64 (ji n k%64),0<=ji n k%64/\ji n k%64<((64:Nat):Int),rng .u64 (wd_ n l k),rng .u64 (bits .and .u64 (wd_ n l k) 1),qb false (bits .and .u64 (wd_ n l k) 1=1),IntKind.i64.wrap (64*(n:Int)-1-k-1)=64*(n:Int)-1-k-1]) (by kernel_rfl) (hp (⟨rfl,rfl,rfl,rfl⟩) (hp (by omega) (hp (rfl) (hp (rfl) (hp (rfl) (hp (hrow) (hp ((by simp only[ji];omega:0<=ji n k)) (hp (by simp only[ji];omega) (hp (IntWalk.i64_in _ (by simp only[ji];omega)) (hp (by simp only[ji];omega) (hp (⟨⟨rfl,Nat.mul_one _,rfl⟩,by decide⟩) (hp (by simp only[ji];omega) (hp (⟨⟨rfl,Nat.mul_one _,rfl⟩,by omega⟩) (hp (by simp only[ji];omega) (hp (trivial) (hp (IntWalk.u64_in _ (by simp only[ji];omega)) (hp ((by simp only[ji];omega:0<=ji n k%64/\ji n k%64<18446744073709551616)) (hp (by simp only[ji];omega) (hp ((by omega:0<=wd_ n l k/\wd_ n l k<18446744073709551616)) (hp (hand▸(by omega:0<=wd_ n l k%2/\wd_ n l k%2<18446744073709551616)) (hp (h2) (hp (IntWalk.i64_in _ (by omega)) trivial)))))))))))))))))))))) (by kernel_rfl)
theorem rndt {k:Nat}(hk:k<64*n)(hn:n<=10000)(h2:qb true (bits .and .u64 (wd_ n l k) 1=1))(hrow:pl_ x (tw_ o)=o')(hw:Words l)(hG:∀u,RowKit.Below S w u->GM A n l B u):Goes Tryz.prog S 0 w (lpc Tryz.f51 0) (m1 x o A n c l k) .nrm (m1 x o' A n c l (k+1)):=by
 have hd:=wd_in (n:=n) hw k
 have hand:=and_one hd.1 hd.2
 exact (does hw hG _).goes [true,true] (ps:=[A=A/\n=n/\c=c/\l=l,64*(n:Int)-1-k-1=64*(n:Int)-1-((k+1:Nat):Int),[Sg.nums 24 x,.nm (.bl false)]=[Sg.nums 24 x,.nm (.bl false)],[Sg.nums 24 [0,0,0,0,0,0,0,0,0,0,0,0,0,0,0,0,0,0,0,0,0,0,0,0],.one (.bool false)]=[Sg.nums 24 [0,0,0,0,0,0,0,0,0,0,0,0,0,0,0,0,0,0,0,0,0,0,0,0],.one (.bool false)],[Sg.nums 24 (q_ x),.nm (.bl false)]=[Sg.nums 24 (q_ x),.nm (.bl false)],pl_ x (tw_ o)=o',qb true (0<=ji n k),0<=ji n k/\(0:Int)<64,IntKind.i64.wrap (ji n k/64)=ji n k/64,0<=ji n k/64/\ji n k/64<(n:Int),DM A n l A (n*1) l/\0<1,(ji n k/64).toNat*1<n*1,DM A n l A (n*1) l/\0<n*1,0<=ji n k/\(0:Int)<64,True,IntKind.u64.wrap (ji n k%64)=ji n k%64,rng .u64 (ji n k%64),0<=ji n k%64/\ji n k%64<((64:Nat):Int),rng .u64 (wd_ n l k),rng .u64 (bits .and .u64 (wd_ n l k) 1),qb true (bits .and .u64 (wd_ n l k) 1=1),false=false,IntKind.i64.wrap (64*(n:Int)-1-k-1)=64*(n:Int)-1-k-1]) (by kernel_rfl) (hp (⟨rfl,rfl,rfl,rfl⟩) (hp (by omega) (hp (rfl) (hp (rfl) (hp (rfl) (hp (hrow) (hp ((by simp only[ji];omega:0<=ji n k)) (hp (by simp only[ji];omega) (hp (IntWalk.i64_in _ (by simp only[ji];omega)) (hp (by simp only[ji];omega) (hp (⟨⟨rfl,Nat.mul_one _,rfl⟩,by decide⟩) (hp (by simp only[ji];omega) (hp (⟨⟨rfl,Nat.mul_one _,rfl⟩,by omega⟩) (hp (by simp only[ji];omega) (hp (trivial) (hp (IntWalk.u64_in _ (by simp only[ji];omega)) (hp ((by simp only[ji];omega:0<=ji n k%64/\ji n k%64<18446744073709551616)) (hp (by simp only[ji];omega) (hp ((by omega:0<=wd_ n l k/\wd_ n l k<18446744073709551616)) (hp (hand▸(by omega:0<=wd_ n l k%2/\wd_ n l k%2<18446744073709551616)) (hp (h2) (hp (rfl) (hp (IntWalk.i64_in _ (by omega)) trivial))))))))))))))))))))))) (by kernel_rfl)
end
section
variable {x o o':List Int} {A:Option Addr} {n c:Nat} {l:List Int} {B S:Nat} {w:World}
theorem end_ (hw:Words l)(hG:∀u,RowKit.Below S w u->GM A n l B u):Goes Tryz.prog S 0 w (lpc Tryz.f51 0) (m1 x o A n c l (64*n)) (.ext 0) (m1e x o):=
 (does hw hG _).goes [false] (ps:=[[Sg.nums 24 x,.nm (.bl false)]=[Sg.nums 24 x,.nm (.bl false)],[Sg.nums 24 [0,0,0,0,0,0,0,0,0,0,0,0,0,0,0,0,0,0,0,0,0,0,0,0],.one (.bool false)]=[Sg.nums 24 [0,0,0,0,0,0,0,0,0,0,0,0,0,0,0,0,0,0,0,0,0,0,0,0],.one (.bool false)],[Sg.nums 24 (q_ x),.nm (.bl false)]=[Sg.nums 24 (q_ x),.nm (.bl false)],o=o,qb false (0<=ji n (64*n))]) (by kernel_rfl) (hp (rfl) (hp (rfl) (hp (rfl) (hp (rfl) (hp ((by simp only[ji];omega:¬(0<=ji n (64*n)))) trivial))))) (by kernel_rfl)
def jr (x:List Int)(n:Nat)(l:List Int):Nat->List Int
 |0=>List.replicate 36 0
 |k+1=>if wd_ n l k%2=1 then pl_ x (tw_ (jr x n l k)) else tw_ (jr x n l k)
theorem loop (hn:n<=10000)(hw:Words l)(hG:∀u,RowKit.Below S w u->GM A n l B u):Goes Tryz.prog S 0 w (.block 0 (.loop (lpc Tryz.f51 0))) (m1 x (jr x n l 0) A n c l 0) .nrm (m1e x (jr x n l (64*n))):=by
 refine .loop (n:=64*n) (fun k=>m1 x (jr x n l k) A n c l k) (fun k hk=>?_) (end_ hw hG)
 have hd:=wd_in (n:=n) hw k
 have hand:=and_one hd.1 hd.2
 by_cases hb:wd_ n l k%2=1
 ·exact rndt hk hn (by rw[hand];exact hb) (by rw[jr,if_pos hb]) hw hG
 ·exact rndf hk hn (by rw[hand];exact hb) (by rw[jr,if_neg hb]) hw hG
theorem jr_ok (hw:Words l)(hl:l.length=n)(on:OnP K2.F bb (ptv K2 x false)):∀k,k<=64*n->∃C,Mult K2.F (ey n l k) (ptv K2 x false) C/\RepW K2 (jr x n l k) C
 |0,_=>⟨none,by rw[ey_0 hw hl];trivial,rep_none K2 h0 hz⟩
 |k+1,hk=>by
  obtain⟨C,hC,hR⟩:=jr_ok hw hl on k (by omega)
  obtain⟨D,hD,hE⟩:=round_two K2 h2 h3 h4 h8 four_ne on hC hR
  have hd:=wd_in (n:=n) hw k
  have hm:=ey_more (by omega:k<64*n) hw
  rw[jr]
  by_cases hb:wd_ n l k%2=1
  ·rw[if_pos hb]
   obtain⟨E,e1,e2⟩:=round_one K2 h2 h3 h4 h8 h0 h1 hz on hD hE
   exact⟨E,by rw[hm,hb,show 2*ey n l k+(1:Int).toNat=ey n l k+ey n l k+1 by omega];exact e1,e2⟩
  ·rw[if_neg hb]
   exact⟨D,by rw[hm,show wd_ n l k%2=0 by omega,show 2*ey n l k+(0:Int).toNat=ey n l k+ey n l k by omega];exact hD,hE⟩
end
theorem blk0:blkc Tryz.f51 0=.loop (lpc Tryz.f51 0):=by kernel_rfl
def mulA (m:Nat)(x:List Int)(b:Bool):AV:=.tup [.agg [.nums 24 (ptW K2 (mulO K2 bb m (ptv K2 x b))),.nm (.bl (ptB (mulO K2 bb m (ptv K2 x b))))],.num .i64 (if onB K2 bb (ptv K2 x b)=true then 0 else 120)]
theorem qMul_ (x:List Int)(hx:Nm 24 x)(b:Bool)(A:Option Addr)(n c:Nat)(l:List Int)(B:Nat)(w:World)(hG0:GlobD w)(hr:Rd w B A n .u64 l)(hw:Words l)(hB:B<=w.heap.size)(hn:n<=10000):Calls Tryz.prog 51 #[.slice A n c,.agg (vals .u64 x ++ #[.bool b])] w fun e w'=>e=.returned ((mulA (num l).toNat x b).den [])/\RowKit.Below w.heap.size w w':=by
 have hG:∀u,RowKit.Below w.heap.size w u->GM A n l B u:=fun u hu=>GM.keep ⟨⟨hG0,hB⟩,hr⟩ hu
 cases b
 ·cases hon:onB K2 bb (ptv K2 x false)
  ·exact fn_outK (N:=9) (XM_ok (B:=B) hw []) (fun c _ id c' f h=>by rw[hooked_nil] at h;cases h) Tryz.func51 hG (args:=[.ext A n c l,.agg [.nums 24 x,.nm (.bl false)]]) (q:=[false]) (v:=(.tup [.agg [.nums 24 (List.replicate 24 0),.nm (.bl false)],.num .i64 120])) (obs:=[onB K2 bb (ptv K2 x false)=false]) 1 (by kernel_rfl) (hp (hon) trivial) (okA2 trivial ⟨hx,trivial,trivial⟩) (by rw[mulA,mulO,if_neg (by rw[hon];decide),if_neg (by rw[hon];decide),show ptW K2 (some (K2.F.int 0,K2.F.int 0))=List.replicate 24 0 by rw[ptW,h0];rfl];rfl) (by simp only[List.map_cons,List.map_nil,p_den];rfl)
  ·have on:=(onB_iff K2).1 hon
   obtain⟨C,hC,hR⟩:=jr_ok hw hr.len on (64*n) (Nat.le_refl _)
   rw[ey_n] at hC
   have hk:AllH Tryz.prog w.heap.size 0 w [(0,blkc Tryz.f51 0,hookEv (m1 x (jr x n l 0) A n c l 0) (m1e x (jr x n l (64*n))))]:=⟨by rw[blk0];exact (loop hn hw hG).does (by kernel_rfl),trivial⟩
   by_cases e:seg 24 12 (jr x n l (64*n))=c0
   ·obtain⟨f1,f2⟩:=fin_z K2 h0 on hC hR e
    exact fn_outK (N:=9) (XM_ok (B:=B) hw [(0,hookEv (m1 x (jr x n l 0) A n c l 0) (m1e x (jr x n l (64*n))))]) (fn_hooks (by kernel_rfl) hk) Tryz.func51 hG (args:=[.ext A n c l,.agg [.nums 24 x,.nm (.bl false)]]) (q:=[true,false,true]) (v:=(.tup [.agg [.nums 24 (ptW K2 none),.nm (.bl true)],.num .i64 0])) (obs:=[onB K2 bb (ptv K2 x false)=true,false=false,IntKind.i64.wrap (64*(n:Int))=64*(n:Int),IntKind.i64.wrap (64*(n:Int)-1)=64*(n:Int)-1,A=A/\n=n/\c=c/\l=l,64*(n:Int)-1=64*(n:Int)-1-((0:Nat):Int),[Sg.nums 24 x,.nm (.bl false)]=[Sg.nums 24 x,.nm (.bl false)],[Sg.nums 24 [0,0,0,0,0,0,0,0,0,0,0,0,0,0,0,0,0,0,0,0,0,0,0,0],.one (.bool false)]=[Sg.nums 24 [0,0,0,0,0,0,0,0,0,0,0,0,0,0,0,0,0,0,0,0,0,0,0,0],.one (.bool false)],[Sg.nums 24 (q_ x),.nm (.bl (ptB (ptv K2 x false)))]=[Sg.nums 24 (q_ x),.nm (.bl false)],List.replicate 36 0=jr x n l 0,qb true (seg 24 12 (jr x n l (64*n))=[0,0,0,0,0,0,0,0,0,0,0,0])]) 1 (by kernel_rfl) (hp (hon) (hp (rfl) (hp (IntWalk.i64_in _ (by omega)) (hp (IntWalk.i64_in _ (by omega)) (hp (⟨rfl,rfl,rfl,rfl⟩) (hp (by omega) (hp (rfl) (hp (rfl) (hp (rfl) (hp (rfl) (hp (e) trivial))))))))))) (okA2 trivial ⟨hx,trivial,trivial⟩) (by rw[mulA,mulO,if_pos hon,if_pos hon,f1,f2]) (by simp only[List.map_cons,List.map_nil,p_den];rfl)
   ·obtain⟨f1,f2⟩:=fin_n K2 h0 on hC hR e
    exact fn_outK (N:=9) (XM_ok (B:=B) hw [(0,hookEv (m1 x (jr x n l 0) A n c l 0) (m1e x (jr x n l (64*n))))]) (fn_hooks (by kernel_rfl) hk) Tryz.func51 hG (args:=[.ext A n c l,.agg [.nums 24 x,.nm (.bl false)]]) (q:=[true,false,false]) (v:=(.tup [.agg [.nums 24 (nmW K2 (seg 0 12 (jr x n l (64*n))) (seg 12 12 (jr x n l (64*n))) (seg 24 12 (jr x n l (64*n)))),.nm (.bl false)],.num .i64 0])) (obs:=[onB K2 bb (ptv K2 x false)=true,false=false,IntKind.i64.wrap (64*(n:Int))=64*(n:Int),IntKind.i64.wrap (64*(n:Int)-1)=64*(n:Int)-1,A=A/\n=n/\c=c/\l=l,64*(n:Int)-1=64*(n:Int)-1-((0:Nat):Int),[Sg.nums 24 x,.nm (.bl false)]=[Sg.nums 24 x,.nm (.bl false)],[Sg.nums 24 [0,0,0,0,0,0,0,0,0,0,0,0,0,0,0,0,0,0,0,0,0,0,0,0],.one (.bool false)]=[Sg.nums 24 [0,0,0,0,0,0,0,0,0,0,0,0,0,0,0,0,0,0,0,0,0,0,0,0],.one (.bool false)],[Sg.nums 24 (q_ x),.nm (.bl (ptB (ptv K2 x false)))]=[Sg.nums 24 (q_ x),.nm (.bl false)],List.replicate 36 0=jr x n l 0,qb false (seg 24 12 (jr x n l (64*n))=[0,0,0,0,0,0,0,0,0,0,0,0])]) 1 (by kernel_rfl) (hp (hon) (hp (rfl) (hp (IntWalk.i64_in _ (by omega)) (hp (IntWalk.i64_in _ (by omega)) (hp (⟨rfl,rfl,rfl,rfl⟩) (hp (by omega) (hp (rfl) (hp (rfl) (hp (rfl) (hp (rfl) (hp (e) trivial))))))))))) (okA2 trivial ⟨hx,trivial,trivial⟩) (by rw[mulA,mulO,if_pos hon,if_pos hon,f1,f2];rfl) (by simp only[List.map_cons,List.map_nil,p_den];rfl)
 ·have f1:=out_eq K2 (mulP_none K2 (num l).toNat)
  exact fn_outK (N:=9) (XM_ok (B:=B) hw []) (fun c _ id c' f h=>by rw[hooked_nil] at h;cases h) Tryz.func51 hG (args:=[.ext A n c l,.agg [.nums 24 x,.nm (.bl true)]]) (q:=[true,true]) (v:=(.tup [.agg [.nums 24 (ptW K2 none),.nm (.bl true)],.num .i64 0])) (obs:=[onB K2 bb (ptv K2 x true)=true,true=true]) 1 (by kernel_rfl) (hp (rfl) (hp (rfl) trivial)) (okA2 trivial ⟨hx,trivial,trivial⟩) (by rw[mulA,mulO,ptv_t,if_pos (by rfl),if_pos (by rfl),<-f1.1,<-f1.2];rfl) (by simp only[List.map_cons,List.map_nil,p_den];rfl)
def oM (f:Nat->List Int->Bool->AV):List AA->AV
 |[.sl _ l,.p x b]=>f (num l).toNat x b
 |_=>.unk
theorem conM {P:Program}{G:World->Prop}{F:FuncId}{f:Nat->List Int->Bool->AV}(h0:∀m x b n,(f m x b).Ok n)(h1:∀m x b gs,(f m x b).den gs=(f m x b).den [])(h:∀x,Nm 24 x->∀b A n c l B w,G w->Rd w B A n .u64 l->Words l->B<=w.heap.size->n<=10000->Calls P F #[.slice A n c,.agg (vals .u64 x ++ #[.bool b])] w fun e w'=>e=.returned ((f (num l).toNat x b).den [])/\RowKit.Below w.heap.size w w'):ConG P G F [.sl,.p 24] Pre0 (oM f):=by
 intro l hl _
 match l,hl with
 |[.sl n l,.p x b],⟨⟨hn,hl⟩,hx,_⟩=>
  refine⟨h0 _ x b,h1 _ x b,fun w hG vs hv=>?_⟩
  match vs,hv with
  |[v,u],⟨⟨A,c,hv,B,hB,hr⟩,hu,_⟩=>
   obtain rfl:=hv
   obtain rfl:=hu
   exact h x hx b A n c l B w hG hr hl.words hB hn
theorem mulA_ok (m:Nat)(x:List Int)(b:Bool)(n:Nat):(mulA m x b).Ok n:=⟨⟨nm_ptW K2 _,trivial,trivial⟩,trivial,trivial⟩
theorem qMul:ConG Tryz.prog GlobD 51 [.sl,.p 24] Pre0 (oM mulA):=conM mulA_ok (fun _ _ _ _=>rfl) (fun x hx b A n c l B w hG hr hw hB hn=>qMul_ x hx b A n c l B w hG hr hw hB hn)
def BL:List Int:=[15312334153293348280,841050694974028783,12993178926126977399,14331714969349929730,2740446039084699729,165123225776229009,16549740192668593022,3696594454104530263,13103893525273989193,6443473286224459290,9055845637167730533,1432192374203850592,16254428414758889473,10536956157198377609,7873024875724591404,12537348094477325223,10144865889576432922,929383263523139089,12297368366147926462,4555124010822409633,2771000935339432363,14645187562128761775,3651525051980876697,434250606344352972]
theorem nm_BL:Nm 24 BL:=⟨rfl,words_of _ (by decide)⟩
def o0 (v:AV):List AA->AV
 |[]=>v
 |_=>.unk
def BP:AV:=.agg [.nums 24 BL,.nm (.bl false)]
theorem con0 {P:Program}{G:World->Prop}{F:FuncId}{v:AV}(h0:∀n,v.Ok n)(h1:∀gs,v.den gs=v.den [])(h:∀w,G w->Calls P F #[] w fun e w'=>e=.returned (v.den [])/\RowKit.Below w.heap.size w w'):ConG P G F [] Pre0 (o0 v):=by
 intro l hl _
 match l,hl with
 |[],_=>
  refine⟨h0,h1,fun w hG vs hv=>?_⟩
  match vs,hv with
  |[],_=>exact h w hG
end S13R
namespace S12O
open Go Go.RowKit Reg Base Limb Sx Fp Fp2 Ec Pts G1K S12R Ey
theorem pReduce:Con Tryz.prog GlobD 115 [6] (f1 fun x=>W 6 (wr K1 x)):=.un (fun _ _=>K1.wo_nm _) (fun x h w g=>Fp2.pRed h w g.toGlob)
theorem pAdd:Con Tryz.prog GlobD 124 [6,6] (f2 fun x y=>W 6 (wa K1 x y)):=.bi (fun _ _ _ _=>K1.wo_nm _) (fun x h y k w g=>Fp2.pAdd h k w g.toGlob)
theorem pSub:Con Tryz.prog GlobD 117 [6,6] (f2 fun x y=>W 6 (ws K1 x y)):=.bi (fun _ _ _ _=>K1.wo_nm _) (fun x h y k w g=>by rw[show ws K1 x y=Fp.fe (num x-num y) from congrArg Fp.fe (fsub _ _)];exact Fp2.pSub h k w g.toGlob)
theorem pNeg:Con Tryz.prog GlobD 116 [6] (f1 fun x=>W 6 (wn K1 x)):=.un (fun _ _=>K1.wo_nm _) (fun x h w g=>by rw[show wn K1 x=Fp.fe (-num x) from congrArg Fp.fe ((fsub _ _).trans (Int.zero_sub _))];exact Fp2.pNeg h w g.toGlob)
theorem pMul:Con Tryz.prog GlobD 120 [6,6] (f2 fun x y=>W 6 (wm K1 x y)):=.bi (fun _ _ _ _=>K1.wo_nm _) (fun x h y k w g=>Fp2.pMul h k w g.toGlob)
theorem pInv:Con Tryz.prog GlobD 127 [6] (f1 fun x=>W 6 (wi K1 x)):=.un (fun _ _=>K1.wo_nm _) (fun x h w g=>Fp2.pInv h w g)
def L0:List (Fact Tryz.prog GlobD):=pReduce.fact (.con Tryz.func115 rfl (by decide) pReduce) ::
 pAdd.fact (.con Tryz.func124 rfl (by decide) pAdd) ::
 pSub.fact (.con Tryz.func117 rfl (by decide) pSub) ::
 pNeg.fact (.con Tryz.func116 rfl (by decide) pNeg) ::
 pMul.fact (.con Tryz.func120 rfl (by decide) pMul) ::
 pInv.fact (.con Tryz.func127 rfl (by decide) pInv) ::
 []
def X0:Cx:=.of [] (tb L0)
theorem X0_ok:CxOk Tryz.prog X0 GlobD:=cx_ok L0 trivial (by kernel_rfl)
def L1:List (Fact Tryz.prog GlobD):=⟨136,entI 136 X0 9,.inline X0_ok GlobD.keep Tryz.func136 rfl (by decide)⟩ ::
 ⟨176,entI 176 X0 9,.inline X0_ok GlobD.keep Tryz.func176 rfl (by decide)⟩ ::
 L0
def X1:Cx:=.of [] (tb L1)
theorem X1_ok:CxOk Tryz.prog X1 GlobD:=cx_ok L1 trivial (by kernel_rfl)
def L2:List (Fact Tryz.prog GlobD):=⟨175,entI 175 X1 9,.inline X1_ok GlobD.keep Tryz.func175 rfl (by decide)⟩ ::
 L1
def L3:List (Fact Tryz.prog GlobD):=L2
def XA:Cx:=((Cx.of [(24,6)] (tb L3)).eqs [(35,12)]).more []
theorem XA_ok:CxOk Tryz.prog XA GlobD:=((cx_ok (E:=[(24,6)]) L3 ⟨⟨G1K.eqF,G1K.gdF⟩,trivial⟩ (by kernel_rfl)).eqs (EM:=[(35,12)]) ⟨⟨eqG,gdG⟩,trivial⟩).more (T2:=[]) trivial
theorem lNeg:ConG Tryz.prog GlobD 103 [.p 12] Pre0 (o1 fun x b=>PA (negP K1.F (ptv K1 x b))):=con1 (fun x b n=>pa_ok _ _) (fun x b gs=>by rw[pa_den,pa_den]) (fun x hx b w hG=>by
 cases b
 ·exact fn_outS (N:=9) XA_ok GlobD.keep Tryz.func103 [] (fun s hs=>by cases hs) (noSS hG) (args:=[.agg [.nums 12 x,.nm (.bl false)]]) (q:=[false]) (v:=(.agg [.nums 12 (wr K1 (seg 0 6 x)++wn K1 (seg 6 6 x)),.nm (.bl false)])) (obs:=[false=false]) 1 (by kernel_rfl) (hp (rfl) trivial) (okA1 ⟨hx,trivial,trivial⟩) (by rw[ptv_f];rfl) (by simp only[List.map_cons,List.map_nil,p_den])
 ·exact fn_outS (N:=9) XA_ok GlobD.keep Tryz.func103 [] (fun s hs=>by cases hs) (noSS hG) (args:=[.agg [.nums 12 x,.nm (.bl true)]]) (q:=[true]) (v:=(PA none)) (obs:=[true=true]) 1 (by kernel_rfl) (hp (rfl) trivial) (okA1 ⟨hx,trivial,trivial⟩) (by rw[ptv_t];rfl) (by simp only[List.map_cons,List.map_nil,p_den]))
theorem lOn:ConG Tryz.prog GlobD 109 [.p 12] Pre0 (o1 fun x b=>.bl (onB K1 (K1.F.int 4) (ptv K1 x b))):=con1 (fun x b n=>trivial) (fun x b gs=>rfl) (fun x hx b w hG=>by
 cases b
 ·have ho:=on_w (K:=K1) (h4:=h4) (seg 0 6 x) (seg 6 6 x)
  by_cases h:wm K1 (seg 6 6 x) (seg 6 6 x)=wa K1 (wm K1 (wm K1 (seg 0 6 x) (seg 0 6 x)) (seg 0 6 x)) c4
  ·exact fn_outS (N:=9) XA_ok GlobD.keep Tryz.func109 [] (fun s hs=>by cases hs) (noSS hG) (args:=[.agg [.nums 12 x,.nm (.bl false)]]) (q:=[false,true]) (v:=(.bl true)) (obs:=[false=false,qb true (wm K1 (seg 6 6 x) (seg 6 6 x)=wa K1 (wm K1 (wm K1 (seg 0 6 x) (seg 0 6 x)) (seg 0 6 x)) c4)]) 1 (by kernel_rfl) (hp (rfl) (hp (h) trivial)) (okA1 ⟨hx,trivial,trivial⟩) (by rw[ptv_f];exact congrArg Value.bool (ho.1 h).symm) (by simp only[List.map_cons,List.map_nil,p_den])
  ·exact fn_outS (N:=9) XA_ok GlobD.keep Tryz.func109 [] (fun s hs=>by cases hs) (noSS hG) (args:=[.agg [.nums 12 x,.nm (.bl false)]]) (q:=[false,false]) (v:=(.bl false)) (obs:=[false=false,qb false (wm K1 (seg 6 6 x) (seg 6 6 x)=wa K1 (wm K1 (wm K1 (seg 0 6 x) (seg 0 6 x)) (seg 0 6 x)) c4)]) 1 (by kernel_rfl) (hp (rfl) (hp (h) trivial)) (okA1 ⟨hx,trivial,trivial⟩) (by rw[ptv_f];exact congrArg Value.bool (Bool.eq_false_iff.2 (fun e=>h (ho.2 e))).symm) (by simp only[List.map_cons,List.map_nil,p_den])
 ·exact fn_outS (N:=9) XA_ok GlobD.keep Tryz.func109 [] (fun s hs=>by cases hs) (noSS hG) (args:=[.agg [.nums 12 x,.nm (.bl true)]]) (q:=[true]) (v:=(.bl true)) (obs:=[true=true]) 1 (by kernel_rfl) (hp (rfl) trivial) (okA1 ⟨hx,trivial,trivial⟩) (by rw[ptv_t];rfl) (by simp only[List.map_cons,List.map_nil,p_den]))
def T2:List (FuncId×Ent2):=[(103,entG [.p 12] Pre0 (o1 fun x b=>PA (negP K1.F (ptv K1 x b)))),(109,entG [.p 12] Pre0 (o1 fun x b=>.bl (onB K1 (K1.F.int 4) (ptv K1 x b))))]
def ow1 (f:List Int->AV):List AA->AV
 |[.w l]=>f l
 |_=>.unk
theorem conw {P:Program}{G:World->Prop}{F:FuncId}{f:List Int->AV}(h0:∀l,Nm 18 l->∀n,(f l).Ok n)(h1:∀l gs,(f l).den gs=(f l).den [])(h:∀l,Nm 18 l->∀w,G w->Calls P F #[.agg (vals .u64 l)] w fun e w'=>e=.returned ((f l).den [])/\RowKit.Below w.heap.size w w'):ConG P G F [.w 18] Pre0 (ow1 f):=by
 intro l hl _
 match l,hl with
 |[.w x],⟨hx,_⟩=>
  refine⟨h0 x hx,h1 x,fun w hG vs hv=>?_⟩
  match vs,hv with
  |[v],⟨hv,_⟩=>
   obtain rfl:=hv
   exact h x hx w hG
theorem lIs:ConG Tryz.prog GlobD 160 [.w 18] Pre0 (ow1 fun l=>.bl (decide (seg 12 6 l=c0))):=conw (fun _ _ _=>trivial) (fun _ _=>rfl) (fun l hl w hG=>by
 by_cases e:seg 12 6 l=c0
 ·exact fn_outS (N:=9) XA_ok GlobD.keep Tryz.func160 [] (fun s hs=>by cases hs) (noSS hG) (args:=[.agg [.nums 18 l]]) (q:=[true]) (v:=(.bl true)) (obs:=[qb true (seg 12 6 l=[0,0,0,0,0,0])]) 1 (by kernel_rfl) (hp (e) trivial) (okA1 ⟨hl,trivial⟩) (by rw[decide_eq_true e]) (by simp only[List.map_cons,List.map_nil,l_den])
 ·exact fn_outS (N:=9) XA_ok GlobD.keep Tryz.func160 [] (fun s hs=>by cases hs) (noSS hG) (args:=[.agg [.nums 18 l]]) (q:=[false]) (v:=(.bl false)) (obs:=[qb false (seg 12 6 l=[0,0,0,0,0,0])]) 1 (by kernel_rfl) (hp (e) trivial) (okA1 ⟨hl,trivial⟩) (by rw[decide_eq_false e]) (by simp only[List.map_cons,List.map_nil,l_den]))
def T3:List (FuncId×Ent2):=[(160,entG [.w 18] Pre0 (ow1 fun l=>.bl (decide (seg 12 6 l=c0))))]
theorem T3_ok:TOk2 Tryz.prog GlobD T3:=⟨.conG Tryz.func160 rfl (by decide) lIs,trivial⟩
def XC:Cx:=((Cx.of [(24,6)] (tb L3)).eqs [(35,12)]).more T3
theorem XC_ok:CxOk Tryz.prog XC GlobD:=((cx_ok (E:=[(24,6)]) L3 ⟨⟨G1K.eqF,G1K.gdF⟩,trivial⟩ (by kernel_rfl)).eqs (EM:=[(35,12)]) ⟨⟨eqG,gdG⟩,trivial⟩).more T3_ok
theorem nm_dbF {l:List Int}(h:Nm 18 l):Nm 18 (dbF K1 c0 l):=by
 unfold dbF
 split
 ·exact h
 ·exact nm_dbR K1 _ _ _
theorem nm_psF {l q:List Int}(h:Nm 18 l)(hq:Nm 12 q):Nm 18 (psF K1 c0 c1 l q):=by
 unfold psF
 split
 ·rw[show seg 0 K1.n q++seg K1.n K1.n q=q from (seg_all (n:=6) (m:=6) hq.len).symm]
  exact hq.app nm_c1
 ·split
  ·exact nm_dbF h
  ·exact nm_psR K1 _ _ _ _ _
theorem lDb:ConG Tryz.prog GlobD 158 [.w 18] Pre0 (ow1 fun l=>.agg [.nums 18 (dbF K1 c0 l)]):=conw (fun l h n=>⟨nm_dbF h,trivial⟩) (fun _ _=>rfl) (fun l hl w hG=>by
 by_cases e:seg 12 6 l=c0
 ·exact fn_outS (N:=9) XC_ok GlobD.keep Tryz.func158 [] (fun s hs=>by cases hs) (noSS hG) (args:=[.agg [.nums 18 l]]) (q:=[true]) (v:=(.agg [.nums 18 (l)])) (obs:=[decide (seg 12 6 l=c0)=true]) 1 (by kernel_rfl) (hp (decide_eq_true e) trivial) (okA1 ⟨hl,trivial⟩) (by rw[show dbF K1 c0 l=l from if_pos e]) (by simp only[List.map_cons,List.map_nil,l_den])
 ·exact fn_outS (N:=9) XC_ok GlobD.keep Tryz.func158 [] (fun s hs=>by cases hs) (noSS hG) (args:=[.agg [.nums 18 l]]) (q:=[false]) (v:=(.agg [.nums 18 (dbR K1 (seg 0 6 l) (seg 6 6 l) (seg 12 6 l))])) (obs:=[decide (seg 12 6 l=c0)=false]) 1 (by kernel_rfl) (hp (decide_eq_false e) trivial) (okA1 ⟨hl,trivial⟩) (by rw[show dbF K1 c0 l=dbR K1 (seg 0 6 l) (seg 6 6 l) (seg 12 6 l) from if_neg e]) (by simp only[List.map_cons,List.map_nil,l_den]))
def T4:List (FuncId×Ent2):=[(158,entG [.w 18] Pre0 (ow1 fun l=>.agg [.nums 18 (dbF K1 c0 l)])),(160,entG [.w 18] Pre0 (ow1 fun l=>.bl (decide (seg 12 6 l=c0))))]
theorem T4_ok:TOk2 Tryz.prog GlobD T4:=⟨.conG Tryz.func158 rfl (by decide) lDb,.conG Tryz.func160 rfl (by decide) lIs,trivial⟩
def XD:Cx:=((Cx.of [(24,6)] (tb L3)).eqs [(35,12)]).more T4
theorem XD_ok:CxOk Tryz.prog XD GlobD:=((cx_ok (E:=[(24,6)]) L3 ⟨⟨G1K.eqF,G1K.gdF⟩,trivial⟩ (by kernel_rfl)).eqs (EM:=[(35,12)]) ⟨⟨eqG,gdG⟩,trivial⟩).more T4_ok
theorem conwq {P:Program}{G:World->Prop}{F:FuncId}{f:List Int->List Int->AV}(h0:∀l,Nm 18 l->∀q,Nm 12 q->∀n,(f l q).Ok n)(h1:∀l q gs,(f l q).den gs=(f l q).den [])(h:∀l,Nm 18 l->∀q,Nm 12 q->∀w,G w->Calls P F #[.agg (vals .u64 l),.agg (vals .u64 q ++ #[.bool false])] w fun e w'=>e=.returned ((f l q).den [])/\RowKit.Below w.heap.size w w'):ConG P G F [.w 18,.p 12] PreF1 (owp f):=by
 intro l hl hp
 match l,hl,hp with
 |[.w x,.p q c],⟨hx,hy,_⟩,hp=>
  obtain⟨rfl,_⟩:=hp
  refine⟨h0 x hx q hy,h1 x q,fun w hG vs hv=>?_⟩
  match vs,hv with
  |[v,u],⟨hv,hu,_⟩=>
   obtain rfl:=hv
   obtain rfl:=hu
   exact h x hx q hy w hG
theorem lPs:ConG Tryz.prog GlobD 159 [.w 18,.p 12] PreF1 (owp fun l q=>.agg [.nums 18 (psF K1 c0 c1 l q)]):=conwq (fun l h q hq n=>⟨nm_psF h hq,trivial⟩) (fun _ _ _=>rfl) (fun l hl q hq w hG=>by
 by_cases e1:seg 12 6 l=c0
 ·exact fn_outS (N:=9) XD_ok GlobD.keep Tryz.func159 [] (fun s hs=>by cases hs) (noSS hG) (args:=[.agg [.nums 18 l],.agg [.nums 12 q,.nm (.bl false)]]) (q:=[true]) (v:=(.agg [.nums 18 (seg 0 6 q++seg 6 6 q++[1]++[0,0,0,0,0])])) (obs:=[decide (seg 12 6 l=c0)=true]) 1 (by kernel_rfl) (hp (decide_eq_true e1) trivial) (okA2 ⟨hl,trivial⟩ ⟨hq,trivial,trivial⟩) (by rw[show psF K1 c0 c1 l q=seg 0 6 q++seg 6 6 q++c1 from if_pos e1,List.append_assoc _ [1]];rfl) (by simp only[List.map_cons,List.map_nil,p_den,l_den])
 ·by_cases e2:hW K1 (seg 0 6 l) (seg 12 6 l) (seg 0 6 q)=c0
  ·by_cases e3:rW K1 (seg 6 6 l) (seg 12 6 l) (seg 6 6 q)=c0
   ·exact fn_outS (N:=9) XD_ok GlobD.keep Tryz.func159 [] (fun s hs=>by cases hs) (noSS hG) (args:=[.agg [.nums 18 l],.agg [.nums 12 q,.nm (.bl false)]]) (q:=[false,true,true]) (v:=(.agg [.nums 18 (dbF K1 c0 l)])) (obs:=[decide (seg 12 6 l=c0)=false,qb true (hW K1 (seg 0 6 l) (seg 12 6 l) (seg 0 6 q)=[0,0,0,0,0,0]),qb true (rW K1 (seg 6 6 l) (seg 12 6 l) (seg 6 6 q)=[0,0,0,0,0,0])]) 1 (by kernel_rfl) (hp (decide_eq_false e1) (hp (e2) (hp (e3) trivial))) (fun v hv=>by
   simp only[List.mem_cons,List.not_mem_nil,or_false] at hv
   rcases hv with rfl|rfl
   ·exact⟨hl,trivial⟩
   ·exact⟨hq,trivial,trivial⟩) (by rw[show psF K1 c0 c1 l q=dbF K1 c0 l from (if_neg e1).trans (if_pos ⟨e2,e3⟩)]) (by simp only[List.map_cons,List.map_nil,p_den,l_den])
   ·exact fn_outS (N:=9) XD_ok GlobD.keep Tryz.func159 [] (fun s hs=>by cases hs) (noSS hG) (args:=[.agg [.nums 18 l],.agg [.nums 12 q,.nm (.bl false)]]) (q:=[false,true,false]) (v:=(.agg [.nums 18 (psR K1 (seg 0 6 l) (seg 6 6 l) (seg 12 6 l) (seg 0 6 q) (seg 6 6 q))])) (obs:=[decide (seg 12 6 l=c0)=false,qb true (hW K1 (seg 0 6 l) (seg 12 6 l) (seg 0 6 q)=[0,0,0,0,0,0]),qb false (rW K1 (seg 6 6 l) (seg 12 6 l) (seg 6 6 q)=[0,0,0,0,0,0])]) 1 (by kernel_rfl) (hp (decide_eq_false e1) (hp (e2) (hp (e3) trivial))) (okA2 ⟨hl,trivial⟩ ⟨hq,trivial,trivial⟩) (by rw[show psF K1 c0 c1 l q=psR K1 (seg 0 6 l) (seg 6 6 l) (seg 12 6 l) (seg 0 6 q) (seg 6 6 q) from (if_neg e1).trans (if_neg fun h=>e3 h.2)]) (by simp only[List.map_cons,List.map_nil,p_den,l_den])
  ·exact fn_outS (N:=9) XD_ok GlobD.keep Tryz.func159 [] (fun s hs=>by cases hs) (noSS hG) (args:=[.agg [.nums 18 l],.agg [.nums 12 q,.nm (.bl false)]]) (q:=[false,false]) (v:=(.agg [.nums 18 (psR K1 (seg 0 6 l) (seg 6 6 l) (seg 12 6 l) (seg 0 6 q) (seg 6 6 q))])) (obs:=[decide (seg 12 6 l=c0)=false,qb false (hW K1 (seg 0 6 l) (seg 12 6 l) (seg 0 6 q)=[0,0,0,0,0,0])]) 1 (by kernel_rfl) (hp (decide_eq_false e1) (hp (e2) trivial)) (fun v hv=>by
   simp only[List.mem_cons,List.not_mem_nil,or_false] at hv
   rcases hv with rfl|rfl
   ·exact⟨hl,trivial⟩
   ·exact⟨hq,trivial,trivial⟩) (by rw[show psF K1 c0 c1 l q=psR K1 (seg 0 6 l) (seg 6 6 l) (seg 12 6 l) (seg 0 6 q) (seg 6 6 q) from (if_neg e1).trans (if_neg fun h=>e2 h.1)]) (by simp only[List.map_cons,List.map_nil,p_den,l_den]))
def pnW (l:List Int):List Int:=if seg 12 6 l=c0 then List.replicate 12 0 else nmW K1 (seg 0 6 l) (seg 6 6 l) (seg 12 6 l)
def pnB (l:List Int):Bool:=decide (seg 12 6 l=c0)
theorem nm_pnW (l:List Int):Nm 12 (pnW l):=by
 unfold pnW
 split
 ·exact⟨rfl,words_zeros 12⟩
 ·exact (K1.wo_nm _).app (K1.wo_nm _)
def PN (l:List Int):AV:=.agg [.nums 12 (pnW l),.nm (.bl (pnB l))]
theorem pn_den (l:List Int)(gs:List Nat):(PN l).den gs=.agg (vals .u64 (pnW l) ++ #[.bool (pnB l)]):=by simp[PN,AV.den,den,Sg.den,NV.den,vals]
theorem lPt:ConG Tryz.prog GlobD 138 [.w 18] Pre0 (ow1 PN):=conw (fun l _ n=>⟨nm_pnW l,trivial,trivial⟩) (fun l gs=>by rw[pn_den,pn_den]) (fun l hl w hG=>by
 by_cases e:seg 12 6 l=c0
 ·exact fn_outS (N:=9) XC_ok GlobD.keep Tryz.func138 [] (fun s hs=>by cases hs) (noSS hG) (args:=[.agg [.nums 18 l]]) (q:=[true]) (v:=(PA none)) (obs:=[decide (seg 12 6 l=c0)=true]) 1 (by kernel_rfl) (hp (decide_eq_true e) trivial) (okA1 ⟨hl,trivial⟩) (by rw[pn_den,pa_den,pnW,pnB,if_pos e,decide_eq_true e];rfl) (by simp only[List.map_cons,List.map_nil,l_den])
 ·exact fn_outS (N:=9) XC_ok GlobD.keep Tryz.func138 [] (fun s hs=>by cases hs) (noSS hG) (args:=[.agg [.nums 18 l]]) (q:=[false]) (v:=(.agg [.nums 12 (nmW K1 (seg 0 6 l) (seg 6 6 l) (seg 12 6 l)),.nm (.bl false)])) (obs:=[decide (seg 12 6 l=c0)=false]) 1 (by kernel_rfl) (hp (decide_eq_false e) trivial) (okA1 ⟨hl,trivial⟩) (by rw[pn_den,pnW,pnB,if_neg e,decide_eq_false e];exact p_den) (by simp only[List.map_cons,List.map_nil,l_den]))
def T5o:List (FuncId×Ent2):=[(159,entG [.w 18,.p 12] PreF1 (owp fun l q=>.agg [.nums 18 (psF K1 c0 c1 l q)])),(158,entG [.w 18] Pre0 (ow1 fun l=>.agg [.nums 18 (dbF K1 c0 l)]))]
theorem T5o_ok:TOk2 Tryz.prog GlobD T5o:=⟨.conG Tryz.func159 rfl (by decide) lPs,.conG Tryz.func158 rfl (by decide) lDb,trivial⟩
def XE:Cx:=((Cx.of [(24,6)] (tb L3)).eqs [(35,12)]).more T5o
theorem XE_ok:CxOk Tryz.prog XE GlobD:=((cx_ok (E:=[(24,6)]) L3 ⟨⟨G1K.eqF,G1K.gdF⟩,trivial⟩ (by kernel_rfl)).eqs (EM:=[(35,12)]) ⟨⟨eqG,gdG⟩,trivial⟩).more T5o_ok
abbrev db_ (l:List Int):List Int:=dbF K1 c0 l
abbrev ps_ (x l:List Int):List Int:=psF K1 c0 c1 l x
section
variable (x o:List Int) (A:Option Addr) (n c:Nat) (l:List Int)
def b3:List Bk:=[(35,[.nums 12 x,.nm (.bl false)]),(123,[.nums 18 (List.replicate 18 (0:Int))]),(123,[.nums 18 o])]
def m1 (k:Nat):St:=⟨mkSl 34 [(0,.ext A n c l),(3,.ptr 0 0),(4,.ptr 1 0),(5,.ptr 2 0),(6,.num .i64 (64*(n:Int)-1-k))],b3 x o⟩
def m1e:St:=⟨mkSl 34 [(4,.ptr 1 0),(5,.ptr 2 0)],b3 x o⟩
end
abbrev XM (A:Option Addr)(n:Nat)(l:List Int)(H:List (Nat×Ev)):Cx:=XE.sym (DM A n l) H
theorem XM_ok {A:Option Addr}{n:Nat}{l:List Int}{B:Nat}(hw:Words l)(H:List (Nat×Ev)):CxB Tryz.prog (XM A n l H) (GM A n l B):=
 XE_ok.toCxB.sym (fun u h=>h.1.1) (fun A' n' l' h=>by
  obtain⟨rfl,rfl,rfl⟩:=h
  exact⟨hw,B,fun u hu=>⟨hu.1.2,hu.2⟩⟩) H
section
variable {x o o':List Int} {A:Option Addr} {n c:Nat} {l:List Int} {B S:Nat} {w:World}
theorem does (hw:Words l)(hG:∀u,RowKit.Below S w u->GM A n l B u)(c:Code):Does Tryz.prog S 0 w c (evalC Tryz.prog (XM A n l []) 0 9 c):=code_ok (XM_ok hw []) hG c (fun _ _ _ h=>by rw[hooked_nil] at h;cases h)
theorem rndf {k:Nat}(hk:k<64*n)(hn:n<=10000)(h2:qb false (wd_ n l k%2=1))(hrow:db_ o=o')(hw:Words l)(hG:∀u,RowKit.Below S w u->GM A n l B u):Goes Tryz.prog S 0 w (lpc Tryz.f137 0) (m1 x o A n c l k) .nrm (m1 x o' A n c l (k+1)):=by
 have hd:=wd_in (n:=n) hw k
 exact (does hw hG _).goes [false,false] (ps:=[A=A/\n=n/\c=c/\l=l,64*(n:Int)-1-k-1=64*(n:Int)-1-((k+1:Nat):Int),[Sg.nums 12 x,.nm (.bl false)]=[Sg.nums 12 x,.nm (.bl false)],(List.replicate 18 (0:Int))=(List.replicate 18 (0:Int)),db_ o=o',qb false (ji n k<0),0<=ji n k/\(0:Int)<64,IntKind.i64.wrap (ji n k/64)=ji n k/64,0<=ji n k/64/\ji n k/64<(n:Int),DM A n l A (n*1) l/\0<1,(ji n k/64).toNat*1<n*1,DM A n l A (n*1) l/\0<n*1,0<=ji n k/\(0:Int)<64,rng .i64 (ji n k%64),0<=ji n k%64/\ji n k%64<((64:Nat):Int),rng .u64 (wd_ n l k),0<=wd_ n l k/\(0:Int)<2,rng .u64 (wd_ n l k%2),qb false (wd_ n l k%2=1),IntKind.i64.wrap (64*(n:Int)-1-k-1)=64*(n:Int)-1-k-1]) (by kernel_rfl) (hp (⟨rfl,rfl,rfl,rfl⟩) (hp (by omega) (hp (rfl) (hp (rfl) (hp (hrow) (hp ((by simp only[ji];omega:¬ji n k<0)) (hp (by simp only[ji];omega) (hp (IntWalk.i64_in _ (by simp only[ji];omega)) (hp (by simp only[ji];omega) (hp (⟨⟨rfl,Nat.mul_one _,rfl⟩,by decide⟩) (hp (by simp only[ji];omega) (hp (⟨⟨rfl,Nat.mul_one _,rfl⟩,by omega⟩) (hp (by simp only[ji];omega) (hp (trivial) (hp (by simp only[ji];omega) (hp ((by omega:0<=wd_ n l k/\wd_ n l k<18446744073709551616)) (hp (by omega) (hp ((by omega:0<=wd_ n l k%2/\wd_ n l k%2<18446744073709551616)) (hp (h2) (hp (IntWalk.i64_in _ (by omega)) trivial)))))))))))))))))))) (by kernel_rfl)
theorem rndt {k:Nat}(hk:k<64*n)(hn:n<=10000)(h2:qb true (wd_ n l k%2=1))(hrow:ps_ x (db_ o)=o')(hw:Words l)(hG:∀u,RowKit.Below S w u->GM A n l B u):Goes Tryz.prog S 0 w (lpc Tryz.f137 0) (m1 x o A n c l k) .nrm (m1 x o' A n c l (k+1)):=by
 have hd:=wd_in (n:=n) hw k
 exact (does hw hG _).goes [false,true] (ps:=[A=A/\n=n/\c=c/\l=l,64*(n:Int)-1-k-1=64*(n:Int)-1-((k+1:Nat):Int),[Sg.nums 12 x,.nm (.bl false)]=[Sg.nums 12 x,.nm (.bl false)],(List.replicate 18 (0:Int))=(List.replicate 18 (0:Int)),ps_ x (db_ o)=o',qb false (ji n k<0),0<=ji n k/\(0:Int)<64,IntKind.i64.wrap (ji n k/64)=ji n k/64,0<=ji n k/64/\ji n k/64<(n:Int),DM A n l A (n*1) l/\0<1,(ji n k/64).toNat*1<n*1,DM A n l A (n*1) l/\0<n*1,0<=ji n k/\(0:Int)<64,rng .i64 (ji n k%64),0<=ji n k%64/\ji n k%64<((64:Nat):Int),rng .u64 (wd_ n l k),0<=wd_ n l k/\(0:Int)<2,rng .u64 (wd_ n l k%2),qb true (wd_ n l k%2=1),false=false,IntKind.i64.wrap (64*(n:Int)-1-k-1)=64*(n:Int)-1-k-1]) (by kernel_rfl) (hp (⟨rfl,rfl,rfl,rfl⟩) (hp (by omega) (hp (rfl) (hp (rfl) (hp (hrow) (hp ((by simp only[ji];omega:¬ji n k<0)) (hp (by simp only[ji];omega) (hp (IntWalk.i64_in _ (by simp only[ji];omega)) (hp (by simp only[ji];omega) (hp (⟨⟨rfl,Nat.mul_one _,rfl⟩,by decide⟩) (hp (by simp only[ji];omega) (hp (⟨⟨rfl,Nat.mul_one _,rfl⟩,by omega⟩) (hp (by simp only[ji];omega) (hp (trivial) (hp (by simp only[ji];omega) (hp ((by omega:0<=wd_ n l k/\wd_ n l k<18446744073709551616)) (hp (by omega) (hp ((by omega:0<=wd_ n l k%2/\wd_ n l k%2<18446744073709551616)) (hp (h2) (hp (rfl) (hp (IntWalk.i64_in _ (by omega)) trivial))))))))))))))))))))) (by kernel_rfl)
theorem end_ (hw:Words l)(hG:∀u,RowKit.Below S w u->GM A n l B u):Goes Tryz.prog S 0 w (lpc Tryz.f137 0) (m1 x o A n c l (64*n)) (.ext 0) (m1e x o):=
 (does hw hG _).goes [true] (ps:=[[Sg.nums 12 x,.nm (.bl false)]=[Sg.nums 12 x,.nm (.bl false)],(List.replicate 18 (0:Int))=(List.replicate 18 (0:Int)),o=o,qb true (ji n (64*n)<0)]) (by kernel_rfl) (hp (rfl) (hp (rfl) (hp (rfl) (hp ((by simp only[ji];omega:ji n (64*n)<0)) trivial)))) (by kernel_rfl)
def jl (x:List Int)(n:Nat)(l:List Int):Nat->List Int
 |0=>List.replicate 18 0
 |k+1=>if wd_ n l k%2=1 then ps_ x (db_ (jl x n l k)) else db_ (jl x n l k)
theorem loop (hn:n<=10000)(hw:Words l)(hG:∀u,RowKit.Below S w u->GM A n l B u):Goes Tryz.prog S 0 w (.block 0 (.loop (lpc Tryz.f137 0))) (m1 x (jl x n l 0) A n c l 0) .nrm (m1e x (jl x n l (64*n))):=by
 refine .loop (n:=64*n) (fun k=>m1 x (jl x n l k) A n c l k) (fun k hk=>?_) (end_ hw hG)
 by_cases hb:wd_ n l k%2=1
 ·exact rndt hk hn hb (by rw[jl,if_pos hb]) hw hG
 ·exact rndf hk hn hb (by rw[jl,if_neg hb]) hw hG
theorem nm_jl (hx:Nm 12 x):∀k,Nm 18 (jl x n l k)
 |0=>⟨rfl,words_zeros 18⟩
 |k+1=>by
  rw[jl]
  split
  ·exact nm_psF (nm_dbF (nm_jl hx k)) hx
  ·exact nm_dbF (nm_jl hx k)
theorem jl_ok (hx:Nm 12 x)(hw:Words l)(hl:l.length=n)(on:OnP K1.F (K1.F.int 4) (ptv K1 x false)):∀k,k<=64*n->∃C,Mult K1.F (ey n l k) (ptv K1 x false) C/\RepV K1 (jl x n l k) C
 |0,_=>⟨none,by rw[ey_0 hw hl];trivial,repV_none K1 h0 hz⟩
 |k+1,hk=>by
  obtain⟨C,hC,hR⟩:=jl_ok hx hw hl on k (by omega)
  obtain⟨D,hD,hE⟩:=rd_two K1 h0 four_ne on hC hR
  have hd:=wd_in (n:=n) hw k
  have hm:=ey_more (by omega:k<64*n) hw
  rw[jl]
  by_cases hb:wd_ n l k%2=1
  ·rw[if_pos hb]
   obtain⟨E,e1,e2⟩:=rd_one K1 h0 h1 hx on hD hE
   exact⟨E,by rw[hm,hb,show 2*ey n l k+(1:Int).toNat=ey n l k+ey n l k+1 by omega];exact e1,e2⟩
  ·rw[if_neg hb]
   exact⟨D,by rw[hm,show wd_ n l k%2=0 by omega,show 2*ey n l k+(0:Int).toNat=ey n l k+ey n l k by omega];exact hD,hE⟩
end
theorem blk0:blkc Tryz.f137 0=.loop (lpc Tryz.f137 0):=by kernel_rfl
abbrev PreSF:List AA->List Ob
 |[.sl _ _,.p _ b]=>[b=false]
 |_=>[]
def osp (f:List Int->List Int->AV):List AA->AV
 |[.sl _ l,.p x _]=>f l x
 |_=>.unk
theorem consp {P:Program}{G:World->Prop}{F:FuncId}{f:List Int->List Int->AV}(h0:∀l x,Nm 12 x->∀n,(f l x).Ok n)(h1:∀l x gs,(f l x).den gs=(f l x).den [])(h:∀x,Nm 12 x->∀A n c l B w,G w->Rd w B A n .u64 l->Words l->B<=w.heap.size->n<=10000->Calls P F #[.slice A n c,.agg (vals .u64 x ++ #[.bool false])] w fun e w'=>e=.returned ((f l x).den [])/\RowKit.Below w.heap.size w w'):ConG P G F [.sl,.p 12] PreSF (osp f):=by
 intro l hl hp
 match l,hl,hp with
 |[.sl n l,.p x b],⟨⟨hn,hl⟩,hx,_⟩,hp=>
  obtain⟨rfl,_⟩:=hp
  refine⟨h0 l x hx,h1 l x,fun w hG vs hv=>?_⟩
  match vs,hv with
  |[v,u],⟨⟨A,c,hv,B,hB,hr⟩,hu,_⟩=>
   obtain rfl:=hv
   obtain rfl:=hu
   exact h x hx A n c l B w hG hr hl.words hB hn
theorem times_ (x:List Int)(hx:Nm 12 x)(A:Option Addr)(n c:Nat)(l:List Int)(B:Nat)(w:World)(hG0:GlobD w)(hr:Rd w B A n .u64 l)(hw:Words l)(hB:B<=w.heap.size)(hn:n<=10000):Calls Tryz.prog 137 #[.slice A n c,.agg (vals .u64 x ++ #[.bool false])] w fun e w'=>e=.returned ((AV.agg [.nums 18 (jl x n l (64*n))]).den [])/\RowKit.Below w.heap.size w w':=by
 have hG:∀u,RowKit.Below w.heap.size w u->GM A n l B u:=fun u hu=>GM.keep ⟨⟨hG0,hB⟩,hr⟩ hu
 have hk:AllH Tryz.prog w.heap.size 0 w [(0,blkc Tryz.f137 0,hookEv (m1 x (jl x n l 0) A n c l 0) (m1e x (jl x n l (64*n))))]:=⟨by rw[blk0];exact (loop hn hw hG).does (by kernel_rfl),trivial⟩
 exact fn_outK (N:=9) (XM_ok (B:=B) hw [(0,hookEv (m1 x (jl x n l 0) A n c l 0) (m1e x (jl x n l (64*n))))]) (fn_hooks (by kernel_rfl) hk) Tryz.func137 hG (args:=[.ext A n c l,.agg [.nums 12 x,.nm (.bl false)]]) (q:=[]) (v:=.agg [.nums 18 (jl x n l (64*n))]) (obs:=[IntKind.i64.wrap ((n:Int)*64)=(n:Int)*64,IntKind.i64.wrap ((n:Int)*64-1)=(n:Int)*64-1,A=A/\n=n/\c=c/\l=l,(n:Int)*64-1=64*(n:Int)-1-((0:Nat):Int),[Sg.nums 12 x,.nm (.bl false)]=[Sg.nums 12 x,.nm (.bl false)],(List.replicate 18 (0:Int))=(List.replicate 18 (0:Int)),List.replicate 18 0=jl x n l 0]) 1 (by kernel_rfl) (hp (IntWalk.i64_in _ (by omega)) (hp (IntWalk.i64_in _ (by omega)) (hp (⟨rfl,rfl,rfl,rfl⟩) (hp (by omega) (hp (rfl) (hp (rfl) (hp (rfl) trivial))))))) (okA2 trivial ⟨hx,trivial,trivial⟩) rfl (by simp only[List.map_cons,List.map_nil,p_den];rfl)
theorem lTimes:ConG Tryz.prog GlobD 137 [.sl,.p 12] PreSF (osp (fun l x=>.agg [.nums 18 (jl x l.length l (64*l.length))])):=consp (fun l x hx n=>⟨nm_jl hx _,trivial⟩) (fun _ _ _=>rfl) (fun x hx A n c l B w hG0 hr hw hB hn=>by
 have h:=times_ x hx A n c l B w hG0 hr hw hB hn
 rw[<-hr.len] at h
 rw[<-hr.len]
 exact h)
def T6o:List (FuncId×Ent2):=[(137,entG [.sl,.p 12] PreSF (osp (fun l x=>.agg [.nums 18 (jl x l.length l (64*l.length))]))),(138,entG [.w 18] Pre0 (ow1 PN)),(109,entG [.p 12] Pre0 (o1 fun x b=>.bl (onB K1 (K1.F.int 4) (ptv K1 x b))))]
theorem T6o_ok:TOk2 Tryz.prog GlobD T6o:=⟨.conG Tryz.func137 rfl (by decide) lTimes,.conG Tryz.func138 rfl (by decide) lPt,.conG Tryz.func109 rfl (by decide) lOn,trivial⟩
def XF:Cx:=((Cx.of [(24,6)] (tb L3)).eqs [(35,12)]).more T6o
theorem XF_ok:CxOk Tryz.prog XF GlobD:=((cx_ok (E:=[(24,6)]) L3 ⟨⟨G1K.eqF,G1K.gdF⟩,trivial⟩ (by kernel_rfl)).eqs (EM:=[(35,12)]) ⟨⟨eqG,gdG⟩,trivial⟩).more T6o_ok
theorem pn_ok {x l:List Int}(hx:Nm 12 x)(hw:Words l)(hon:onB K1 (K1.F.int 4) (ptv K1 x false)=true):pnW (jl x l.length l (64*l.length))=ptW K1 (mulO K1 (K1.F.int 4) (num l).toNat (ptv K1 x false))/\pnB (jl x l.length l (64*l.length))=ptB (mulO K1 (K1.F.int 4) (num l).toNat (ptv K1 x false)):=by
 have on:=(onB_iff K1).1 hon
 obtain⟨C,hC,hR⟩:=jl_ok hx hw rfl on (64*l.length) (Nat.le_refl _)
 rw[ey_n] at hC
 rw[mulO,if_pos hon]
 by_cases e:seg 12 6 (jl x l.length l (64*l.length))=c0
 ·obtain⟨f1,f2⟩:=fn_z K1 h0 on hC hR e
  rw[pnW,pnB,if_pos e,decide_eq_true e,f1,f2]
  exact⟨rfl,rfl⟩
 ·obtain⟨f1,f2⟩:=fn_n K1 h0 on hC hR e
  rw[pnW,pnB,if_neg e,decide_eq_false e,f1,f2]
  exact⟨rfl,rfl⟩
theorem mulA_none (m:Nat)(x:List Int):(AV.tup [.agg [.nums 12 (ptW K1 none),.nm (.bl true)],.num .i64 0]).den []=(mulA m x true).den []:=by
 have f1:=out_eq K1 (mulP_none K1 m)
 rw[mulA,mulO,ptv_t,if_pos (by rfl),if_pos (by rfl),<-f1.1,<-f1.2]
 rfl
theorem lMul:ConG Tryz.prog GlobD 102 [.sl,.p 12] Pre0 (oM mulA):=conM mulA_ok (fun _ _ _ _=>rfl) (fun x hx b A n c l B w hG hr hw hB hn=>by
 cases b
 ·cases hon:onB K1 (K1.F.int 4) (ptv K1 x false)
  ·exact fn_outS (N:=9) XF_ok GlobD.keep Tryz.func102 [(A,n,l,B)] (fun s hs=>by obtain rfl:=List.mem_singleton.1 hs;exact hw) ⟨hG,fun s hs=>by obtain rfl:=List.mem_singleton.1 hs;exact⟨hB,hr⟩⟩ (args:=[.ext A n c l,.agg [.nums 12 x,.nm (.bl false)]]) (q:=[false]) (v:=(.tup [.agg [.nums 12 (List.replicate 12 0),.nm (.bl false)],.num .i64 120])) (obs:=[onB K1 (K1.F.int 4) (ptv K1 x false)=false]) 1 (by kernel_rfl) (hp (hon) trivial) (okA2 trivial ⟨hx,trivial,trivial⟩) (by rw[mulA,mulO,if_neg (by rw[hon];decide),if_neg (by rw[hon];decide),show ptW K1 (some (K1.F.int 0,K1.F.int 0))=List.replicate 12 0 by rw[ptW,h0];rfl];rfl) (by simp only[List.map_cons,List.map_nil,p_den];rfl)
  ·exact fn_outS (N:=9) XF_ok GlobD.keep Tryz.func102 [(A,n,l,B)] (fun s hs=>by obtain rfl:=List.mem_singleton.1 hs;exact hw) ⟨hG,fun s hs=>by obtain rfl:=List.mem_singleton.1 hs;exact⟨hB,hr⟩⟩ (args:=[.ext A n c l,.agg [.nums 12 x,.nm (.bl false)]]) (q:=[true,false]) (v:=(.tup [.agg [.nums 12 (pnW (jl x l.length l (64*l.length))),.nm (.bl (pnB (jl x l.length l (64*l.length))))],.num .i64 0])) (obs:=[onB K1 (K1.F.int 4) (ptv K1 x false)=true,false=false,DS [(A,n,l,B)] A n l,n<=10000,false=false]) 1 (by kernel_rfl) (hp (hon) (hp (rfl) (hp (⟨B,by simp⟩) (hp (hn) (hp (rfl) trivial))))) (fun v hv=>by
   simp only[List.mem_cons,List.not_mem_nil,or_false] at hv
   rcases hv with rfl|rfl
   ·trivial
   ·exact⟨hx,trivial,trivial⟩) (by rw[mulA,(pn_ok hx hw hon).1,(pn_ok hx hw hon).2,if_pos hon]) (by simp only[List.map_cons,List.map_nil,p_den];rfl)
 ·exact fn_outS (N:=9) XF_ok GlobD.keep Tryz.func102 [(A,n,l,B)] (fun s hs=>by obtain rfl:=List.mem_singleton.1 hs;exact hw) ⟨hG,fun s hs=>by obtain rfl:=List.mem_singleton.1 hs;exact⟨hB,hr⟩⟩ (args:=[.ext A n c l,.agg [.nums 12 x,.nm (.bl true)]]) (q:=[true,true]) (v:=(.tup [.agg [.nums 12 (ptW K1 none),.nm (.bl true)],.num .i64 0])) (obs:=[onB K1 (K1.F.int 4) (ptv K1 x true)=true,true=true]) 1 (by kernel_rfl) (hp (rfl) (hp (rfl) trivial)) (okA2 trivial ⟨hx,trivial,trivial⟩) (mulA_none _ _) (by simp only[List.map_cons,List.map_nil,p_den];rfl))
theorem lBase:ConG Tryz.prog GlobD 13 [] Pre0 (o0 BP):=con0 (fun n=>⟨nm_BL,trivial,trivial⟩) (fun gs=>rfl) (fun w hG=>
 fn_outS (N:=9) XA_ok GlobD.keep Tryz.func13 [] (fun s hs=>by cases hs) (noSS hG) (args:=[]) (q:=[]) (v:=BP) (obs:=[]) 1 (by kernel_rfl) (trivial) (fun v hv=>by cases hv) rfl rfl)
end S12O
namespace S13O
open Go Go.RowKit Reg Base Limb Sx Fp Fp2 Ec Pts G2K S13R Ey
theorem pReduce:Con Tryz.prog GlobD 61 [12] (f1 fun x=>W 12 (wr K2 x)):=S7.lReduce
theorem pAdd:Con Tryz.prog GlobD 125 [12,12] (f2 fun x y=>W 12 (wa K2 x y)):=S7.lAdd
theorem pSub:Con Tryz.prog GlobD 63 [12,12] (f2 fun x y=>W 12 (ws K2 x y)):=by rw[show (f2 fun x y=>W 12 (ws K2 x y))=f2 fun x y=>W 12 (F2 (gs (v2 x) (v2 y))) from congrArg f2 (funext fun x=>funext fun y=>congrArg (W 12) (congrArg F2 (fsub _ _)))];exact S7.lSub
theorem pNeg:Con Tryz.prog GlobD 62 [12] (f1 fun x=>W 12 (wn K2 x)):=by rw[show (f1 fun x=>W 12 (wn K2 x))=f1 fun x=>W 12 (F2 (gn (v2 x))) from congrArg f1 (funext fun x=>congrArg (W 12) (congrArg F2 ((fsub _ _).trans (by show ((0:Int)-(v2 x).1,(0:Int)-(v2 x).2)=(-(v2 x).1,-(v2 x).2);rw[Int.zero_sub,Int.zero_sub]))))];exact S7.lNeg
theorem pMul:Con Tryz.prog GlobD 64 [12,12] (f2 fun x y=>W 12 (wm K2 x y)):=S7.lMul
theorem pInv:Con Tryz.prog GlobD 69 [12] (f1 fun x=>W 12 (wi K2 x)):=S7.lInv
def L0:List (Fact Tryz.prog GlobD):=pReduce.fact (.con Tryz.func61 rfl (by decide) pReduce) ::
 pAdd.fact (.con Tryz.func125 rfl (by decide) pAdd) ::
 pSub.fact (.con Tryz.func63 rfl (by decide) pSub) ::
 pNeg.fact (.con Tryz.func62 rfl (by decide) pNeg) ::
 pMul.fact (.con Tryz.func64 rfl (by decide) pMul) ::
 pInv.fact (.con Tryz.func69 rfl (by decide) pInv) ::
 []
def X0:Cx:=.of [] (tb L0)
theorem X0_ok:CxOk Tryz.prog X0 GlobD:=cx_ok L0 trivial (by kernel_rfl)
def L1:List (Fact Tryz.prog GlobD):=⟨139,entI 139 X0 9,.inline X0_ok GlobD.keep Tryz.func139 rfl (by decide)⟩ ::
 ⟨178,entI 178 X0 9,.inline X0_ok GlobD.keep Tryz.func178 rfl (by decide)⟩ ::
 L0
def X1:Cx:=.of [] (tb L1)
theorem X1_ok:CxOk Tryz.prog X1 GlobD:=cx_ok L1 trivial (by kernel_rfl)
def L2:List (Fact Tryz.prog GlobD):=⟨177,entI 177 X1 9,.inline X1_ok GlobD.keep Tryz.func177 rfl (by decide)⟩ ::
 L1
def X2:Cx:=.of [] (tb L2)
theorem X2_ok:CxOk Tryz.prog X2 GlobD:=cx_ok L2 trivial (by kernel_rfl)
def L3:List (Fact Tryz.prog GlobD):=⟨165,entI 165 X2 9,.inline X2_ok GlobD.keep Tryz.func165 rfl (by decide)⟩ ::
 ⟨166,entI 166 X2 9,.inline X2_ok GlobD.keep Tryz.func166 rfl (by decide)⟩ ::
 ⟨164,entI 164 X2 9,.inline X2_ok GlobD.keep Tryz.func164 rfl (by decide)⟩ ::
 L2
def XA:Cx:=((Cx.of [(26,12)] (tb L3)).eqs [(37,24)]).more []
theorem XA_ok:CxOk Tryz.prog XA GlobD:=((cx_ok (E:=[(26,12)]) L3 ⟨⟨G2K.eqF,G2K.gdF⟩,trivial⟩ (by kernel_rfl)).eqs (EM:=[(37,24)]) ⟨⟨eqG,gdG⟩,trivial⟩).more (T2:=[]) trivial
theorem lReduce:ConG Tryz.prog GlobD 144 [.p 24] Pre0 (o1 fun x b=>PA (ptv K2 x b)):=con1 (fun x b n=>pa_ok _ _) (fun x b gs=>by rw[pa_den,pa_den]) (fun x hx b w hG=>by
 cases b
 ·exact fn_outS (N:=9) XA_ok GlobD.keep Tryz.func144 [] (fun s hs=>by cases hs) (noSS hG) (args:=[.agg [.nums 24 x,.nm (.bl false)]]) (q:=[false]) (v:=(.agg [.nums 24 (wr K2 (seg 0 12 x)++wr K2 (seg 12 12 x)),.nm (.bl false)])) (obs:=[false=false]) 1 (by kernel_rfl) (hp (rfl) trivial) (okA1 ⟨hx,trivial,trivial⟩) (by rw[ptv_f];rfl) (by simp only[List.map_cons,List.map_nil,p_den])
 ·exact fn_outS (N:=9) XA_ok GlobD.keep Tryz.func144 [] (fun s hs=>by cases hs) (noSS hG) (args:=[.agg [.nums 24 x,.nm (.bl true)]]) (q:=[true]) (v:=(PA none)) (obs:=[true=true]) 1 (by kernel_rfl) (hp (rfl) trivial) (okA1 ⟨hx,trivial,trivial⟩) (by rw[ptv_t]) (by simp only[List.map_cons,List.map_nil,p_den]))
theorem lNeg:ConG Tryz.prog GlobD 108 [.p 24] Pre0 (o1 fun x b=>PA (negP K2.F (ptv K2 x b))):=con1 (fun x b n=>pa_ok _ _) (fun x b gs=>by rw[pa_den,pa_den]) (fun x hx b w hG=>by
 cases b
 ·exact fn_outS (N:=9) XA_ok GlobD.keep Tryz.func108 [] (fun s hs=>by cases hs) (noSS hG) (args:=[.agg [.nums 24 x,.nm (.bl false)]]) (q:=[false]) (v:=(.agg [.nums 24 (wr K2 (seg 0 12 x)++wn K2 (seg 12 12 x)),.nm (.bl false)])) (obs:=[false=false]) 1 (by kernel_rfl) (hp (rfl) trivial) (okA1 ⟨hx,trivial,trivial⟩) (by rw[ptv_f];rfl) (by simp only[List.map_cons,List.map_nil,p_den])
 ·exact fn_outS (N:=9) XA_ok GlobD.keep Tryz.func108 [] (fun s hs=>by cases hs) (noSS hG) (args:=[.agg [.nums 24 x,.nm (.bl true)]]) (q:=[true]) (v:=(PA none)) (obs:=[true=true]) 1 (by kernel_rfl) (hp (rfl) trivial) (okA1 ⟨hx,trivial,trivial⟩) (by rw[ptv_t];rfl) (by simp only[List.map_cons,List.map_nil,p_den]))
theorem lOn:ConG Tryz.prog GlobD 110 [.p 24] Pre0 (o1 fun x b=>.bl (onB K2 bb (ptv K2 x b))):=con1 (fun x b n=>trivial) (fun x b gs=>rfl) (fun x hx b w hG=>by
 cases b
 ·have ho:=on_wc (K:=K2) (hb:=hb) (seg 0 12 x) (seg 12 12 x)
  by_cases h:wm K2 (seg 12 12 x) (seg 12 12 x)=wa K2 (wm K2 (wm K2 (seg 0 12 x) (seg 0 12 x)) (seg 0 12 x)) cb
  ·exact fn_outS (N:=9) XA_ok GlobD.keep Tryz.func110 [] (fun s hs=>by cases hs) (noSS hG) (args:=[.agg [.nums 24 x,.nm (.bl false)]]) (q:=[false,true]) (v:=(.bl true)) (obs:=[false=false,qb true (wm K2 (seg 12 12 x) (seg 12 12 x)=wa K2 (wm K2 (wm K2 (seg 0 12 x) (seg 0 12 x)) (seg 0 12 x)) cb)]) 1 (by kernel_rfl) (hp (rfl) (hp (h) trivial)) (okA1 ⟨hx,trivial,trivial⟩) (by rw[ptv_f];exact congrArg Value.bool (ho.1 h).symm) (by simp only[List.map_cons,List.map_nil,p_den])
  ·exact fn_outS (N:=9) XA_ok GlobD.keep Tryz.func110 [] (fun s hs=>by cases hs) (noSS hG) (args:=[.agg [.nums 24 x,.nm (.bl false)]]) (q:=[false,false]) (v:=(.bl false)) (obs:=[false=false,qb false (wm K2 (seg 12 12 x) (seg 12 12 x)=wa K2 (wm K2 (wm K2 (seg 0 12 x) (seg 0 12 x)) (seg 0 12 x)) cb)]) 1 (by kernel_rfl) (hp (rfl) (hp (h) trivial)) (okA1 ⟨hx,trivial,trivial⟩) (by rw[ptv_f];exact congrArg Value.bool (Bool.eq_false_iff.2 (fun e=>h (ho.2 e))).symm) (by simp only[List.map_cons,List.map_nil,p_den])
 ·exact fn_outS (N:=9) XA_ok GlobD.keep Tryz.func110 [] (fun s hs=>by cases hs) (noSS hG) (args:=[.agg [.nums 24 x,.nm (.bl true)]]) (q:=[true]) (v:=(.bl true)) (obs:=[true=true]) 1 (by kernel_rfl) (hp (rfl) trivial) (okA1 ⟨hx,trivial,trivial⟩) (by rw[ptv_t];rfl) (by simp only[List.map_cons,List.map_nil,p_den]))
def T2:List (FuncId×Ent2):=[(144,entG [.p 24] Pre0 (o1 fun x b=>PA (ptv K2 x b))),(108,entG [.p 24] Pre0 (o1 fun x b=>PA (negP K2.F (ptv K2 x b)))),(110,entG [.p 24] Pre0 (o1 fun x b=>.bl (onB K2 bb (ptv K2 x b))))]
theorem T2_ok:TOk2 Tryz.prog GlobD T2:=⟨.conG Tryz.func144 rfl (by decide) lReduce,.conG Tryz.func108 rfl (by decide) lNeg,.conG Tryz.func110 rfl (by decide) lOn,trivial⟩
def XB:Cx:=((Cx.of [(26,12)] (tb L3)).eqs [(37,24)]).more T2
theorem XB_ok:CxOk Tryz.prog XB GlobD:=((cx_ok (E:=[(26,12)]) L3 ⟨⟨G2K.eqF,G2K.gdF⟩,trivial⟩ (by kernel_rfl)).eqs (EM:=[(37,24)]) ⟨⟨eqG,gdG⟩,trivial⟩).more T2_ok
theorem nb_ {x l:List Int}:¬(ptW K2 (ptv K2 x false)=l/\ptB (ptv K2 x false)=true):=fun h=>Bool.false_ne_true h.2
theorem tb_ (x:List Int):ptW K2 (ptv K2 x true)=[0,0,0,0,0,0,0,0,0,0,0,0,0,0,0,0,0,0,0,0,0,0,0,0]/\ptB (ptv K2 x true)=true:=by
 rw[ptv_t]
 exact⟨rfl,rfl⟩
theorem pteq {x y:List Int}:(ptW K2 (ptv K2 x false)=ptW K2 (ptv K2 y false)/\ptB (ptv K2 x false)=ptB (ptv K2 y false))↔wr K2 (seg 0 12 x)=wr K2 (seg 0 12 y)/\wr K2 (seg 12 12 x)=wr K2 (seg 12 12 y):=by
 constructor
 ·rintro⟨h,_⟩
  rw[<-rx,<-rx,<-ry,<-ry,h]
  exact⟨rfl,rfl⟩
 ·rintro⟨h,k⟩
  rw[ptv_f,ptv_f]
  refine⟨?_,rfl⟩
  show wr K2 (seg 0 12 x)++wr K2 (seg 12 12 x)=wr K2 (seg 0 12 y)++wr K2 (seg 12 12 y)
  rw[h,k]
theorem xsw_r (l p q:List Int):xsw K2 l (wr K2 p) (wr K2 q)=xsw K2 l p q:=by simp only[xsw,ws,wr,sub_r]
theorem ysw_r (l p q x:List Int):ysw K2 l (wr K2 p) (wr K2 q) x=ysw K2 l p q x:=by simp only[ysw,ws,wm,wr,sub_l,sub_r]
theorem lAdd:ConG Tryz.prog GlobD 142 [.p 24,.p 24] Pre0 (o2 fun x b y c=>PA (addP K2.F (ptv K2 x b) (ptv K2 y c))):=con2 (fun x b y c n=>pa_ok _ _) (fun x b y c gs=>by rw[pa_den,pa_den]) (fun x hx b y hy c w hG=>by
 cases b
 ·cases c
  ·by_cases e1:wr K2 (seg 0 12 x)=wr K2 (seg 0 12 y)
   ·by_cases e2:wr K2 (seg 12 12 x)=wr K2 (seg 12 12 y)
    ·by_cases e3:wr K2 (seg 12 12 x)=c0
     ·exact fn_outS (N:=9) XB_ok GlobD.keep Tryz.func142 [] (fun s hs=>by cases hs) (noSS hG) (args:=[.agg [.nums 24 x,.nm (.bl false)],.agg [.nums 24 y,.nm (.bl false)]]) (q:=[false,false,true,true,true]) (v:=(PA none)) (obs:=[qb false (ptW K2 (ptv K2 x false)=[0,0,0,0,0,0,0,0,0,0,0,0,0,0,0,0,0,0,0,0,0,0,0,0]/\ptB (ptv K2 x false)=true),qb false (ptW K2 (ptv K2 y false)=[0,0,0,0,0,0,0,0,0,0,0,0,0,0,0,0,0,0,0,0,0,0,0,0]/\ptB (ptv K2 y false)=true),qb true (ptW K2 (ptv K2 x false)=ptW K2 (ptv K2 y false)/\ptB (ptv K2 x false)=ptB (ptv K2 y false)),qb true ((seg 12 12 (ptW K2 (ptv K2 x false)))=[0,0,0,0,0,0,0,0,0,0,0,0]),qb true ((seg 0 12 (ptW K2 (ptv K2 x false)))=(seg 0 12 (ptW K2 (ptv K2 y false))))]) 1 (by kernel_rfl) (hp (nb_) (hp (nb_) (hp (pteq.2 ⟨e1,e2⟩) (hp ((by rw[ry];exact e3)) (hp ((by rw[rx,rx];exact e1)) trivial))))) (okA2 ⟨hx,trivial,trivial⟩ ⟨hy,trivial,trivial⟩) (by rw[add_no K2 h0 (show (slF K2 c0 c2 c3 x y).2=false by rw[show slF K2 c0 c2 c3 x y=(List.replicate 12 0,false) from (if_pos e1).trans (if_neg fun h=>h.2 e3)])]) (by simp only[List.map_cons,List.map_nil,p_den])
     ·exact fn_outS (N:=9) XB_ok GlobD.keep Tryz.func142 [] (fun s hs=>by cases hs) (noSS hG) (args:=[.agg [.nums 24 x,.nm (.bl false)],.agg [.nums 24 y,.nm (.bl false)]]) (q:=[false,false,true,false]) (v:=(.agg [.nums 24 (xsw K2 (slTl K2 (seg 0 12 (ptW K2 (ptv K2 x false))) (seg 12 12 (ptW K2 (ptv K2 x false)))) (seg 0 12 (ptW K2 (ptv K2 x false))) (seg 0 12 (ptW K2 (ptv K2 y false)))++ysw K2 (slTl K2 (seg 0 12 (ptW K2 (ptv K2 x false))) (seg 12 12 (ptW K2 (ptv K2 x false)))) (seg 0 12 (ptW K2 (ptv K2 x false))) (seg 12 12 (ptW K2 (ptv K2 x false))) (xsw K2 (slTl K2 (seg 0 12 (ptW K2 (ptv K2 x false))) (seg 12 12 (ptW K2 (ptv K2 x false)))) (seg 0 12 (ptW K2 (ptv K2 x false))) (seg 0 12 (ptW K2 (ptv K2 y false))))),.nm (.bl false)])) (obs:=[qb false (ptW K2 (ptv K2 x false)=[0,0,0,0,0,0,0,0,0,0,0,0,0,0,0,0,0,0,0,0,0,0,0,0]/\ptB (ptv K2 x false)=true),qb false (ptW K2 (ptv K2 y false)=[0,0,0,0,0,0,0,0,0,0,0,0,0,0,0,0,0,0,0,0,0,0,0,0]/\ptB (ptv K2 y false)=true),qb true (ptW K2 (ptv K2 x false)=ptW K2 (ptv K2 y false)/\ptB (ptv K2 x false)=ptB (ptv K2 y false)),qb false ((seg 12 12 (ptW K2 (ptv K2 x false)))=[0,0,0,0,0,0,0,0,0,0,0,0])]) 1 (by kernel_rfl) (hp (nb_) (hp (nb_) (hp (pteq.2 ⟨e1,e2⟩) (hp ((by rw[ry];exact e3)) trivial)))) (fun v hv=>by
   simp only[List.mem_cons,List.not_mem_nil,or_false] at hv
   rcases hv with rfl|rfl
   ·exact⟨hx,trivial,trivial⟩
   ·exact⟨hy,trivial,trivial⟩) (by
    have hs:slF K2 c0 c2 c3 x y=(slTw K2 c2 c3 (wr K2 (seg 0 12 x)) (wr K2 (seg 12 12 x)),true):=(if_pos e1).trans (if_pos ⟨e2,e3⟩)
    obtain⟨k1,k2⟩:=add_yes K2 h2 h3 h0 (x:=x) (y:=y) (by rw[hs])
    rw[hs] at k1
    rw[pa_den,<-k1,k2,rx,ry,rx,slTl_ok K2 h2 h3,xsw_r,ysw_r]
    exact p_den) (by simp only[List.map_cons,List.map_nil,p_den])
    ·exact fn_outS (N:=9) XB_ok GlobD.keep Tryz.func142 [] (fun s hs=>by cases hs) (noSS hG) (args:=[.agg [.nums 24 x,.nm (.bl false)],.agg [.nums 24 y,.nm (.bl false)]]) (q:=[false,false,false,true]) (v:=(PA none)) (obs:=[qb false (ptW K2 (ptv K2 x false)=[0,0,0,0,0,0,0,0,0,0,0,0,0,0,0,0,0,0,0,0,0,0,0,0]/\ptB (ptv K2 x false)=true),qb false (ptW K2 (ptv K2 y false)=[0,0,0,0,0,0,0,0,0,0,0,0,0,0,0,0,0,0,0,0,0,0,0,0]/\ptB (ptv K2 y false)=true),qb false (ptW K2 (ptv K2 x false)=ptW K2 (ptv K2 y false)/\ptB (ptv K2 x false)=ptB (ptv K2 y false)),qb true ((seg 0 12 (ptW K2 (ptv K2 x false)))=(seg 0 12 (ptW K2 (ptv K2 y false))))]) 1 (by kernel_rfl) (hp (nb_) (hp (nb_) (hp (fun h=>e2 (pteq.1 h).2) (hp ((by rw[rx,rx];exact e1)) trivial)))) (okA2 ⟨hx,trivial,trivial⟩ ⟨hy,trivial,trivial⟩) (by rw[add_no K2 h0 (show (slF K2 c0 c2 c3 x y).2=false by rw[show slF K2 c0 c2 c3 x y=(List.replicate 12 0,false) from (if_pos e1).trans (if_neg fun h=>e2 h.1)])]) (by simp only[List.map_cons,List.map_nil,p_den])
   ·exact fn_outS (N:=9) XB_ok GlobD.keep Tryz.func142 [] (fun s hs=>by cases hs) (noSS hG) (args:=[.agg [.nums 24 x,.nm (.bl false)],.agg [.nums 24 y,.nm (.bl false)]]) (q:=[false,false,false,false]) (v:=(.agg [.nums 24 (xsw K2 (slCw K2 (seg 0 12 (ptW K2 (ptv K2 x false))) (seg 12 12 (ptW K2 (ptv K2 x false))) (seg 0 12 (ptW K2 (ptv K2 y false))) (seg 12 12 (ptW K2 (ptv K2 y false)))) (seg 0 12 (ptW K2 (ptv K2 x false))) (seg 0 12 (ptW K2 (ptv K2 y false)))++ysw K2 (slCw K2 (seg 0 12 (ptW K2 (ptv K2 x false))) (seg 12 12 (ptW K2 (ptv K2 x false))) (seg 0 12 (ptW K2 (ptv K2 y false))) (seg 12 12 (ptW K2 (ptv K2 y false)))) (seg 0 12 (ptW K2 (ptv K2 x false))) (seg 12 12 (ptW K2 (ptv K2 x false))) (xsw K2 (slCw K2 (seg 0 12 (ptW K2 (ptv K2 x false))) (seg 12 12 (ptW K2 (ptv K2 x false))) (seg 0 12 (ptW K2 (ptv K2 y false))) (seg 12 12 (ptW K2 (ptv K2 y false)))) (seg 0 12 (ptW K2 (ptv K2 x false))) (seg 0 12 (ptW K2 (ptv K2 y false))))),.nm (.bl false)])) (obs:=[qb false (ptW K2 (ptv K2 x false)=[0,0,0,0,0,0,0,0,0,0,0,0,0,0,0,0,0,0,0,0,0,0,0,0]/\ptB (ptv K2 x false)=true),qb false (ptW K2 (ptv K2 y false)=[0,0,0,0,0,0,0,0,0,0,0,0,0,0,0,0,0,0,0,0,0,0,0,0]/\ptB (ptv K2 y false)=true),qb false (ptW K2 (ptv K2 x false)=ptW K2 (ptv K2 y false)/\ptB (ptv K2 x false)=ptB (ptv K2 y false)),qb false ((seg 0 12 (ptW K2 (ptv K2 x false)))=(seg 0 12 (ptW K2 (ptv K2 y false))))]) 1 (by kernel_rfl) (hp (nb_) (hp (nb_) (hp (fun h=>e1 (pteq.1 h).1) (hp ((by rw[rx,rx];exact e1)) trivial)))) (fun v hv=>by
   simp only[List.mem_cons,List.not_mem_nil,or_false] at hv
   rcases hv with rfl|rfl
   ·exact⟨hx,trivial,trivial⟩
   ·exact⟨hy,trivial,trivial⟩) (by
    have hs:slF K2 c0 c2 c3 x y=(slCw K2 (wr K2 (seg 0 12 x)) (wr K2 (seg 12 12 x)) (wr K2 (seg 0 12 y)) (wr K2 (seg 12 12 y)),true):=if_neg e1
    obtain⟨k1,k2⟩:=add_yes K2 h2 h3 h0 (x:=x) (y:=y) (by rw[hs])
    rw[hs] at k1
    rw[pa_den,<-k1,k2,rx,ry,rx,ry,xsw_r,ysw_r]
    exact p_den) (by simp only[List.map_cons,List.map_nil,p_den])
  ·exact fn_outS (N:=9) XB_ok GlobD.keep Tryz.func142 [] (fun s hs=>by cases hs) (noSS hG) (args:=[.agg [.nums 24 x,.nm (.bl false)],.agg [.nums 24 y,.nm (.bl true)]]) (q:=[false,true]) (v:=(PA (ptv K2 x false))) (obs:=[qb false (ptW K2 (ptv K2 x false)=[0,0,0,0,0,0,0,0,0,0,0,0,0,0,0,0,0,0,0,0,0,0,0,0]/\ptB (ptv K2 x false)=true),qb true (ptW K2 (ptv K2 y true)=[0,0,0,0,0,0,0,0,0,0,0,0,0,0,0,0,0,0,0,0,0,0,0,0]/\ptB (ptv K2 y true)=true)]) 1 (by kernel_rfl) (hp (nb_) (hp (tb_ _) trivial)) (okA2 ⟨hx,trivial,trivial⟩ ⟨hy,trivial,trivial⟩) (by rw[ptv_t,ptv_f];rfl) (by simp only[List.map_cons,List.map_nil,p_den])
 ·exact fn_outS (N:=9) XB_ok GlobD.keep Tryz.func142 [] (fun s hs=>by cases hs) (noSS hG) (args:=[.agg [.nums 24 x,.nm (.bl true)],.agg [.nums 24 y,.nm (.bl c)]]) (q:=[true]) (v:=(PA (ptv K2 y c))) (obs:=[qb true (ptW K2 (ptv K2 x true)=[0,0,0,0,0,0,0,0,0,0,0,0,0,0,0,0,0,0,0,0,0,0,0,0]/\ptB (ptv K2 x true)=true)]) 1 (by kernel_rfl) (hp (tb_ _) trivial) (fun v hv=>by
   simp only[List.mem_cons,List.not_mem_nil,or_false] at hv
   rcases hv with rfl|rfl
   ·exact⟨hx,trivial,trivial⟩
   ·exact⟨hy,trivial,trivial⟩) (by rw[ptv_t];rfl) (by simp only[List.map_cons,List.map_nil,p_den]))
def ow1 (f:List Int->AV):List AA->AV
 |[.w l]=>f l
 |_=>.unk
theorem conw {P:Program}{G:World->Prop}{F:FuncId}{f:List Int->AV}(h0:∀l,Nm 36 l->∀n,(f l).Ok n)(h1:∀l gs,(f l).den gs=(f l).den [])(h:∀l,Nm 36 l->∀w,G w->Calls P F #[.agg (vals .u64 l)] w fun e w'=>e=.returned ((f l).den [])/\RowKit.Below w.heap.size w w'):ConG P G F [.w 36] Pre0 (ow1 f):=by
 intro l hl _
 match l,hl with
 |[.w x],⟨hx,_⟩=>
  refine⟨h0 x hx,h1 x,fun w hG vs hv=>?_⟩
  match vs,hv with
  |[v],⟨hv,_⟩=>
   obtain rfl:=hv
   exact h x hx w hG
theorem lIs:ConG Tryz.prog GlobD 163 [.w 36] Pre0 (ow1 fun l=>.bl (decide (seg 24 12 l=c0))):=conw (fun _ _ _=>trivial) (fun _ _=>rfl) (fun l hl w hG=>by
 by_cases e:seg 24 12 l=c0
 ·exact fn_outS (N:=9) XA_ok GlobD.keep Tryz.func163 [] (fun s hs=>by cases hs) (noSS hG) (args:=[.agg [.nums 36 l]]) (q:=[true]) (v:=(.bl true)) (obs:=[qb true (seg 24 12 l=[0,0,0,0,0,0,0,0,0,0,0,0])]) 1 (by kernel_rfl) (hp (e) trivial) (okA1 ⟨hl,trivial⟩) (by rw[decide_eq_true e]) (by simp only[List.map_cons,List.map_nil,l_den])
 ·exact fn_outS (N:=9) XA_ok GlobD.keep Tryz.func163 [] (fun s hs=>by cases hs) (noSS hG) (args:=[.agg [.nums 36 l]]) (q:=[false]) (v:=(.bl false)) (obs:=[qb false (seg 24 12 l=[0,0,0,0,0,0,0,0,0,0,0,0])]) 1 (by kernel_rfl) (hp (e) trivial) (okA1 ⟨hl,trivial⟩) (by rw[decide_eq_false e]) (by simp only[List.map_cons,List.map_nil,l_den]))
def T3:List (FuncId×Ent2):=[(163,entG [.w 36] Pre0 (ow1 fun l=>.bl (decide (seg 24 12 l=c0))))]
theorem T3_ok:TOk2 Tryz.prog GlobD T3:=⟨.conG Tryz.func163 rfl (by decide) lIs,trivial⟩
def XC:Cx:=((Cx.of [(26,12)] (tb L3)).eqs [(37,24)]).more T3
theorem XC_ok:CxOk Tryz.prog XC GlobD:=((cx_ok (E:=[(26,12)]) L3 ⟨⟨G2K.eqF,G2K.gdF⟩,trivial⟩ (by kernel_rfl)).eqs (EM:=[(37,24)]) ⟨⟨eqG,gdG⟩,trivial⟩).more T3_ok
theorem nm_dbF {l:List Int}(h:Nm 36 l):Nm 36 (dbF K2 c0 l):=by
 unfold dbF
 split
 ·exact h
 ·exact nm_dbR K2 _ _ _
theorem nm_psF {l q:List Int}(h:Nm 36 l)(hq:Nm 24 q):Nm 36 (psF K2 c0 c1 l q):=by
 unfold psF
 split
 ·rw[show seg 0 K2.n q++seg K2.n K2.n q=q from (seg_all (n:=12) (m:=12) hq.len).symm]
  exact hq.app nm_c1
 ·split
  ·exact nm_dbF h
  ·exact nm_psR K2 _ _ _ _ _
theorem lDb:ConG Tryz.prog GlobD 161 [.w 36] Pre0 (ow1 fun l=>.agg [.nums 36 (dbF K2 c0 l)]):=conw (fun l h n=>⟨nm_dbF h,trivial⟩) (fun _ _=>rfl) (fun l hl w hG=>by
 by_cases e:seg 24 12 l=c0
 ·exact fn_outS (N:=9) XC_ok GlobD.keep Tryz.func161 [] (fun s hs=>by cases hs) (noSS hG) (args:=[.agg [.nums 36 l]]) (q:=[true]) (v:=(.agg [.nums 36 (l)])) (obs:=[decide (seg 24 12 l=c0)=true]) 1 (by kernel_rfl) (hp (decide_eq_true e) trivial) (okA1 ⟨hl,trivial⟩) (by rw[show dbF K2 c0 l=l from if_pos e]) (by simp only[List.map_cons,List.map_nil,l_den])
 ·exact fn_outS (N:=9) XC_ok GlobD.keep Tryz.func161 [] (fun s hs=>by cases hs) (noSS hG) (args:=[.agg [.nums 36 l]]) (q:=[false]) (v:=(.agg [.nums 36 (dbR K2 (seg 0 12 l) (seg 12 12 l) (seg 24 12 l))])) (obs:=[decide (seg 24 12 l=c0)=false]) 1 (by kernel_rfl) (hp (decide_eq_false e) trivial) (okA1 ⟨hl,trivial⟩) (by rw[show dbF K2 c0 l=dbR K2 (seg 0 12 l) (seg 12 12 l) (seg 24 12 l) from if_neg e]) (by simp only[List.map_cons,List.map_nil,l_den]))
def T4:List (FuncId×Ent2):=[(161,entG [.w 36] Pre0 (ow1 fun l=>.agg [.nums 36 (dbF K2 c0 l)])),(163,entG [.w 36] Pre0 (ow1 fun l=>.bl (decide (seg 24 12 l=c0))))]
theorem T4_ok:TOk2 Tryz.prog GlobD T4:=⟨.conG Tryz.func161 rfl (by decide) lDb,.conG Tryz.func163 rfl (by decide) lIs,trivial⟩
def XD:Cx:=((Cx.of [(26,12)] (tb L3)).eqs [(37,24)]).more T4
theorem XD_ok:CxOk Tryz.prog XD GlobD:=((cx_ok (E:=[(26,12)]) L3 ⟨⟨G2K.eqF,G2K.gdF⟩,trivial⟩ (by kernel_rfl)).eqs (EM:=[(37,24)]) ⟨⟨eqG,gdG⟩,trivial⟩).more T4_ok
theorem conwq {P:Program}{G:World->Prop}{F:FuncId}{f:List Int->List Int->AV}(h0:∀l,Nm 36 l->∀q,Nm 24 q->∀n,(f l q).Ok n)(h1:∀l q gs,(f l q).den gs=(f l q).den [])(h:∀l,Nm 36 l->∀q,Nm 24 q->∀w,G w->Calls P F #[.agg (vals .u64 l),.agg (vals .u64 q ++ #[.bool false])] w fun e w'=>e=.returned ((f l q).den [])/\RowKit.Below w.heap.size w w'):ConG P G F [.w 36,.p 24] PreF1 (owp f):=by
 intro l hl hp
 match l,hl,hp with
 |[.w x,.p q c],⟨hx,hy,_⟩,hp=>
  obtain⟨rfl,_⟩:=hp
  refine⟨h0 x hx q hy,h1 x q,fun w hG vs hv=>?_⟩
  match vs,hv with
  |[v,u],⟨hv,hu,_⟩=>
   obtain rfl:=hv
   obtain rfl:=hu
   exact h x hx q hy w hG
theorem lPs:ConG Tryz.prog GlobD 162 [.w 36,.p 24] PreF1 (owp fun l q=>.agg [.nums 36 (psF K2 c0 c1 l q)]):=conwq (fun l h q hq n=>⟨nm_psF h hq,trivial⟩) (fun _ _ _=>rfl) (fun l hl q hq w hG=>by
 by_cases e1:seg 24 12 l=c0
 ·exact fn_outS (N:=9) XD_ok GlobD.keep Tryz.func162 [] (fun s hs=>by cases hs) (noSS hG) (args:=[.agg [.nums 36 l],.agg [.nums 24 q,.nm (.bl false)]]) (q:=[true]) (v:=(.agg [.nums 36 (seg 0 12 q++seg 12 12 q++[1]++[0,0,0,0,0]++[0,0,0,0,0,0])])) (obs:=[decide (seg 24 12 l=c0)=true]) 1 (by kernel_rfl) (hp (decide_eq_true e1) trivial) (okA2 ⟨hl,trivial⟩ ⟨hq,trivial,trivial⟩) (by rw[show psF K2 c0 c1 l q=seg 0 12 q++seg 12 12 q++c1 from if_pos e1,List.append_assoc _ [1],List.append_assoc _ ([1]++_)];rfl) (by simp only[List.map_cons,List.map_nil,p_den,l_den])
 ·by_cases e2:hW K2 (seg 0 12 l) (seg 24 12 l) (seg 0 12 q)=c0
  ·by_cases e3:rW K2 (seg 12 12 l) (seg 24 12 l) (seg 12 12 q)=c0
   ·exact fn_outS (N:=9) XD_ok GlobD.keep Tryz.func162 [] (fun s hs=>by cases hs) (noSS hG) (args:=[.agg [.nums 36 l],.agg [.nums 24 q,.nm (.bl false)]]) (q:=[false,true,true]) (v:=(.agg [.nums 36 (dbF K2 c0 l)])) (obs:=[decide (seg 24 12 l=c0)=false,qb true (hW K2 (seg 0 12 l) (seg 24 12 l) (seg 0 12 q)=[0,0,0,0,0,0,0,0,0,0,0,0]),qb true (rW K2 (seg 12 12 l) (seg 24 12 l) (seg 12 12 q)=[0,0,0,0,0,0,0,0,0,0,0,0])]) 1 (by kernel_rfl) (hp (decide_eq_false e1) (hp (e2) (hp (e3) trivial))) (fun v hv=>by
   simp only[List.mem_cons,List.not_mem_nil,or_false] at hv
   rcases hv with rfl|rfl
   ·exact⟨hl,trivial⟩
   ·exact⟨hq,trivial,trivial⟩) (by rw[show psF K2 c0 c1 l q=dbF K2 c0 l from (if_neg e1).trans (if_pos ⟨e2,e3⟩)]) (by simp only[List.map_cons,List.map_nil,p_den,l_den])
   ·exact fn_outS (N:=9) XD_ok GlobD.keep Tryz.func162 [] (fun s hs=>by cases hs) (noSS hG) (args:=[.agg [.nums 36 l],.agg [.nums 24 q,.nm (.bl false)]]) (q:=[false,true,false]) (v:=(.agg [.nums 36 (psR K2 (seg 0 12 l) (seg 12 12 l) (seg 24 12 l) (seg 0 12 q) (seg 12 12 q))])) (obs:=[decide (seg 24 12 l=c0)=false,qb true (hW K2 (seg 0 12 l) (seg 24 12 l) (seg 0 12 q)=[0,0,0,0,0,0,0,0,0,0,0,0]),qb false (rW K2 (seg 12 12 l) (seg 24 12 l) (seg 12 12 q)=[0,0,0,0,0,0,0,0,0,0,0,0])]) 1 (by kernel_rfl) (hp (decide_eq_false e1) (hp (e2) (hp (e3) trivial))) (okA2 ⟨hl,trivial⟩ ⟨hq,trivial,trivial⟩) (by rw[show psF K2 c0 c1 l q=psR K2 (seg 0 12 l) (seg 12 12 l) (seg 24 12 l) (seg 0 12 q) (seg 12 12 q) from (if_neg e1).trans (if_neg fun h=>e3 h.2)]) (by simp only[List.map_cons,List.map_nil,p_den,l_den])
  ·exact fn_outS (N:=9) XD_ok GlobD.keep Tryz.func162 [] (fun s hs=>by cases hs) (noSS hG) (args:=[.agg [.nums 36 l],.agg [.nums 24 q,.nm (.bl false)]]) (q:=[false,false]) (v:=(.agg [.nums 36 (psR K2 (seg 0 12 l) (seg 12 12 l) (seg 24 12 l) (seg 0 12 q) (seg 12 12 q))])) (obs:=[decide (seg 24 12 l=c0)=false,qb false (hW K2 (seg 0 12 l) (seg 24 12 l) (seg 0 12 q)=[0,0,0,0,0,0,0,0,0,0,0,0])]) 1 (by kernel_rfl) (hp (decide_eq_false e1) (hp (e2) trivial)) (fun v hv=>by
   simp only[List.mem_cons,List.not_mem_nil,or_false] at hv
   rcases hv with rfl|rfl
   ·exact⟨hl,trivial⟩
   ·exact⟨hq,trivial,trivial⟩) (by rw[show psF K2 c0 c1 l q=psR K2 (seg 0 12 l) (seg 12 12 l) (seg 24 12 l) (seg 0 12 q) (seg 12 12 q) from (if_neg e1).trans (if_neg fun h=>e2 h.1)]) (by simp only[List.map_cons,List.map_nil,p_den,l_den]))
def pnW (l:List Int):List Int:=if seg 24 12 l=c0 then List.replicate 24 0 else nmW K2 (seg 0 12 l) (seg 12 12 l) (seg 24 12 l)
def pnB (l:List Int):Bool:=decide (seg 24 12 l=c0)
theorem nm_pnW (l:List Int):Nm 24 (pnW l):=by
 unfold pnW
 split
 ·exact⟨rfl,words_zeros 24⟩
 ·exact (K2.wo_nm _).app (K2.wo_nm _)
def PN (l:List Int):AV:=.agg [.nums 24 (pnW l),.nm (.bl (pnB l))]
theorem pn_den (l:List Int)(gs:List Nat):(PN l).den gs=.agg (vals .u64 (pnW l) ++ #[.bool (pnB l)]):=by simp[PN,AV.den,den,Sg.den,NV.den,vals]
theorem lPt:ConG Tryz.prog GlobD 141 [.w 36] Pre0 (ow1 PN):=conw (fun l _ n=>⟨nm_pnW l,trivial,trivial⟩) (fun l gs=>by rw[pn_den,pn_den]) (fun l hl w hG=>by
 by_cases e:seg 24 12 l=c0
 ·exact fn_outS (N:=9) XC_ok GlobD.keep Tryz.func141 [] (fun s hs=>by cases hs) (noSS hG) (args:=[.agg [.nums 36 l]]) (q:=[true]) (v:=(PA none)) (obs:=[decide (seg 24 12 l=c0)=true]) 1 (by kernel_rfl) (hp (decide_eq_true e) trivial) (okA1 ⟨hl,trivial⟩) (by rw[pn_den,pa_den,pnW,pnB,if_pos e,decide_eq_true e];rfl) (by simp only[List.map_cons,List.map_nil,l_den])
 ·exact fn_outS (N:=9) XC_ok GlobD.keep Tryz.func141 [] (fun s hs=>by cases hs) (noSS hG) (args:=[.agg [.nums 36 l]]) (q:=[false]) (v:=(.agg [.nums 24 (nmW K2 (seg 0 12 l) (seg 12 12 l) (seg 24 12 l)),.nm (.bl false)])) (obs:=[decide (seg 24 12 l=c0)=false]) 1 (by kernel_rfl) (hp (decide_eq_false e) trivial) (okA1 ⟨hl,trivial⟩) (by rw[pn_den,pnW,pnB,if_neg e,decide_eq_false e];exact p_den) (by simp only[List.map_cons,List.map_nil,l_den]))
def T5o:List (FuncId×Ent2):=[(162,entG [.w 36,.p 24] PreF1 (owp fun l q=>.agg [.nums 36 (psF K2 c0 c1 l q)])),(161,entG [.w 36] Pre0 (ow1 fun l=>.agg [.nums 36 (dbF K2 c0 l)]))]
theorem T5o_ok:TOk2 Tryz.prog GlobD T5o:=⟨.conG Tryz.func162 rfl (by decide) lPs,.conG Tryz.func161 rfl (by decide) lDb,trivial⟩
def XE:Cx:=((Cx.of [(26,12)] (tb L3)).eqs [(37,24)]).more T5o
theorem XE_ok:CxOk Tryz.prog XE GlobD:=((cx_ok (E:=[(26,12)]) L3 ⟨⟨G2K.eqF,G2K.gdF⟩,trivial⟩ (by kernel_rfl)).eqs (EM:=[(37,24)]) ⟨⟨eqG,gdG⟩,trivial⟩).more T5o_ok
abbrev db_ (l:List Int):List Int:=dbF K2 c0 l
abbrev ps_ (x l:List Int):List Int:=psF K2 c0 c1 l x
section
variable (x o:List Int) (A:Option Addr) (n c:Nat) (l:List Int)
def b3:List Bk:=[(37,[.nums 24 x,.nm (.bl false)]),(126,[.nums 36 (List.replicate 36 (0:Int))]),(126,[.nums 36 o])]
def m1 (k:Nat):St:=⟨mkSl 34 [(0,.ext A n c l),(3,.ptr 0 0),(4,.ptr 1 0),(5,.ptr 2 0),(6,.num .i64 (64*(n:Int)-1-k))],b3 x o⟩
def m1e:St:=⟨mkSl 34 [(4,.ptr 1 0),(5,.ptr 2 0)],b3 x o⟩
end
abbrev XM (A:Option Addr)(n:Nat)(l:List Int)(H:List (Nat×Ev)):Cx:=XE.sym (DM A n l) H
theorem XM_ok {A:Option Addr}{n:Nat}{l:List Int}{B:Nat}(hw:Words l)(H:List (Nat×Ev)):CxB Tryz.prog (XM A n l H) (GM A n l B):=
 XE_ok.toCxB.sym (fun u h=>h.1.1) (fun A' n' l' h=>by
  obtain⟨rfl,rfl,rfl⟩:=h
  exact⟨hw,B,fun u hu=>⟨hu.1.2,hu.2⟩⟩) H
section
variable {x o o':List Int} {A:Option Addr} {n c:Nat} {l:List Int} {B S:Nat} {w:World}
theorem does (hw:Words l)(hG:∀u,RowKit.Below S w u->GM A n l B u)(c:Code):Does Tryz.prog S 0 w c (evalC Tryz.prog (XM A n l []) 0 9 c):=code_ok (XM_ok hw []) hG c (fun _ _ _ h=>by rw[hooked_nil] at h;cases h)
theorem rndf {k:Nat}(hk:k<64*n)(hn:n<=10000)(h2:qb false (wd_ n l k%2=1))(hrow:db_ o=o')(hw:Words l)(hG:∀u,RowKit.Below S w u->GM A n l B u):Goes Tryz.prog S 0 w (lpc Tryz.f140 0) (m1 x o A n c l k) .nrm (m1 x o' A n c l (k+1)):=by
 have hd:=wd_in (n:=n) hw k
 exact (does hw hG _).goes [false,false] (ps:=[A=A/\n=n/\c=c/\l=l,64*(n:Int)-1-k-1=64*(n:Int)-1-((k+1:Nat):Int),[Sg.nums 24 x,.nm (.bl false)]=[Sg.nums 24 x,.nm (.bl false)],(List.replicate 36 (0:Int))=(List.replicate 36 (0:Int)),db_ o=o',qb false (ji n k<0),0<=ji n k/\(0:Int)<64,IntKind.i64.wrap (ji n k/64)=ji n k/64,0<=ji n k/64/\ji n k/64<(n:Int),DM A n l A (n*1) l/\0<1,(ji n k/64).toNat*1<n*1,DM A n l A (n*1) l/\0<n*1,0<=ji n k/\(0:Int)<64,rng .i64 (ji n k%64),0<=ji n k%64/\ji n k%64<((64:Nat):Int),rng .u64 (wd_ n l k),0<=wd_ n l k/\(0:Int)<2,rng .u64 (wd_ n l k%2),qb false (wd_ n l k%2=1),IntKind.i64.wrap (64*(n:Int)-1-k-1)=64*(n:Int)-1-k-1]) (by kernel_rfl) (hp (⟨rfl,rfl,rfl,rfl⟩) (hp (by omega) (hp (rfl) (hp (rfl) (hp (hrow) (hp ((by simp only[ji];omega:¬ji n k<0)) (hp (by simp only[ji];omega) (hp (IntWalk.i64_in _ (by simp only[ji];omega)) (hp (by simp only[ji];omega) (hp (⟨⟨rfl,Nat.mul_one _,rfl⟩,by decide⟩) (hp (by simp only[ji];omega) (hp (⟨⟨rfl,Nat.mul_one _,rfl⟩,by omega⟩) (hp (by simp only[ji];omega) (hp (trivial) (hp (by simp only[ji];omega) (hp ((by omega:0<=wd_ n l k/\wd_ n l k<18446744073709551616)) (hp (by omega) (hp ((by omega:0<=wd_ n l k%2/\wd_ n l k%2<18446744073709551616)) (hp (h2) (hp (IntWalk.i64_in _ (by omega)) trivial)))))))))))))))))))) (by kernel_rfl)
theorem rndt {k:Nat}(hk:k<64*n)(hn:n<=10000)(h2:qb true (wd_ n l k%2=1))(hrow:ps_ x (db_ o)=o')(hw:Words l)(hG:∀u,RowKit.Below S w u->GM A n l B u):Goes Tryz.prog S 0 w (lpc Tryz.f140 0) (m1 x o A n c l k) .nrm (m1 x o' A n c l (k+1)):=by
 have hd:=wd_in (n:=n) hw k
 exact (does hw hG _).goes [false,true] (ps:=[A=A/\n=n/\c=c/\l=l,64*(n:Int)-1-k-1=64*(n:Int)-1-((k+1:Nat):Int),[Sg.nums 24 x,.nm (.bl false)]=[Sg.nums 24 x,.nm (.bl false)],(List.replicate 36 (0:Int))=(List.replicate 36 (0:Int)),ps_ x (db_ o)=o',qb false (ji n k<0),0<=ji n k/\(0:Int)<64,IntKind.i64.wrap (ji n k/64)=ji n k/64,0<=ji n k/64/\ji n k/64<(n:Int),DM A n l A (n*1) l/\0<1,(ji n k/64).toNat*1<n*1,DM A n l A (n*1) l/\0<n*1,0<=ji n k/\(0:Int)<64,rng .i64 (ji n k%64),0<=ji n k%64/\ji n k%64<((64:Nat):Int),rng .u64 (wd_ n l k),0<=wd_ n l k/\(0:Int)<2,rng .u64 (wd_ n l k%2),qb true (wd_ n l k%2=1),false=false,IntKind.i64.wrap (64*(n:Int)-1-k-1)=64*(n:Int)-1-k-1]) (by kernel_rfl) (hp (⟨rfl,rfl,rfl,rfl⟩) (hp (by omega) (hp (rfl) (hp (rfl) (hp (hrow) (hp ((by simp only[ji];omega:¬ji n k<0)) (hp (by simp only[ji];omega) (hp (IntWalk.i64_in _ (by simp only[ji];omega)) (hp (by simp only[ji];omega) (hp (⟨⟨rfl,Nat.mul_one _,rfl⟩,by decide⟩) (hp (by simp only[ji];omega) (hp (⟨⟨rfl,Nat.mul_one _,rfl⟩,by omega⟩) (hp (by simp only[ji];omega) (hp (trivial) (hp (by simp only[ji];omega) (hp ((by omega:0<=wd_ n l k/\wd_ n l k<18446744073709551616)) (hp (by omega) (hp ((by omega:0<=wd_ n l k%2/\wd_ n l k%2<18446744073709551616)) (hp (h2) (hp (rfl) (hp (IntWalk.i64_in _ (by omega)) trivial))))))))))))))))))))) (by kernel_rfl)
theorem end_ (hw:Words l)(hG:∀u,RowKit.Below S w u->GM A n l B u):Goes Tryz.prog S 0 w (lpc Tryz.f140 0) (m1 x o A n c l (64*n)) (.ext 0) (m1e x o):=
 (does hw hG _).goes [true] (ps:=[[Sg.nums 24 x,.nm (.bl false)]=[Sg.nums 24 x,.nm (.bl false)],(List.replicate 36 (0:Int))=(List.replicate 36 (0:Int)),o=o,qb true (ji n (64*n)<0)]) (by kernel_rfl) (hp (rfl) (hp (rfl) (hp (rfl) (hp ((by simp only[ji];omega:ji n (64*n)<0)) trivial)))) (by kernel_rfl)
def jl (x:List Int)(n:Nat)(l:List Int):Nat->List Int
 |0=>List.replicate 36 0
 |k+1=>if wd_ n l k%2=1 then ps_ x (db_ (jl x n l k)) else db_ (jl x n l k)
theorem loop (hn:n<=10000)(hw:Words l)(hG:∀u,RowKit.Below S w u->GM A n l B u):Goes Tryz.prog S 0 w (.block 0 (.loop (lpc Tryz.f140 0))) (m1 x (jl x n l 0) A n c l 0) .nrm (m1e x (jl x n l (64*n))):=by
 refine .loop (n:=64*n) (fun k=>m1 x (jl x n l k) A n c l k) (fun k hk=>?_) (end_ hw hG)
 by_cases hb:wd_ n l k%2=1
 ·exact rndt hk hn hb (by rw[jl,if_pos hb]) hw hG
 ·exact rndf hk hn hb (by rw[jl,if_neg hb]) hw hG
theorem nm_jl (hx:Nm 24 x):∀k,Nm 36 (jl x n l k)
 |0=>⟨rfl,words_zeros 36⟩
 |k+1=>by
  rw[jl]
  split
  ·exact nm_psF (nm_dbF (nm_jl hx k)) hx
  ·exact nm_dbF (nm_jl hx k)
theorem jl_ok (hx:Nm 24 x)(hw:Words l)(hl:l.length=n)(on:OnP K2.F bb (ptv K2 x false)):∀k,k<=64*n->∃C,Mult K2.F (ey n l k) (ptv K2 x false) C/\RepV K2 (jl x n l k) C
 |0,_=>⟨none,by rw[ey_0 hw hl];trivial,repV_none K2 h0 hz⟩
 |k+1,hk=>by
  obtain⟨C,hC,hR⟩:=jl_ok hx hw hl on k (by omega)
  obtain⟨D,hD,hE⟩:=rd_two K2 h0 four_ne on hC hR
  have hd:=wd_in (n:=n) hw k
  have hm:=ey_more (by omega:k<64*n) hw
  rw[jl]
  by_cases hb:wd_ n l k%2=1
  ·rw[if_pos hb]
   obtain⟨E,e1,e2⟩:=rd_one K2 h0 h1 hx on hD hE
   exact⟨E,by rw[hm,hb,show 2*ey n l k+(1:Int).toNat=ey n l k+ey n l k+1 by omega];exact e1,e2⟩
  ·rw[if_neg hb]
   exact⟨D,by rw[hm,show wd_ n l k%2=0 by omega,show 2*ey n l k+(0:Int).toNat=ey n l k+ey n l k by omega];exact hD,hE⟩
end
theorem blk0:blkc Tryz.f140 0=.loop (lpc Tryz.f140 0):=by kernel_rfl
abbrev PreSF:List AA->List Ob
 |[.sl _ _,.p _ b]=>[b=false]
 |_=>[]
def osp (f:List Int->List Int->AV):List AA->AV
 |[.sl _ l,.p x _]=>f l x
 |_=>.unk
theorem consp {P:Program}{G:World->Prop}{F:FuncId}{f:List Int->List Int->AV}(h0:∀l x,Nm 24 x->∀n,(f l x).Ok n)(h1:∀l x gs,(f l x).den gs=(f l x).den [])(h:∀x,Nm 24 x->∀A n c l B w,G w->Rd w B A n .u64 l->Words l->B<=w.heap.size->n<=10000->Calls P F #[.slice A n c,.agg (vals .u64 x ++ #[.bool false])] w fun e w'=>e=.returned ((f l x).den [])/\RowKit.Below w.heap.size w w'):ConG P G F [.sl,.p 24] PreSF (osp f):=by
 intro l hl hp
 match l,hl,hp with
 |[.sl n l,.p x b],⟨⟨hn,hl⟩,hx,_⟩,hp=>
  obtain⟨rfl,_⟩:=hp
  refine⟨h0 l x hx,h1 l x,fun w hG vs hv=>?_⟩
  match vs,hv with
  |[v,u],⟨⟨A,c,hv,B,hB,hr⟩,hu,_⟩=>
   obtain rfl:=hv
   obtain rfl:=hu
   exact h x hx A n c l B w hG hr hl.words hB hn
theorem times_ (x:List Int)(hx:Nm 24 x)(A:Option Addr)(n c:Nat)(l:List Int)(B:Nat)(w:World)(hG0:GlobD w)(hr:Rd w B A n .u64 l)(hw:Words l)(hB:B<=w.heap.size)(hn:n<=10000):Calls Tryz.prog 140 #[.slice A n c,.agg (vals .u64 x ++ #[.bool false])] w fun e w'=>e=.returned ((AV.agg [.nums 36 (jl x n l (64*n))]).den [])/\RowKit.Below w.heap.size w w':=by
 have hG:∀u,RowKit.Below w.heap.size w u->GM A n l B u:=fun u hu=>GM.keep ⟨⟨hG0,hB⟩,hr⟩ hu
 have hk:AllH Tryz.prog w.heap.size 0 w [(0,blkc Tryz.f140 0,hookEv (m1 x (jl x n l 0) A n c l 0) (m1e x (jl x n l (64*n))))]:=⟨by rw[blk0];exact (loop hn hw hG).does (by kernel_rfl),trivial⟩
 exact fn_outK (N:=9) (XM_ok (B:=B) hw [(0,hookEv (m1 x (jl x n l 0) A n c l 0) (m1e x (jl x n l (64*n))))]) (fn_hooks (by kernel_rfl) hk) Tryz.func140 hG (args:=[.ext A n c l,.agg [.nums 24 x,.nm (.bl false)]]) (q:=[]) (v:=.agg [.nums 36 (jl x n l (64*n))]) (obs:=[IntKind.i64.wrap ((n:Int)*64)=(n:Int)*64,IntKind.i64.wrap ((n:Int)*64-1)=(n:Int)*64-1,A=A/\n=n/\c=c/\l=l,(n:Int)*64-1=64*(n:Int)-1-((0:Nat):Int),[Sg.nums 24 x,.nm (.bl false)]=[Sg.nums 24 x,.nm (.bl false)],(List.replicate 36 (0:Int))=(List.replicate 36 (0:Int)),List.replicate 36 0=jl x n l 0]) 1 (by kernel_rfl) (hp (IntWalk.i64_in _ (by omega)) (hp (IntWalk.i64_in _ (by omega)) (hp (⟨rfl,rfl,rfl,rfl⟩) (hp (by omega) (hp (rfl) (hp (rfl) (hp (rfl) trivial))))))) (okA2 trivial ⟨hx,trivial,trivial⟩) rfl (by simp only[List.map_cons,List.map_nil,p_den];rfl)
theorem lTimes:ConG Tryz.prog GlobD 140 [.sl,.p 24] PreSF (osp (fun l x=>.agg [.nums 36 (jl x l.length l (64*l.length))])):=consp (fun l x hx n=>⟨nm_jl hx _,trivial⟩) (fun _ _ _=>rfl) (fun x hx A n c l B w hG0 hr hw hB hn=>by
 have h:=times_ x hx A n c l B w hG0 hr hw hB hn
 rw[<-hr.len] at h
 rw[<-hr.len]
 exact h)
def T6o:List (FuncId×Ent2):=[(140,entG [.sl,.p 24] PreSF (osp (fun l x=>.agg [.nums 36 (jl x l.length l (64*l.length))]))),(141,entG [.w 36] Pre0 (ow1 PN)),(110,entG [.p 24] Pre0 (o1 fun x b=>.bl (onB K2 bb (ptv K2 x b))))]
theorem T6o_ok:TOk2 Tryz.prog GlobD T6o:=⟨.conG Tryz.func140 rfl (by decide) lTimes,.conG Tryz.func141 rfl (by decide) lPt,.conG Tryz.func110 rfl (by decide) lOn,trivial⟩
def XF:Cx:=((Cx.of [(26,12)] (tb L3)).eqs [(37,24)]).more T6o
theorem XF_ok:CxOk Tryz.prog XF GlobD:=((cx_ok (E:=[(26,12)]) L3 ⟨⟨G2K.eqF,G2K.gdF⟩,trivial⟩ (by kernel_rfl)).eqs (EM:=[(37,24)]) ⟨⟨eqG,gdG⟩,trivial⟩).more T6o_ok
theorem pn_ok {x l:List Int}(hx:Nm 24 x)(hw:Words l)(hon:onB K2 bb (ptv K2 x false)=true):pnW (jl x l.length l (64*l.length))=ptW K2 (mulO K2 bb (num l).toNat (ptv K2 x false))/\pnB (jl x l.length l (64*l.length))=ptB (mulO K2 bb (num l).toNat (ptv K2 x false)):=by
 have on:=(onB_iff K2).1 hon
 obtain⟨C,hC,hR⟩:=jl_ok hx hw rfl on (64*l.length) (Nat.le_refl _)
 rw[ey_n] at hC
 rw[mulO,if_pos hon]
 by_cases e:seg 24 12 (jl x l.length l (64*l.length))=c0
 ·obtain⟨f1,f2⟩:=fn_z K2 h0 on hC hR e
  rw[pnW,pnB,if_pos e,decide_eq_true e,f1,f2]
  exact⟨rfl,rfl⟩
 ·obtain⟨f1,f2⟩:=fn_n K2 h0 on hC hR e
  rw[pnW,pnB,if_neg e,decide_eq_false e,f1,f2]
  exact⟨rfl,rfl⟩
theorem mulA_none (m:Nat)(x:List Int):(AV.tup [.agg [.nums 24 (ptW K2 none),.nm (.bl true)],.num .i64 0]).den []=(mulA m x true).den []:=by
 have f1:=out_eq K2 (mulP_none K2 m)
 rw[mulA,mulO,ptv_t,if_pos (by rfl),if_pos (by rfl),<-f1.1,<-f1.2]
 rfl
theorem lMul:ConG Tryz.prog GlobD 107 [.sl,.p 24] Pre0 (oM mulA):=conM mulA_ok (fun _ _ _ _=>rfl) (fun x hx b A n c l B w hG hr hw hB hn=>by
 cases b
 ·cases hon:onB K2 bb (ptv K2 x false)
  ·exact fn_outS (N:=9) XF_ok GlobD.keep Tryz.func107 [(A,n,l,B)] (fun s hs=>by obtain rfl:=List.mem_singleton.1 hs;exact hw) ⟨hG,fun s hs=>by obtain rfl:=List.mem_singleton.1 hs;exact⟨hB,hr⟩⟩ (args:=[.ext A n c l,.agg [.nums 24 x,.nm (.bl false)]]) (q:=[false]) (v:=(.tup [.agg [.nums 24 (List.replicate 24 0),.nm (.bl false)],.num .i64 120])) (obs:=[onB K2 bb (ptv K2 x false)=false]) 1 (by kernel_rfl) (hp (hon) trivial) (okA2 trivial ⟨hx,trivial,trivial⟩) (by rw[mulA,mulO,if_neg (by rw[hon];decide),if_neg (by rw[hon];decide),show ptW K2 (some (K2.F.int 0,K2.F.int 0))=List.replicate 24 0 by rw[ptW,h0];rfl];rfl) (by simp only[List.map_cons,List.map_nil,p_den];rfl)
  ·exact fn_outS (N:=9) XF_ok GlobD.keep Tryz.func107 [(A,n,l,B)] (fun s hs=>by obtain rfl:=List.mem_singleton.1 hs;exact hw) ⟨hG,fun s hs=>by obtain rfl:=List.mem_singleton.1 hs;exact⟨hB,hr⟩⟩ (args:=[.ext A n c l,.agg [.nums 24 x,.nm (.bl false)]]) (q:=[true,false]) (v:=(.tup [.agg [.nums 24 (pnW (jl x l.length l (64*l.length))),.nm (.bl (pnB (jl x l.length l (64*l.length))))],.num .i64 0])) (obs:=[onB K2 bb (ptv K2 x false)=true,false=false,DS [(A,n,l,B)] A n l,n<=10000,false=false]) 1 (by kernel_rfl) (hp (hon) (hp (rfl) (hp (⟨B,by simp⟩) (hp (hn) (hp (rfl) trivial))))) (fun v hv=>by
   simp only[List.mem_cons,List.not_mem_nil,or_false] at hv
   rcases hv with rfl|rfl
   ·trivial
   ·exact⟨hx,trivial,trivial⟩) (by rw[mulA,(pn_ok hx hw hon).1,(pn_ok hx hw hon).2,if_pos hon]) (by simp only[List.map_cons,List.map_nil,p_den];rfl)
 ·exact fn_outS (N:=9) XF_ok GlobD.keep Tryz.func107 [(A,n,l,B)] (fun s hs=>by obtain rfl:=List.mem_singleton.1 hs;exact hw) ⟨hG,fun s hs=>by obtain rfl:=List.mem_singleton.1 hs;exact⟨hB,hr⟩⟩ (args:=[.ext A n c l,.agg [.nums 24 x,.nm (.bl true)]]) (q:=[true,true]) (v:=(.tup [.agg [.nums 24 (ptW K2 none),.nm (.bl true)],.num .i64 0])) (obs:=[onB K2 bb (ptv K2 x true)=true,true=true]) 1 (by kernel_rfl) (hp (rfl) (hp (rfl) trivial)) (okA2 trivial ⟨hx,trivial,trivial⟩) (mulA_none _ _) (by simp only[List.map_cons,List.map_nil,p_den];rfl))
theorem lBase:ConG Tryz.prog GlobD 11 [] Pre0 (o0 BP):=con0 (fun n=>⟨nm_BL,trivial,trivial⟩) (fun gs=>rfl) (fun w hG=>
 fn_outS (N:=9) XA_ok GlobD.keep Tryz.func11 [] (fun s hs=>by cases hs) (noSS hG) (args:=[]) (q:=[]) (v:=BP) (obs:=[]) 1 (by kernel_rfl) (trivial) (fun v hv=>by cases hv) rfl rfl)
end S13O
end Go.Proofs.YtjamcbjghffboaaGreatDoor
