/-
  Own text.
-/
import Derived.Test.YtjamcbjghffboaaGreatDoorMFpN
import Derived.Test.YtjamcbjghffboaaGreatDoorMFp2M
import Derived.Test.YtjamcbjghffboaaGreatDoorMRegT
import Derived.Test.YtjamcbjghffboaaGreatDoorFp2Spec
import Derived.Test.YtjamcbjghffboaaGreatDoorMLimbR
set_option linter.unusedVariables false
set_option linter.unusedSimpArgs false
namespace Go.Proofs.YtjamcbjghffboaaGreatDoor
namespace Fpr
open Go Go.RowKit Reg Base Limb Num Fp
def QQ:Int:=0x680447a8e5ff9a692c6e9ed90d2eb35d91dd2e13ce144afd9cc34a83dac3d8907aaffffac54ffffee7fbfffffffeaab
def HH:Int:=0xd0088f51cbff34d258dd3db21a5d66bb23ba5c279c2895fb39869507b587b120f55ffff58a9ffffdcff7fffffffd555
theorem QQ_:QQ+QQ=1+HH/\HH+HH=PP-1/\0<=QQ/\0<=HH/\HH.toNat%2=1:=by decide +kernel
theorem pw_mul (x y e:Int):pw (x*y) e=pw x e*pw y e:=by rw[pw,pw,pw,Int.mul_pow]
theorem half_two (x:Int):pw x HH*pw x HH=pw x (PP-1):=by
 have q:=QQ_
 rw[<-pw_add q.2.2.2.1 q.2.2.2.1,q.2.1]
theorem eq_of_sub {x y:Int}(h:(x-y)%PP=0):x%PP=y%PP:=(Int.emod_eq_emod_iff_emod_sub_eq_zero).2 h
theorem sub_of_eq {x y:Int}(h:x%PP=y%PP):(x-y)%PP=0:=(Int.emod_eq_emod_iff_emod_sub_eq_zero).1 h
def sq (x:Int):Bool:=decide (x%PP=0∨pw x HH%PP=1)
theorem sq_zero {x:Int}(h:x%PP=0):sq x=true:=decide_eq_true (.inl h)
theorem sq_congr {x y:Int}(h:x%PP=y%PP):sq x=sq y:=by
 unfold sq
 rw[h,show pw x HH%PP=pw y HH%PP from pw_congr h _]
theorem sq_square (a:Int):sq (a*a)=true:=by
 by_cases h:a%PP=0
 ·exact sq_zero (by rw[Int.mul_emod,h,Int.zero_mul,Int.zero_emod])
 ·refine decide_eq_true (.inr ?_)
  rw[pw_mul,half_two,pw_fermat h]
theorem neg_zero {x:Int}(h:x%PP=0):(-x)%PP=0:=by
 rw[neg_out (y:=x) |> fun e=>show (-x)%PP=(-(x%PP))%PP by rw[e,Int.add_mul_emod_self_left],h];rfl
end Fpr
namespace Fpr
open Go Go.RowKit Reg Base Limb Bits Fp
end Fpr
namespace Fpr
open Go Go.RowKit Reg Base Limb Bits Fp
end Fpr
namespace Fp2r
open Go Go.RowKit Reg Base Limb Fp Fpr Fp2 Num
theorem gnorm_gm (p q:G):gnorm (gm p q)=gnorm p*gnorm q:=by
 simp only[gnorm,gm]
 grind
theorem gnorm_gp (p:G):∀n,gnorm (gp p n)=gnorm p^n
 |0=>by rw[gp,Int.pow_zero];rfl
 |n+1=>by rw[gp,gnorm_gm,gnorm_gp p n,Int.pow_succ]
def gsq (p:G):Bool:=sq (gnorm p)
theorem gsq_congr {p q:G}(h:E2 p q):gsq p=gsq q:=sq_congr (gnorm_congr h)
theorem gsq_of {p q:G}(h:E2 (gm q q) p):gsq p=true:=by
 rw[<-gsq_congr h,gsq,gnorm_gm]
 exact sq_square _
theorem gm_cancel {p q r:G}(hr:¬Z2 r)(h:E2 (gm p r) (gm q r)):E2 p q:=by
 have h1:=gm_congr h (E2.rfl (p:=gi r))
 rw[gm_assoc,gm_assoc] at h1
 have h2:=gm_gi hr
 have e:∀z:G,E2 (gm z (gm r (gi r))) z:=fun z=>by
  have:=gm_congr (E2.rfl (p:=z)) h2
  rwa [gm_one] at this
 exact ((e p).symm.trans h1).trans (e q)
theorem gn_gn (p:G):gn (gn p)=p:=by apply Prod.ext<;>simp[gn]
theorem Z2_gs {p q:G}(h:Z2 (gs p q)):E2 p q:=⟨eq_of_sub h.1,eq_of_sub h.2⟩
theorem Z2_ga {p q:G}(h:Z2 (ga p q)):E2 p (gn q):=⟨eq_of_sub (by rw[show p.1-(gn q).1=p.1+q.1 by simp[gn]];exact h.1),eq_of_sub (by rw[show p.2-(gn q).2=p.2+q.2 by simp[gn]];exact h.2)⟩
theorem gs_zero {p q:G}(h:E2 p q):Z2 (gs p q):=⟨sub_of_eq h.1,sub_of_eq h.2⟩
theorem neg_iff (x:Int):(-x)%PP=0↔x%PP=0:=⟨fun h=>by have:=neg_zero h;rwa [Int.neg_neg] at this,neg_zero⟩
theorem gn_zero {p:G}(h:Z2 p):Fp2.E2 (gn p) p:=⟨by rw[h.1];exact neg_zero h.1,by rw[h.2];exact neg_zero h.2⟩
theorem two_half:(2:Int)^HH.toNat%PP=PP-1:=by
 have h1:((2^HH.toNat%PP.toNat:Nat):Int)=((pm 384 2 HH.toNat PP.toNat 1%PP.toNat:Nat):Int):=by
  rw[pm_eq 384 2 HH.toNat PP.toNat 1 (by decide +kernel),Nat.one_mul]
 have h2:((2^HH.toNat%PP.toNat:Nat):Int)=(2:Int)^HH.toNat%PP:=by
  rw[Int.natCast_emod,Int.natCast_pow,PP_nat]
  rfl
 rw[<-h2,h1]
 decide +kernel
theorem sq_two:sq 2=false:=by
 refine decide_eq_false (fun h0=>?_)
 rcases h0 with h0|h0
 ·exact absurd h0 (by decide +kernel)
 ·rw[pw,two_half] at h0
  exact absurd h0 (by decide +kernel)
end Fp2r
namespace Fp6
open Go Go.RowKit Reg Base Limb Fp Fp2
abbrev H:=G×G×G
def gx (p:G):G:=gm p (1,1)
def ha (p q:H):H:=(ga p.1 q.1,ga p.2.1 q.2.1,ga p.2.2 q.2.2)
def hs (p q:H):H:=(gs p.1 q.1,gs p.2.1 q.2.1,gs p.2.2 q.2.2)
def hn (p:H):H:=(gn p.1,gn p.2.1,gn p.2.2)
def hk (p:H)(k:G):H:=(gm p.1 k,gm p.2.1 k,gm p.2.2 k)
def hm (p q:H):H:=
 (ga (gm p.1 q.1) (gx (ga (gm p.2.1 q.2.2) (gm p.2.2 q.2.1))),ga (ga (gm p.1 q.2.1) (gm p.2.1 q.1)) (gx (gm p.2.2 q.2.2)),ga (ga (gm p.1 q.2.2) (gm p.2.1 q.2.1)) (gm p.2.2 q.1))
def hv (p:H):H:=(gx p.2.2,p.1,p.2.1)
def hc (p:H):H:=(gs (gm p.1 p.1) (gx (gm p.2.1 p.2.2)),gs (gx (gm p.2.2 p.2.2)) (gm p.1 p.2.1),gs (gm p.2.1 p.2.1) (gm p.1 p.2.2))
def hi (p:H):H:=hk (hc p) (gi (hm p (hc p)).1)
def F6 (p:H):List Int:=F2 p.1++F2 p.2.1++F2 p.2.2
def v6 (l:List Int):H:=(v2 (seg 0 12 l),v2 (seg 12 12 l),v2 (seg 24 12 l))
def E6 (p q:H):Prop:=E2 p.1 q.1/\E2 p.2.1 q.2.1/\E2 p.2.2 q.2.2
theorem E6.rfl {p:H}:E6 p p:=⟨E2.rfl,E2.rfl,E2.rfl⟩
theorem E6.symm {p q:H}(h:E6 p q):E6 q p:=⟨h.1.symm,h.2.1.symm,h.2.2.symm⟩
theorem E6.trans {p q r:H}(h:E6 p q)(h':E6 q r):E6 p r:=⟨h.1.trans h'.1,h.2.1.trans h'.2.1,h.2.2.trans h'.2.2⟩
theorem F6_eq {p q:H}(h:E6 p q):F6 p=F6 q:=by rw[F6,F6,F2_eq h.1,F2_eq h.2.1,F2_eq h.2.2]
theorem Nm.F6 (p:H):Nm 36 (F6 p):=((Nm.F2 _).app (Nm.F2 _)).app (Nm.F2 _)
theorem seg_F6a (p:H):seg 0 12 (F6 p)=F2 p.1:=by
 show (F2 p.1++F2 p.2.1++F2 p.2.2).take 12=_
 rw[List.append_assoc,List.take_left' (Nm.F2 _).len]
theorem seg_F6b (p:H):seg 12 12 (F6 p)=F2 p.2.1:=by
 rw[seg,Fp6.F6,List.append_assoc,List.drop_left' (Nm.F2 _).len,List.take_left' (Nm.F2 _).len]
theorem seg_F6c (p:H):seg 24 12 (F6 p)=F2 p.2.2:=by
 rw[seg,Fp6.F6,List.drop_left' ((Nm.F2 p.1).app (Nm.F2 p.2.1)).len,List.take_of_length_le (by rw[(Nm.F2 _).len];omega)]
theorem v6_F6 (p:H):E6 (v6 (F6 p)) p:=by
 rw[v6,seg_F6a,seg_F6b,seg_F6c]
 exact⟨v2_F2 _,v2_F2 _,v2_F2 _⟩
theorem F6_inj {p q:H}(h:F6 p=F6 q):E6 p q:=by
 have h1:=seg_F6a p;rw[h,seg_F6a] at h1
 have h2:=seg_F6b p;rw[h,seg_F6b] at h2
 have h3:=seg_F6c p;rw[h,seg_F6c] at h3
 exact⟨(F2_inj h1).symm,(F2_inj h2).symm,(F2_inj h3).symm⟩
section
variable {p p' q q':H} {k k':G}
theorem gx_congr {a b:G}(h:E2 a b):E2 (gx a) (gx b):=gm_congr h E2.rfl
theorem ha_congr (h:E6 p p')(h':E6 q q'):E6 (ha p q) (ha p' q'):=⟨ga_congr h.1 h'.1,ga_congr h.2.1 h'.2.1,ga_congr h.2.2 h'.2.2⟩
theorem hs_congr (h:E6 p p')(h':E6 q q'):E6 (hs p q) (hs p' q'):=⟨gs_congr h.1 h'.1,gs_congr h.2.1 h'.2.1,gs_congr h.2.2 h'.2.2⟩
theorem hn_congr (h:E6 p p'):E6 (hn p) (hn p'):=⟨gn_congr h.1,gn_congr h.2.1,gn_congr h.2.2⟩
theorem hk_congr (h:E6 p p')(h':E2 k k'):E6 (hk p k) (hk p' k'):=⟨gm_congr h.1 h',gm_congr h.2.1 h',gm_congr h.2.2 h'⟩
theorem hm_congr (h:E6 p p')(h':E6 q q'):E6 (hm p q) (hm p' q'):=
  ⟨ga_congr (gm_congr h.1 h'.1) (gx_congr (ga_congr (gm_congr h.2.1 h'.2.2) (gm_congr h.2.2 h'.2.1))),
   ga_congr (ga_congr (gm_congr h.1 h'.2.1) (gm_congr h.2.1 h'.1)) (gx_congr (gm_congr h.2.2 h'.2.2)),
   ga_congr (ga_congr (gm_congr h.1 h'.2.2) (gm_congr h.2.1 h'.2.1)) (gm_congr h.2.2 h'.1)⟩
theorem hc_congr (h:E6 p p'):E6 (hc p) (hc p'):=
 ⟨gs_congr (gm_congr h.1 h.1) (gx_congr (gm_congr h.2.1 h.2.2)),gs_congr (gx_congr (gm_congr h.2.2 h.2.2)) (gm_congr h.1 h.2.1),gs_congr (gm_congr h.2.1 h.2.1) (gm_congr h.1 h.2.2)⟩
theorem hi_congr (h:E6 p p'):E6 (hi p) (hi p'):=hk_congr (hc_congr h) (gi_congr (hm_congr h (hc_congr h)).1)
end
section
variable (p q r:H)
theorem hext {p q:H}(h1:p.1=q.1)(h2:p.2.1=q.2.1)(h3:p.2.2=q.2.2):p=q:=Prod.ext h1 (Prod.ext h2 h3)
theorem ha_comm:ha p q=ha q p:=hext (ga_comm _ _) (ga_comm _ _) (ga_comm _ _)
theorem ha_assoc:ha (ha p q) r=ha p (ha q r):=hext (ga_assoc _ _ _) (ga_assoc _ _ _) (ga_assoc _ _ _)
theorem hs_eq:hs p q=ha p (hn q):=hext (gs_eq _ _) (gs_eq _ _) (gs_eq _ _)
theorem ha_zero:ha p ((0,0),(0,0),(0,0))=p:=hext (ga_zero _) (ga_zero _) (ga_zero _)
theorem ha_hn:ha p (hn p)=((0,0),(0,0),(0,0)):=hext (ga_gn _) (ga_gn _) (ga_gn _)
theorem hm_comm:hm p q=hm q p:=by
 obtain⟨⟨a0,a1⟩,⟨b0,b1⟩,c0,c1⟩:=p
 obtain⟨⟨d0,d1⟩,⟨e0,e1⟩,f0,f1⟩:=q
 apply hext<;>apply Prod.ext<;>simp only[hm,ga,gm,gx]<;>grind
theorem hm_assoc:hm (hm p q) r=hm p (hm q r):=by
 obtain⟨⟨a0,a1⟩,⟨b0,b1⟩,c0,c1⟩:=p
 obtain⟨⟨d0,d1⟩,⟨e0,e1⟩,f0,f1⟩:=q
 obtain⟨⟨x0,x1⟩,⟨y0,y1⟩,z0,z1⟩:=r
 apply hext<;>apply Prod.ext<;>simp only[hm,ga,gm,gx]<;>grind
theorem hm_ha:hm p (ha q r)=ha (hm p q) (hm p r):=by
 obtain⟨⟨a0,a1⟩,⟨b0,b1⟩,c0,c1⟩:=p
 obtain⟨⟨d0,d1⟩,⟨e0,e1⟩,f0,f1⟩:=q
 obtain⟨⟨x0,x1⟩,⟨y0,y1⟩,z0,z1⟩:=r
 apply hext<;>apply Prod.ext<;>simp only[hm,ha,ga,gm,gx]<;>grind
theorem hm_one:hm p ((1,0),(0,0),(0,0))=p:=by
 obtain⟨⟨a0,a1⟩,⟨b0,b1⟩,c0,c1⟩:=p
 apply hext<;>apply Prod.ext<;>simp only[hm,ga,gm,gx]<;>grind
theorem hm_v:hm p ((0,0),(1,0),(0,0))=hv p:=by
 obtain⟨⟨a0,a1⟩,⟨b0,b1⟩,c0,c1⟩:=p
 apply hext<;>apply Prod.ext<;>simp only[hm,hv,ga,gm,gx]<;>grind
theorem hm_k (k:G):hm p (k,(0,0),(0,0))=hk p k:=by
 obtain⟨⟨a0,a1⟩,⟨b0,b1⟩,c0,c1⟩:=p
 obtain⟨k0,k1⟩:=k
 apply hext<;>apply Prod.ext<;>simp only[hm,hk,ga,gm,gx]<;>grind
theorem hm_hc:(hm p (hc p)).2=((0,0),(0,0)):=by
 obtain⟨⟨a0,a1⟩,⟨b0,b1⟩,c0,c1⟩:=p
 apply Prod.ext<;>apply Prod.ext<;>simp only[hm,hc,ga,gs,gm,gx]<;>grind
end
end Fp6
namespace Fp6
open Go Go.RowKit Reg Base Limb Fp Fp2 Fp2r Num
def cube (p:G):G:=gm (gm p p) p
theorem PP_third:(PP-1).toNat=3*((PP.toNat-1)/3):=by decide +kernel
theorem two_power:(2:Int)^((PP.toNat-1)/3)%PP≠1:=by
 have h1:((2^((PP.toNat-1)/3)%PP.toNat:Nat):Int)=((pm 384 2 ((PP.toNat-1)/3) PP.toNat 1%PP.toNat:Nat):Int):=by
  rw[pm_eq 384 2 _ PP.toNat 1 (by decide +kernel),Nat.one_mul]
 have h2:((2^((PP.toNat-1)/3)%PP.toNat:Nat):Int)=(2:Int)^((PP.toNat-1)/3)%PP:=by
  rw[Int.natCast_emod,Int.natCast_pow,PP_nat]
  rfl
 rw[<-h2,h1]
 decide +kernel
theorem no_cube (z:G):¬E2 (cube z) (1,1):=fun h=>by
 have h1:=gnorm_congr h
 rw[cube,gnorm_gm,gnorm_gm,show gnorm (1,1)=2 from rfl] at h1
 have hz:gnorm z%PP≠0:=fun h0=>by
  rw[Int.mul_emod,h0,Int.mul_zero] at h1
  exact absurd h1 (by decide +kernel)
 have h2:=pw_fermat hz
 rw[pw,PP_third,Int.pow_mul] at h2
 have h3:gnorm z^3%PP=2%PP:=by
  rw[<-h1,Int.pow_succ,Int.pow_succ,Int.pow_one]
 rw[pw_congr h3 _] at h2
 exact two_power h2
theorem Z2_gn {p:G}(h:Z2 (gn p)):Z2 p:=by
 have:=Z2.congr (gn_zero h).symm h
 exact⟨(neg_iff _).1 h.1,(neg_iff _).1 h.2⟩
theorem cube_zero {p:G}(h:Z2 (cube p)):Z2 p:=by
 by_cases hp:Z2 p
 ·exact hp
 ·rw[cube,gm_assoc] at h
  exact gm_zero (gm_zero h hp) hp
theorem ga_z {p q:G}(h:Z2 (ga p q))(hq:Z2 q):Z2 p:=by
 have h1:=Z2_ga h
 exact Z2.congr h1.symm (Z2.congr (gn_zero hq).symm hq)
theorem two_cubes {t s:G}(h:Z2 (ga (cube t) (gm (1,1) (cube s)))):Z2 s/\Z2 t:=by
 by_cases hs:Z2 s
 ·have h1:Z2 (gm (1,1) (cube s)):=by rw[gm_comm];exact gm_zl (gm_zl (gm_zl hs))
  exact⟨hs,cube_zero (ga_z h h1)⟩
 ·exfalso
  refine no_cube (gn (gm t (gi s))) ?_
  have hc:¬Z2 (cube s):=fun h0=>hs (cube_zero h0)
  refine gm_cancel hc ?_
  have e:gm (cube (gn (gm t (gi s)))) (cube s)=gn (gm (cube t) (cube (gm s (gi s)))):=by
   generalize gi s=i
   apply Prod.ext<;>simp only[cube,gm,gn]<;>grind
  rw[e]
  have h1:=gm_gi hs
  have h2:E2 (cube (gm s (gi s))) (1,0):=by
   have:=gm_congr (gm_congr h1 h1) h1
   rwa [gm_one,gm_one] at this
  have h3:=gn_congr (gm_congr (E2.rfl (p:=cube t)) h2)
  rw[gm_one] at h3
  refine h3.trans ?_
  have h4:=gn_congr (Z2_ga h)
  rwa [gn_gn] at h4
def norm6 (p:H):G:=(hm p (hc p)).1
theorem norm6_cubes (a b c:G):ga (cube (gs (gm a b) (gx (gm c c)))) (gm (1,1) (cube (gs (gm b b) (gm a c))))=gm (norm6 (a,b,c)) (ga (gm c (gs (gm a b) (gx (gm c c)))) (gm b (gs (gm b b) (gm a c)))):=by
 obtain⟨a0,a1⟩:=a
 obtain⟨b0,b1⟩:=b
 obtain⟨c0,c1⟩:=c
 apply Prod.ext<;>simp only[cube,norm6,hm,hc,ga,gs,gm,gx]<;>grind
def Z6 (p:H):Prop:=Z2 p.1/\Z2 p.2.1/\Z2 p.2.2
theorem norm6_zero {p:H}(h:Z2 (norm6 p)):Z6 p:=by
 obtain⟨a,b,c⟩:=p
 have h1:Z2 (ga (cube (gs (gm a b) (gx (gm c c)))) (gm (1,1) (cube (gs (gm b b) (gm a c))))):=by
  rw[norm6_cubes]
  exact gm_zl h
 obtain⟨h2,h3⟩:=two_cubes h1
 have e2:=Z2_gs h2
 have e3:=Z2_gs h3
 have h4:Z2 (ga (cube (gn b)) (gm (1,1) (cube c))):=by
  have e:ga (cube (gn b)) (gm (1,1) (cube c))=gs (gm (gx (gm c c)) c) (gm (gm b b) b):=by
   apply Prod.ext<;>simp only[cube,ga,gs,gm,gn,gx]<;>grind
  rw[e]
  refine gs_zero ?_
  have e4:=gm_congr e3.symm (E2.rfl (p:=c))
  have e5:=gm_congr e2 (E2.rfl (p:=b))
  refine e4.trans ?_
  have e6:gm (gm a b) c=gm (gm a c) b:=by rw[gm_assoc,gm_comm b c,<-gm_assoc]
  rw[e6]
  exact e5.symm
 obtain⟨hc',hb'⟩:=two_cubes h4
 have hb:=Z2_gn hb'
 refine⟨?_,hb,hc'⟩
 have e:norm6 (a,b,c)=ga (cube a) (ga (gm b (gs (gx (gm b b)) (gm (gx (gm a c)) (3,0)))) (gm c (gx (gx (gm c c))))):=by
  obtain⟨a0,a1⟩:=a
  obtain⟨b0,b1⟩:=b
  obtain⟨c0,c1⟩:=c
  apply Prod.ext<;>simp only[cube,norm6,hm,hc,ga,gs,gm,gx]<;>grind
 rw[e] at h
 refine cube_zero (ga_z h ?_)
 have z1:=gm_zl (q:=gs (gx (gm b b)) (gm (gx (gm a c)) (3,0))) hb
 have z2:=gm_zl (q:=gx (gx (gm c c))) hc'
 exact⟨by show (_+_)%PP=0;rw[Int.add_emod,z1.1,z2.1];rfl,by show (_+_)%PP=0;rw[Int.add_emod,z1.2,z2.2];rfl⟩
theorem hm_hc_eq (p:H):hm p (hc p)=(norm6 p,(0,0),(0,0)):=Prod.ext rfl (hm_hc p)
theorem hm_hi {p:H}(h:¬Z6 p):E6 (hm p (hi p)) ((1,0),(0,0),(0,0)):=by
 have hn:¬Z2 (norm6 p):=fun h0=>h (norm6_zero h0)
 have e:hm p (hi p)=hk (hm p (hc p)) (gi (norm6 p)):=by
  rw[hi,<-hm_k,<-hm_assoc,hm_k]
  rfl
 rw[e,hm_hc_eq]
 refine⟨gm_gi hn,?_,?_⟩
 ·show E2 (gm (0,0) (gi (norm6 p))) (0,0)
  have:=gm_zl (p:=(0,0)) (q:=gi (norm6 p)) ⟨rfl,rfl⟩
  exact⟨this.1,this.2⟩
 ·show E2 (gm (0,0) (gi (norm6 p))) (0,0)
  have:=gm_zl (p:=(0,0)) (q:=gi (norm6 p)) ⟨rfl,rfl⟩
  exact⟨this.1,this.2⟩
def O36:H:=((0,0),(0,0),(0,0))
theorem Z6_iff (p:H):Z6 p↔E6 p O36:=⟨fun h=>⟨⟨h.1.1,h.1.2⟩,⟨h.2.1.1,h.2.1.2⟩,⟨h.2.2.1,h.2.2.2⟩⟩,fun h=>⟨⟨h.1.1,h.1.2⟩,⟨h.2.1.1,h.2.1.2⟩,⟨h.2.2.1,h.2.2.2⟩⟩⟩
theorem Z6.congr {p q:H}(h:E6 p q)(hz:Z6 p):Z6 q:=⟨Z2.congr h.1 hz.1,Z2.congr h.2.1 hz.2.1,Z2.congr h.2.2 hz.2.2⟩
theorem hm_nil (q:H):hm O36 q=O36:=by
 obtain⟨⟨d0,d1⟩,⟨e0,e1⟩,f0,f1⟩:=q
 apply hext<;>apply Prod.ext<;>simp[O36,hm,ga,gm,gx]
theorem hm_zl {p q:H}(h:Z6 p):Z6 (hm p q):=by
 have h1:=hm_congr ((Z6_iff p).1 h) (E6.rfl (p:=q))
 rw[hm_nil] at h1
 exact (Z6_iff _).2 h1
theorem hm_one' (p:H):hm ((1,0),(0,0),(0,0)) p=p:=by rw[hm_comm,hm_one]
theorem hm_zero {p q:H}(h:Z6 (hm p q))(hp:¬Z6 p):Z6 q:=by
 have h1:E6 (hm (hi p) (hm p q)) q:=by
  rw[<-hm_assoc,hm_comm (hi p) p]
  have:=hm_congr (hm_hi hp) (E6.rfl (p:=q))
  rwa [hm_one'] at this
 refine Z6.congr h1 ?_
 rw[hm_comm]
 exact hm_zl h
end Fp6
namespace Fp12
open Go Go.RowKit Reg Base Limb Fp Fp2 Fp6
abbrev K:=H×H
def ka (p q:K):K:=(ha p.1 q.1,ha p.2 q.2)
def kc (p:K):K:=(p.1,hn p.2)
def km (p q:K):K:=(ha (hm p.1 q.1) (hv (hm p.2 q.2)),ha (hm p.1 q.2) (hm p.2 q.1))
def kk (p:K)(x:H):K:=(hm p.1 x,hm p.2 x)
def ki (p:K):K:=kk (kc p) (hi (km p (kc p)).1)
def k1:K:=(((1,0),(0,0),(0,0)),O36)
def kp (p:K):Nat->K
 |0=>k1
 |n+1=>km (kp p n) p
def F12 (p:K):List Int:=F6 p.1++F6 p.2
def v12 (l:List Int):K:=(v6 (seg 0 36 l),v6 (seg 36 36 l))
def E12 (p q:K):Prop:=E6 p.1 q.1/\E6 p.2 q.2
theorem E12.rfl {p:K}:E12 p p:=⟨E6.rfl,E6.rfl⟩
theorem E12.symm {p q:K}(h:E12 p q):E12 q p:=⟨h.1.symm,h.2.symm⟩
theorem E12.trans {p q r:K}(h:E12 p q)(h':E12 q r):E12 p r:=⟨h.1.trans h'.1,h.2.trans h'.2⟩
theorem F12_eq {p q:K}(h:E12 p q):F12 p=F12 q:=by rw[F12,F12,F6_eq h.1,F6_eq h.2]
theorem Nm.F12 (p:K):Nm 72 (F12 p):=(Nm.F6 _).app (Nm.F6 _)
theorem seg_F12a (p:K):seg 0 36 (F12 p)=F6 p.1:=List.take_left' (Nm.F6 _).len
theorem seg_F12b (p:K):seg 36 36 (F12 p)=F6 p.2:=by
 rw[seg,Fp12.F12,List.drop_left' (Nm.F6 _).len,List.take_of_length_le (by rw[(Nm.F6 _).len];omega)]
theorem v12_F12 (p:K):E12 (v12 (F12 p)) p:=by
 rw[v12,seg_F12a,seg_F12b]
 exact⟨v6_F6 _,v6_F6 _⟩
theorem F12_inj {p q:K}(h:F12 p=F12 q):E12 p q:=by
 have h1:=seg_F12a p;rw[h,seg_F12a] at h1
 have h2:=seg_F12b p;rw[h,seg_F12b] at h2
 exact⟨(F6_inj h1).symm,(F6_inj h2).symm⟩
theorem hv_congr {p q:H}(h:E6 p q):E6 (hv p) (hv q):=⟨gx_congr h.2.2,h.1,h.2.1⟩
section
variable {p p' q q':K} {x x':H}
theorem ka_congr (h:E12 p p')(h':E12 q q'):E12 (ka p q) (ka p' q'):=⟨ha_congr h.1 h'.1,ha_congr h.2 h'.2⟩
theorem kc_congr (h:E12 p p'):E12 (kc p) (kc p'):=⟨h.1,hn_congr h.2⟩
theorem km_congr (h:E12 p p')(h':E12 q q'):E12 (km p q) (km p' q'):=
 ⟨ha_congr (hm_congr h.1 h'.1) (hv_congr (hm_congr h.2 h'.2)),ha_congr (hm_congr h.1 h'.2) (hm_congr h.2 h'.1)⟩
theorem kk_congr (h:E12 p p')(h':E6 x x'):E12 (kk p x) (kk p' x'):=⟨hm_congr h.1 h',hm_congr h.2 h'⟩
theorem ki_congr (h:E12 p p'):E12 (ki p) (ki p'):=kk_congr (kc_congr h) (hi_congr (km_congr h (kc_congr h)).1)
theorem kp_congr (h:E12 p p'):∀n,E12 (kp p n) (kp p' n)
 |0=>E12.rfl
 |n+1=>km_congr (kp_congr h n) h
end
section
variable (a b c d:H)
theorem ha_hm:hm (ha a b) c=ha (hm a c) (hm b c):=by rw[hm_comm,hm_ha,hm_comm c a,hm_comm c b]
theorem hv_hm:hv (hm a b)=hm (hv a) b:=by rw[<-hm_v,<-hm_v,hm_assoc,hm_assoc,hm_comm b]
theorem hv_ha:hv (ha a b)=ha (hv a) (hv b):=by rw[<-hm_v,ha_hm,hm_v,hm_v]
theorem hm_hv:hm a (hv b)=hv (hm a b):=by rw[hm_comm,<-hv_hm,hm_comm]
theorem hn_hm:hm a (hn b)=hn (hm a b):=by
 obtain⟨⟨a0,a1⟩,⟨b0,b1⟩,c0,c1⟩:=a
 obtain⟨⟨d0,d1⟩,⟨e0,e1⟩,f0,f1⟩:=b
 apply hext<;>apply Prod.ext<;>simp only[hm,hn,ga,gn,gm,gx]<;>grind
theorem hn_hm':hm (hn a) b=hn (hm a b):=by rw[hm_comm,hn_hm,hm_comm]
theorem hn_hv:hn (hv a)=hv (hn a):=by rw[<-hm_v,<-hm_v,<-hn_hm']
theorem ha_swap:ha (ha a b) (ha c d)=ha (ha a c) (ha b d):=by rw[ha_assoc,<-ha_assoc b,ha_comm b c,ha_assoc c,<-ha_assoc]
theorem ha_nil:ha a O36=a:=ha_zero a
theorem hm_nil':hm a O36=O36:=by rw[hm_comm,hm_nil]
end
section
variable (p q r:K)
theorem ka_comm:ka p q=ka q p:=Prod.ext (ha_comm _ _) (ha_comm _ _)
theorem ka_zero:ka p (O36,O36)=p:=Prod.ext (ha_nil _) (ha_nil _)
theorem km_comm:km p q=km q p:=Prod.ext (by show ha _ _=ha _ _;rw[hm_comm p.1,hm_comm p.2]) (by show ha _ _=ha _ _;rw[ha_comm,hm_comm p.1,hm_comm p.2])
theorem km_ka:km p (ka q r)=ka (km p q) (km p r):=by
 refine Prod.ext ?_ ?_
 ·show ha (hm p.1 (ha q.1 r.1)) (hv (hm p.2 (ha q.2 r.2)))=ha (ha _ _) (ha _ _)
  rw[hm_ha,hm_ha,hv_ha,ha_swap]
 ·show ha (hm p.1 (ha q.2 r.2)) (hm p.2 (ha q.1 r.1))=ha (ha _ _) (ha _ _)
  rw[hm_ha,hm_ha,ha_swap]
theorem km_assoc:km (km p q) r=km p (km q r):=by
 obtain⟨a,b⟩:=p
 obtain⟨c,d⟩:=q
 obtain⟨e,f⟩:=r
 refine Prod.ext ?_ ?_
 ·show ha (hm (ha (hm a c) (hv (hm b d))) e) (hv (hm (ha (hm a d) (hm b c)) f))=ha (hm a (ha (hm c e) (hv (hm d f)))) (hv (hm b (ha (hm c f) (hm d e))))
  rw[ha_hm,ha_hm,hm_ha,hm_ha,hv_ha,hv_ha,<-hv_hm,hm_hv,hm_assoc,hm_assoc,hm_assoc,hm_assoc,ha_assoc,ha_assoc]
  congr 1
  rw[ha_comm,ha_assoc]
 ·show ha (hm (ha (hm a c) (hv (hm b d))) f) (hm (ha (hm a d) (hm b c)) e)=ha (hm a (ha (hm c f) (hm d e))) (hm b (ha (hm c e) (hv (hm d f))))
  rw[ha_hm,ha_hm,hm_ha,hm_ha,<-hv_hm,hm_hv,hm_assoc,hm_assoc,hm_assoc,hm_assoc,ha_assoc,ha_assoc]
  congr 1
  rw[ha_comm,ha_assoc]
theorem km_one:km p k1=p:=by
 refine Prod.ext ?_ ?_
 ·show ha (hm p.1 ((1,0),(0,0),(0,0))) (hv (hm p.2 O36))=p.1
  rw[hm_one,hm_nil',show hv O36=O36 from rfl,ha_nil]
 ·show ha (hm p.1 O36) (hm p.2 ((1,0),(0,0),(0,0)))=p.2
  rw[hm_nil',hm_one,ha_comm,ha_nil]
theorem km_kc:km p (kc p)=(hs (hm p.1 p.1) (hv (hm p.2 p.2)),O36):=by
 refine Prod.ext ?_ ?_
 ·show ha (hm p.1 p.1) (hv (hm p.2 (hn p.2)))=_
  rw[hn_hm,<-hn_hv,<-hs_eq]
 ·show ha (hm p.1 (hn p.2)) (hm p.2 p.1)=O36
  rw[hn_hm,hm_comm p.2,ha_comm,ha_hn]
  rfl
theorem km_kk (x:H):km p (kk q x)=kk (km p q) x:=by
 refine Prod.ext ?_ ?_
 ·show ha (hm p.1 (hm q.1 x)) (hv (hm p.2 (hm q.2 x)))=hm (ha (hm p.1 q.1) (hv (hm p.2 q.2))) x
  rw[ha_hm,<-hv_hm,hm_assoc,hm_assoc]
 ·show ha (hm p.1 (hm q.2 x)) (hm p.2 (hm q.1 x))=hm (ha _ _) x
  rw[ha_hm,hm_assoc,hm_assoc]
theorem kp_add (m:Nat):∀n,kp p (m+n)=km (kp p m) (kp p n)
 |0=>(km_one _).symm
 |n+1=>by
  rw[<-Nat.add_assoc,kp,kp,kp_add m n,km_assoc]
theorem kp_one:kp p 1=p:=by rw[kp,kp,km_comm,km_one]
theorem kp_mul (m:Nat):∀n,kp p (m*n)=kp (kp p m) n
 |0=>rfl
 |n+1=>by rw[Nat.mul_succ,kp_add,kp_mul m n,kp]
theorem kp_km:∀n,kp (km p q) n=km (kp p n) (kp q n)
 |0=>(km_one k1).symm
 |n+1=>by
  rw[kp,kp,kp,kp_km n,km_assoc,km_assoc,<-km_assoc (kp q n),km_comm (kp q n) p,km_assoc p]
end
theorem hc_hm (p q:H):hc (hm p q)=hm (hc p) (hc q):=by
 obtain⟨⟨a0,a1⟩,⟨b0,b1⟩,c0,c1⟩:=p
 obtain⟨⟨d0,d1⟩,⟨e0,e1⟩,f0,f1⟩:=q
 apply hext<;>apply Prod.ext<;>simp only[hm,hc,ga,gs,gm,gx]<;>grind
theorem norm6_hm (p q:H):norm6 (hm p q)=gm (norm6 p) (norm6 q):=by
 have h:hm (hm p q) (hc (hm p q))=hm (hm p (hc p)) (hm q (hc q)):=by
  rw[hc_hm,hm_assoc,<-hm_assoc q,hm_comm q (hc p),hm_assoc (hc p),<-hm_assoc p]
 rw[hm_hc_eq,hm_hc_eq,hm_hc_eq,hm_k] at h
 exact congrArg (fun x:H=>x.1) h
theorem norm6_congr {p q:H}(h:E6 p q):E2 (norm6 p) (norm6 q):=(hm_congr h (hc_congr h)).1
theorem no_root (z:H):¬E6 (hm z z) ((0,0),(1,0),(0,0)):=fun h=>by
 have h1:=norm6_congr h
 rw[norm6_hm] at h1
 have h2:=Fp2r.gsq_of h1
 have h3:norm6 ((0,0),(1,0),(0,0))=(1,1):=by decide
 rw[h3] at h2
 have h4:Fp2r.gsq (1,1)=false:=Fp2r.sq_two
 rw[h4] at h2
 cases h2
def Z12 (p:K):Prop:=Z6 p.1/\Z6 p.2
theorem Z12_iff (p:K):Z12 p↔E12 p (O36,O36):=⟨fun h=>⟨(Z6_iff _).1 h.1,(Z6_iff _).1 h.2⟩,fun h=>⟨(Z6_iff _).2 h.1,(Z6_iff _).2 h.2⟩⟩
def norm12 (p:K):H:=(km p (kc p)).1
theorem hs_z {p q:H}(h:Z6 (hs p q)):E6 p q:=⟨Fp2r.Z2_gs h.1,Fp2r.Z2_gs h.2.1,Fp2r.Z2_gs h.2.2⟩
theorem norm12_zero {p:K}(h:Z6 (norm12 p)):Z12 p:=by
 obtain⟨a,b⟩:=p
 have h0:norm12 (a,b)=hs (hm a a) (hv (hm b b)):=congrArg (fun x:K=>x.1) (km_kc (a,b))
 rw[h0] at h
 have h1:=hs_z h
 by_cases hb:Z6 b
 ·refine⟨?_,hb⟩
  have h2:Z6 (hv (hm b b)):=by
   have h3:=hv_congr ((Z6_iff _).1 (hm_zl (q:=b) hb))
   exact (Z6_iff _).2 h3
  have h3:=Z6.congr h1.symm h2
  by_cases ha':Z6 a
  ·exact ha'
  ·exact hm_zero h3 ha'
 ·exfalso
  refine no_root (hm a (hi b)) ?_
  have e:hm (hm a (hi b)) (hm a (hi b))=hm (hm a a) (hm (hi b) (hi b)):=by
   rw[hm_assoc,<-hm_assoc (hi b) a,hm_comm (hi b) a,hm_assoc a,<-hm_assoc a a]
  rw[e]
  have h4:=hm_congr h1 (E6.rfl (p:=hm (hi b) (hi b)))
  refine h4.trans ?_
  have e2:hm (hv (hm b b)) (hm (hi b) (hi b))=hv (hm (hm b (hi b)) (hm b (hi b))):=by
   rw[<-hv_hm]
   congr 1
   rw[hm_assoc,<-hm_assoc b (hi b),hm_comm (hm b (hi b)) (hi b),<-hm_assoc b (hi b)]
  rw[e2]
  have h5:=hm_hi hb
  have h6:=hv_congr (hm_congr h5 h5)
  rwa [hm_one] at h6
theorem km_ki {p:K}(h:¬Z12 p):E12 (km p (ki p)) k1:=by
 have hn:¬Z6 (norm12 p):=fun h0=>h (norm12_zero h0)
 have e:km p (ki p)=kk (km p (kc p)) (hi (norm12 p)):=by
  rw[ki,km_kk]
  rfl
 rw[e]
 have h1:km p (kc p)=(norm12 p,O36):=Prod.ext rfl (show (km p (kc p)).2=O36 from congrArg (fun x:K=>x.2) (km_kc p))
 rw[h1]
 refine⟨hm_hi hn,?_⟩
 show E6 (hm O36 _) O36
 rw[hm_nil]
 exact E6.rfl
theorem km_one' (p:K):km k1 p=p:=by rw[km_comm,km_one]
theorem km_nil (q:K):km (O36,O36) q=(O36,O36):=by
 refine Prod.ext ?_ ?_
 ·show ha (hm O36 _) (hv (hm O36 _))=O36
  rw[hm_nil,hm_nil];rfl
 ·show ha (hm O36 _) (hm O36 _)=O36
  rw[hm_nil,hm_nil];rfl
theorem km_zl {p q:K}(h:Z12 p):Z12 (km p q):=by
 have h1:=km_congr ((Z12_iff p).1 h) (E12.rfl (p:=q))
 rw[km_nil] at h1
 exact (Z12_iff _).2 h1
end Fp12
namespace Fp12
set_option maxRecDepth 100000
open Go Go.RowKit Reg
theorem eqok6__:EqOK Tryz.prog 9997 24 6:=eqok_arr (d:=9995) Tryz.underlying24 Tryz.underlying22 (by kernel_rfl) (by kernel_rfl)
theorem eqok2__:EqOK Tryz.prog 9998 26 12:=eqok_parts (n:=6) (m:=2) eqok6__ Tryz.underlying24 rfl (by kernel_rfl) Tryz.underlying26 (by kernel_rfl) (by kernel_rfl)
theorem eqokh__:EqOK Tryz.prog 9999 28 36:=eqok_parts (n:=12) (m:=3) eqok2__ Tryz.underlying26 rfl (by kernel_rfl) Tryz.underlying28 (by kernel_rfl) (by kernel_rfl)
theorem eqokk:EqOK Tryz.prog 10000 30 72:=eqok_parts (n:=36) (m:=2) eqokh__ Tryz.underlying28 rfl (by kernel_rfl) Tryz.underlying30 (by kernel_rfl) (by kernel_rfl)
theorem gdk:Tryz.prog.eqGuardType Tryz.prog.depth 30=false:=by kernel_rfl
end Fp12
namespace Fp12
open Go Go.RowKit Reg Base Limb Fp Fp2 Fp6
def O72:List Int:=[1,0,0,0,0,0]++List.replicate 66 0
theorem nm_O72:Nm 72 O72:=⟨rfl,words_of _ (by decide)⟩
theorem F12_one:F12 k1=O72:=by decide +kernel
theorem v12_O72:v12 O72=k1:=by decide +kernel
section
variable (p q r:K)
end
section
variable (p q:K)
end
section
variable {a b:List Int}
end
theorem kp_dbl (p:K)(x:Nat):F12 (km (v12 (F12 (kp p x))) (v12 (F12 (kp p x))))=F12 (kp p (2*x)):=by
 rw[show 2*x=x+x by omega,kp_add]
 exact F12_eq (km_congr (v12_F12 _) (v12_F12 _))
theorem kp_more (a:List Int)(x:Nat):F12 (km (v12 (F12 (kp (v12 a) x))) (v12 a))=F12 (kp (v12 a) (x+1)):=F12_eq (km_congr (v12_F12 _) E12.rfl)
theorem digit4 {l:List Int}(hw:Words l){i s:Nat}(hi:i<l.length)(hs:s+4<=64):num l/tp (64*i+s)=16*(num l/tp (64*i+(s+4)))+nth l i/2^s%16:=by
 obtain⟨V,hV⟩:∃V,num l/tp (64*i+s)=V:=⟨_,rfl⟩
 have h16:num l/tp (64*i+(s+4))=V/16:=by
  rw[<-hV,<-Nat.add_assoc,tp_add,<-Int.ediv_ediv_of_nonneg (Int.le_of_lt (tp_pos _))]
  rfl
 have hm:V%16=nth l i/2^s%16:=by
  have e1:num l/tp (64*i)=num (l.drop i):=by
   rw[num_split l i (by omega),tp_wp]
   rw[Int.add_mul_ediv_left _ _ (by have:=wp_pos i;omega),Int.ediv_eq_zero_of_lt (low_bounds hw i).1 (low_bounds hw i).2,Int.zero_add]
  have e2:V=(nth l i+18446744073709551616*num (l.drop (i+1)))/tp s:=by
   rw[<-hV,tp_add,<-Int.ediv_ediv_of_nonneg (Int.le_of_lt (tp_pos _)),e1,num_drop hi]
  obtain⟨t,ht⟩:∃t,s+4+t=64:=⟨60-s,by omega⟩
  have e3:(18446744073709551616:Int)=tp s*(16*tp t):=by
   have:tp 64=tp s*(16*tp t):=by
    rw[<-ht,tp_add,tp_add,Int.mul_assoc]
    rfl
   rw[<-this]
   decide
  rw[e2,e3,Int.mul_assoc,Int.add_mul_ediv_left _ _ (by have:=tp_pos s;omega),Int.mul_assoc,Int.add_mul_emod_self_left]
  rfl
 rw[h16,hV,<-hm]
 omega
theorem kp_digit (p:K)(x d:Nat):F12 (km (v12 (F12 (kp p x))) (v12 (F12 (kp p d))))=F12 (kp p (x+d)):=by
 rw[kp_add]
 exact F12_eq (km_congr (v12_F12 _) (v12_F12 _))
theorem kp_ones (p:K){x:Nat}(h:F12 (kp p x)=O72):F12 (kp p (16*x))=O72:=by
 have step:∀{y:Nat},F12 (kp p y)=F12 k1->F12 (kp p (2*y))=F12 k1:=fun {y} h=>by
  rw[show 2*y=y+y by omega,kp_add]
  refine F12_eq ((km_congr (F12_inj h) (F12_inj h)).trans ?_)
  rw[km_one]
  exact E12.rfl
 rw[<-F12_one] at h ⊢
 have:=step (step (step (step h)))
 rwa [show 2*(2*(2*(2*x)))=16*x by omega] at this
end Fp12
end Go.Proofs.YtjamcbjghffboaaGreatDoor
