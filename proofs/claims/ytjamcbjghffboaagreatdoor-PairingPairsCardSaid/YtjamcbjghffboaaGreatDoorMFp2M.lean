/-
  Own text.
-/
import Derived.Test.YtjamcbjghffboaaGreatDoorFp2Spec
set_option linter.unusedVariables false
set_option linter.unusedSimpArgs false
namespace Go.Proofs.YtjamcbjghffboaaGreatDoor
namespace Fp2
open Go Go.RowKit Reg Base Limb Fp
theorem two_squares {x y:Int}(h:(x*x+y*y)%PP=0):x%PP=0/\y%PP=0:=by
 have key:∀{x y:Int},(x*x+y*y)%PP=0->y%PP=0:=fun {x y} h=>by
  by_cases hy:y%PP=0
  ·exact hy
  ·exfalso
   obtain⟨e,he⟩:∃e:Nat,(PP-1).toNat=2*e/\e%2=1:=⟨((PP-1)/2).toNat,by decide +kernel⟩
   have h1:x*x%PP=(-(y*y))%PP:=by
    have:=Int.sub_emod (x*x+y*y) (y*y) PP
    rw[h,show x*x+y*y-y*y=x*x by omega] at this
    rw[this]
    have h2:=Int.sub_emod 0 (y*y) PP
    rw[Int.zero_emod,Int.zero_sub,Int.zero_sub] at h2
    rw[Int.zero_sub,h2]
   have hx:x%PP≠0:=fun hx=>by
    have h3:x*x%PP=0:=by rw[Int.mul_emod,hx];rfl
    rw[h3] at h1
    have h4:y*y%PP=0:=by
     have:=neg_congr (x:=-(y*y)) (y:=0) (by rw[<-h1];rfl)
     rw[Int.neg_neg] at this
     exact this
    rcases PP_split h4 with h5|h5<;>exact hy h5
   have fx:=pw_fermat hx
   have fy:=pw_fermat hy
   rw[pw,he.1,Int.pow_mul] at fx fy
   have hsq:∀z:Int,z^2=z*z:=fun z=>by rw[Int.pow_succ,Int.pow_one]
   rw[hsq] at fx fy
   rw[pw_congr h1 e] at fx
   have hneg:(-(y*y))^e=-((y*y)^e):=by
    obtain⟨k,hk⟩:∃k,e=2*k+1:=⟨e/2,by omega⟩
    rw[hk,Int.pow_succ,Int.pow_succ,Int.pow_mul,Int.pow_mul,hsq,hsq,Int.neg_mul_neg,Int.mul_neg]
   rw[hneg] at fx
   have h7:=neg_congr (x:=(y*y)^e) (y:=1) (by rw[fy];decide +kernel)
   rw[fx] at h7
   exact absurd h7 (by decide +kernel)
 exact⟨key (x:=y) (y:=x) (by rw[Int.add_comm];exact h),key h⟩
def Z2 (p:G):Prop:=p.1%PP=0/\p.2%PP=0
theorem Z2.congr {p q:G}(h:E2 p q)(hz:Z2 p):Z2 q:=⟨by rw[<-h.1];exact hz.1,by rw[<-h.2];exact hz.2⟩
theorem norm_zero {p:G}(h:gnorm p%PP=0):Z2 p:=two_squares h
theorem gm_gi {p:G}(h:¬Z2 p):E2 (gm p (gi p)) (1,0):=by
 have hn:gnorm p%PP≠0:=fun h0=>h (norm_zero h0)
 have e:gm p (gi p)=(gnorm p*pw (gnorm p) (PP-2),0):=by
  generalize hk:pw (gnorm p) (PP-2)=k
  rw[gi,hk]
  apply Prod.ext<;>simp only[gm,gk,gc,gnorm]<;>grind
 rw[e]
 have:=fe_inj (fe_inverse hn)
 exact⟨this,rfl⟩
theorem gm_zl {p q:G}(h:Z2 p):Z2 (gm p q):=by
 have h0:E2 p (0,0):=⟨by rw[h.1];rfl,by rw[h.2];rfl⟩
 have:=gm_congr h0 (E2.rfl (p:=q))
 refine Z2.congr this.symm ⟨?_,?_⟩<;>simp[gm]
theorem gm_zero {p q:G}(h:Z2 (gm p q))(hp:¬Z2 p):Z2 q:=by
 have h1:E2 (gm (gi p) (gm p q)) q:=by
  rw[<-gm_assoc,gm_comm (gi p) p]
  have:=gm_congr (gm_gi hp) (E2.rfl (p:=q))
  rw[gm_comm (1,0) q,gm_one] at this
  exact this
 refine Z2.congr h1 ?_
 rw[gm_comm]
 exact gm_zl h
end Fp2
namespace Fp2
open Go Fp
def ch:Nat->Nat->Nat
 |_,0=>1
 |0,_+1=>0
 |n+1,k+1=>ch n k+ch n (k+1)
theorem ch_zero:∀n,ch n 0=1
 |0=>rfl
 |_+1=>rfl
theorem ch_big:∀{n k:Nat},n<k->ch n k=0
 |0,k+1,_=>rfl
 |n+1,k+1,h=>by rw[ch,ch_big (by omega),ch_big (by omega)]
theorem ch_self:∀n,ch n n=1
 |0=>rfl
 |n+1=>by rw[ch,ch_self n,ch_big (by omega)]
theorem ch_mul:∀n k:Nat,(k+1)*ch (n+1) (k+1)=(n+1)*ch n k
 |0,0=>rfl
 |0,k+1=>by
  rw[ch_big (show 0+1<k+1+1 by omega),ch_big (show 0<k+1 by omega)]
  simp
 |m+1,0=>by
  have h:=ch_mul m 0
  rw[ch_zero] at h
  rw[show ch (m+1+1) (0+1)=ch (m+1) 0+ch (m+1) (0+1) from rfl,ch_zero]
  omega
 |m+1,j+1=>by
  have h1:=ch_mul m (j+1)
  have h2:=ch_mul m j
  rw[show ch (m+1+1) (j+1+1)=ch (m+1) (j+1)+ch (m+1) (j+1+1) from rfl]
  have h3:ch (m+1) (j+1)=ch m j+ch m (j+1):=rfl
  generalize ch (m+1) (j+1+1)=x at *
  generalize ch (m+1) (j+1)=y at *
  generalize ch m j=s at *
  generalize ch m (j+1)=t at *
  subst h3
  grind
def bs (z:G)(n:Nat):Nat->G
 |0=>(0,0)
 |m+1=>ga (bs z n m) (gk (gp z m) (ch n m))
theorem bs_succ (z:G)(n:Nat):∀m,bs z (n+1) (m+1)=ga (bs z n (m+1)) (gm z (bs z n m))
 |0=>by
  apply Prod.ext<;>simp[bs,ga,gm,gk,gp,ch_zero]
 |m+1=>by
  rw[bs,bs_succ z n m,show bs z n (m+1+1)=ga (bs z n (m+1)) (gk (gp z (m+1)) (ch n (m+1))) from rfl,show ch (n+1) (m+1)=ch n m+ch n (m+1) from rfl,show gp z (m+1)=gm (gp z m) z from rfl]
  rw[show gm z (bs z n (m+1))=gm z (ga (bs z n m) (gk (gp z m) (ch n m))) from rfl]
  generalize bs z n (m+1)=X
  generalize bs z n m=Y
  generalize gp z m=W
  generalize ch n m=c
  generalize ch n (m+1)=d
  rw[Int.natCast_add]
  apply Prod.ext<;>simp only[ga,gm,gk]<;>grind
theorem bs_pow (z:G):∀n,gp (ga z (1,0)) n=bs z n (n+1)
 |0=>by
  apply Prod.ext<;>simp[bs,ga,gk,gp,ch_zero]
 |n+1=>by
  have h:bs z n (n+1+1)=bs z n (n+1):=by
   rw[show bs z n (n+1+1)=ga (bs z n (n+1)) (gk (gp z (n+1)) (ch n (n+1))) from rfl,ch_big (by omega)]
   apply Prod.ext<;>simp[ga,gk]
  rw[bs_succ,h,gp,bs_pow z n]
  generalize bs z n (n+1)=X
  apply Prod.ext<;>simp only[ga,gm]<;>grind
theorem PP_nat:((PP.toNat:Nat):Int)=PP:=Int.toNat_of_nonneg (Int.le_of_lt PP_pos)
theorem ch_mod {k:Nat}(h0:0<k)(h1:k<PP.toNat):((ch PP.toNat k:Nat):Int)%PP=0:=by
 have hp:=PP_nat
 obtain⟨n,hn⟩:∃n,PP.toNat=n+1:=⟨PP.toNat-1,by omega⟩
 obtain⟨j,rfl⟩:∃j,k=j+1:=⟨k-1,by omega⟩
 have h:=ch_mul n j
 rw[<-hn] at h
 have h2:(((j+1:Nat):Int)*((ch PP.toNat (j+1):Nat):Int))%PP=0:=by
  rw[<-Int.natCast_mul,h,Int.natCast_mul,hp,Int.mul_emod_right]
 rcases PP_split h2 with h3|h3
 ·rw[Int.emod_eq_of_lt (by omega) (by omega)] at h3
  omega
 ·exact h3
theorem gk_nil {z:G}{c:Int}(h:c%PP=0):E2 (gk z c) (0,0):=
 ⟨by show z.1*c%PP=_;rw[Int.mul_emod,h,Int.mul_zero],by show z.2*c%PP=_;rw[Int.mul_emod,h,Int.mul_zero]⟩
theorem bs_mod (z:G):∀m,m+1<=PP.toNat->E2 (bs z PP.toNat (m+1)) (1,0)
 |0,_=>by
  have:bs z PP.toNat (0+1)=(1,0):=by
   rw[bs,bs,ch_zero]
   apply Prod.ext<;>simp[ga,gk,gp]
  rw[this]
  exact E2.rfl
 |m+1,h=>by
  have h1:=bs_mod z m (by omega)
  have h2:=ga_congr h1 (gk_nil (z:=gp z (m+1)) (ch_mod (k:=m+1) (by omega) (by omega)))
  rw[ga_zero] at h2
  exact h2
theorem dream (z:G):E2 (gp (ga z (1,0)) PP.toNat) (ga (gp z PP.toNat) (1,0)):=by
 rw[bs_pow]
 obtain⟨n,hn⟩:∃n,PP.toNat=n+1:=⟨PP.toNat-1,by have:=PP_nat;have:=PP_pos;omega⟩
 have h1:=bs_mod z n (by omega)
 have h2:bs z PP.toNat (PP.toNat+1)=ga (bs z PP.toNat PP.toNat) (gk (gp z PP.toNat) (ch PP.toNat PP.toNat)):=rfl
 rw[h2,ch_self]
 rw[<-hn] at h1
 have h3:=ga_congr h1 (E2.rfl (p:=gk (gp z PP.toNat) ((1:Nat):Int)))
 refine h3.trans ?_
 have h4:ga (1,0) (gk (gp z PP.toNat) ((1:Nat):Int))=ga (gp z PP.toNat) (1,0):=by
  generalize gp z PP.toNat=w
  apply Prod.ext<;>simp[ga,gk,Int.add_comm]
 rw[h4]
 exact E2.rfl
theorem odd_pow (b:Int):∀j:Nat,gp (0,b) (2*j+1)=(0,(-1)^j*b^(2*j+1))
 |0=>by
  apply Prod.ext<;>simp[gp,gm,Int.pow_one]
 |j+1=>by
  rw[show 2*(j+1)+1=2*j+1+1+1 by omega,gp,gp,odd_pow b j,Int.pow_succ b (2*j+1+1),Int.pow_succ b (2*j+1),Int.pow_succ (-1) j]
  generalize b^(2*j+1)=x
  generalize (-1:Int)^j=y
  apply Prod.ext<;>simp only[gm]<;>grind
theorem frob_im (b:Int):E2 (gp (0,b) PP.toNat) (0,-b):=by
 obtain⟨k,hk⟩:∃k:Nat,PP.toNat=2*(2*k+1)+1:=⟨(PP/4).toNat,by decide +kernel⟩
 have h:=odd_pow b (2*k+1)
 rw[<-hk] at h
 rw[h]
 refine⟨rfl,?_⟩
 have h1:(-1:Int)^(2*k+1)=-1:=by rw[Int.pow_succ,Int.pow_mul,show ((-1:Int)^2)=1 from rfl,Int.one_pow,Int.one_mul]
 have h2:b^PP.toNat%PP=b%PP:=fe_inj (fe_pw_p b)
 show (-1)^(2*k+1)*b^PP.toNat%PP=-b%PP
 rw[h1,Int.neg_one_mul]
 exact neg_congr h2
theorem frob_nat (b:Int):∀a:Nat,E2 (gp ((a:Int),b) PP.toNat) ((a:Int),-b)
 |0=>frob_im b
 |a+1=>by
  have e:(((a+1:Nat):Int),b)=ga ((a:Int),b) (1,0):=by
   apply Prod.ext<;>simp[ga]
  rw[e]
  have h:=(dream ((a:Int),b)).trans (ga_congr (frob_nat b a) (E2.rfl (p:=(1,0))))
  have e2:ga ((a:Int),-b) (1,0)=(((a+1:Nat):Int),-b):=by
   apply Prod.ext<;>simp[ga]
  rw[e2] at h
  exact h
theorem frob (p:G):E2 (gp p PP.toNat) (gc p):=by
 have hm:=fe_mod p.1
 have h0:E2 p (((p.1%PP).toNat:Int),p.2):=⟨by rw[Int.toNat_of_nonneg hm.1,Int.emod_emod],rfl⟩
 have h1:=(gp_congr h0 PP.toNat).trans (frob_nat p.2 (p.1%PP).toNat)
 exact h1.trans (gc_congr h0).symm
end Fp2
end Go.Proofs.YtjamcbjghffboaaGreatDoor
