/-
  Own text.
-/
import Derived.Test.YtjamcbjghffboaaGreatDoorMFpN
import Derived.Test.YtjamcbjghffboaaGreatDoorMEc
import Derived.Test.YtjamcbjghffboaaGreatDoorMK
set_option linter.unusedVariables false
set_option linter.unusedSectionVars false
namespace Go.Proofs.YtjamcbjghffboaaGreatDoor
namespace Ab
open Num
structure Ab (γ:Type) where
 O:γ
 add:γ->γ->γ
 neg:γ->γ
 assoc:∀x y z,add (add x y) z=add x (add y z)
 comm:∀x y,add x y=add y x
 zero:∀x,add x O=x
 inv:∀x,add x (neg x)=O
section
variable {γ:Type} (A:Ab γ)
def Ab.nx:Nat->γ->γ
 |0,_=>A.O
 |n+1,x=>A.add (Ab.nx n x) x
theorem Ab.zero' (x:γ):A.add A.O x=x:=by rw[A.comm,A.zero]
theorem Ab.swap (x y z t:γ):A.add (A.add x y) (A.add z t)=A.add (A.add x z) (A.add y t):=by
 rw[A.assoc,<-A.assoc y,A.comm y z,A.assoc z,<-A.assoc]
theorem Ab.cancel {x y z:γ}(h:A.add x y=A.add x z):y=z:=by
 have:=congrArg (A.add (A.neg x)) h
 rwa [<-A.assoc,<-A.assoc,A.comm (A.neg x),A.inv,A.zero',A.zero'] at this
theorem Ab.neg_of {x y:γ}(h:A.add x y=A.O):y=A.neg x:=A.cancel (x:=x) (by rw[h,A.inv])
theorem nx_O:∀n,A.nx n A.O=A.O
 |0=>rfl
 |n+1=>by rw[Ab.nx,nx_O n,A.zero]
theorem nx_one (x:γ):A.nx 1 x=x:=by rw[Ab.nx,Ab.nx,A.zero']
theorem nx_add (m:Nat)(x:γ):∀n,A.nx (m+n) x=A.add (A.nx m x) (A.nx n x)
 |0=>by rw[Nat.add_zero,Ab.nx,A.zero]
 |n+1=>by rw[<-Nat.add_assoc,Ab.nx,nx_add m x n,Ab.nx,A.assoc]
theorem nx_sum (x y:γ):∀n,A.nx n (A.add x y)=A.add (A.nx n x) (A.nx n y)
 |0=>by rw[Ab.nx,Ab.nx,Ab.nx,A.zero]
 |n+1=>by rw[Ab.nx,nx_sum x y n,Ab.nx,Ab.nx,A.swap]
theorem nx_mul (m:Nat)(x:γ):∀n,A.nx (n*m) x=A.nx n (A.nx m x)
 |0=>by rw[Nat.zero_mul];rfl
 |n+1=>by rw[Nat.succ_mul,nx_add,nx_mul m x n,Ab.nx]
theorem nx_comm (m n:Nat)(x:γ):A.nx n (A.nx m x)=A.nx m (A.nx n x):=by rw[<-nx_mul,<-nx_mul,Nat.mul_comm]
theorem nx_dvd {d n:Nat}{x:γ}(h:d ∣ n)(hx:A.nx d x=A.O):A.nx n x=A.O:=by
 obtain⟨k,rfl⟩:=h
 rw[Nat.mul_comm,nx_mul,hx,nx_O]
theorem nx_mod {a:Nat}{x:γ}(h:A.nx a x=A.O)(i:Nat):A.nx (i%a) x=A.nx i x:=by
 have e:=nx_add A (a*(i/a)) x (i%a)
 rw[Nat.div_add_mod,nx_dvd A ⟨i/a,rfl⟩ h,A.zero'] at e
 exact e.symm
theorem nx_gcd {x:γ}:∀m n:Nat,A.nx m x=A.O->A.nx n x=A.O->A.nx (Nat.gcd m n) x=A.O:=by
 intro m n
 refine Nat.gcd.induction (P:=fun m n=>A.nx m x=A.O->A.nx n x=A.O->A.nx (Nat.gcd m n) x=A.O) m n (fun n h h'=>?_) (fun m n hm ih h h'=>?_)
 ·rw[Nat.gcd_zero_left]
  exact h'
 ·rw[Nat.gcd_rec]
  exact ih (by rw[nx_mod A h];exact h') h
theorem nx_neg {x:γ}{n:Nat}(hn:0<n)(h:A.nx n x=A.O)(i:Nat):A.add (A.nx i x) (A.nx ((n-1)*i) x)=A.O:=by
 rw[<-nx_add]
 refine nx_dvd A (d:=n) ⟨i,?_⟩ h
 obtain⟨k,rfl⟩:∃k,n=k+1:=⟨n-1,by omega⟩
 rw[Nat.add_sub_cancel,Nat.succ_mul,Nat.add_comm]
theorem prime_of_dvd:∀{l:List Nat},(∀q∈l,Pr q)->∀{e:Nat},e ∣ pl l->e≠1->∃q∈l,q ∣ e
 |[],_,e,h,he=>absurd (Nat.dvd_one.1 h) he
 |q :: l,hl,e,h,he=>by
  by_cases hq:q ∣ e
  ·exact⟨q,by simp,hq⟩
  ·have hc:Nat.Coprime e q:=(hl q (by simp)).coprime hq
   obtain⟨r,hr,hd⟩:=prime_of_dvd (fun r hr=>hl r (List.mem_cons_of_mem _ hr)) (hc.dvd_of_dvd_mul_left (show e ∣ q*pl l from h)) he
   exact⟨r,List.mem_cons_of_mem _ hr,hd⟩
theorem order {l:List Nat}(hl:∀q∈l,Pr q){x:γ}(hx:A.nx (pl l) x=A.O)(hne:∀q∈l,A.nx (pl l/q) x≠A.O){m:Nat}(hm:A.nx m x=A.O):pl l ∣ m:=by
 have hg:=nx_gcd A _ _ hx hm
 obtain⟨e,he⟩:=Nat.gcd_dvd_left (pl l) m
 by_cases h1:e=1
 ·subst h1
  rw[Nat.mul_one] at he
  rw[he]
  exact Nat.gcd_dvd_right _ _
 ·obtain⟨q,hq,k,rfl⟩:=prime_of_dvd hl (e:=e) ⟨Nat.gcd (pl l) m,by rw[Nat.mul_comm];exact he⟩ h1
  refine absurd (nx_dvd A (d:=Nat.gcd (pl l) m) ⟨k,?_⟩ hg) (hne q hq)
  have hq0:0<q:=by have:=(hl q hq).1;omega
  refine Nat.div_eq_of_eq_mul_right hq0 ?_
  refine he.trans ?_
  rw[Nat.mul_left_comm]
theorem pl_dvd:∀{l:List Nat},l.Nodup->(∀q∈l,Pr q)->∀{j:Nat},(∀q∈l,q ∣ j)->pl l ∣ j
 |[],_,_,j,_=>Nat.one_dvd j
 |q :: l,hn,hl,j,h=>by
  have hn:=List.nodup_cons.1 hn
  have ih:=pl_dvd hn.2 (fun r hr=>hl r (List.mem_cons_of_mem _ hr)) (fun r hr=>h r (List.mem_cons_of_mem _ hr))
  have hc:Nat.Coprime q (pl l):=by
   refine Nat.Coprime.symm ((hl q (by simp)).coprime (fun hd=>?_))
   have h1:q≠1:=by have:=(hl q (by simp)).1;omega
   obtain⟨r,hr,hrq⟩:=prime_of_dvd (fun r hr=>hl r (List.mem_cons_of_mem _ hr)) hd h1
   rcases (hl q (by simp)).2 r hrq with e|e
   ·have:=(hl r (List.mem_cons_of_mem _ hr)).1
    omega
   ·subst e
    exact hn.1 hr
  exact hc.mul_dvd_of_dvd_of_dvd (h q (by simp)) ih
section
variable {φ:γ->γ} (hφ:∀x y,φ (A.add x y)=A.add (φ x) (φ y)) (h3:∀x,A.add (A.add (φ (φ x)) (φ x)) x=A.O)
include hφ
theorem phi_O:φ A.O=A.O:=by
 have h:=hφ A.O A.O
 rw[A.zero] at h
 exact (A.cancel (x:=φ A.O) (by rw[A.zero];exact h)).symm
theorem phi_nx (x:γ):∀n,φ (A.nx n x)=A.nx n (φ x)
 |0=>phi_O A hφ
 |n+1=>by rw[Ab.nx,hφ,phi_nx x n,Ab.nx]
include h3
theorem eigen {l:Nat}(hl:Pr l){P:γ}(h:A.nx l P=A.O)(hne:P≠A.O){i j:Nat}(hij:A.add (A.nx i P) (A.nx j (φ P))=A.O):l ∣ j∨∃k,k<l/\φ P=A.nx k P/\(k*k+k+1)%l=0:=by
 by_cases hj:l ∣ j
 ·exact .inl hj
 ·right
  have hl0:0<l:=by have:=hl.1;omega
  have hf:=fermat hl hj
  have hφl:A.nx l (φ P)=A.O:=by rw[<-phi_nx A hφ,h,phi_O A hφ]
  obtain⟨j',hj'⟩:∃j',j^(l-1)=j'*j:=⟨j^(l-2),by
   obtain⟨m,rfl⟩:∃m,l=m+2:=⟨l-2,by have:=hl.1;omega⟩
   rw[show m+2-1=m+1 by omega,Nat.pow_succ]
   rfl⟩
  rw[hj'] at hf
  have e1:A.nx j (φ P)=A.nx ((l-1)*i) P:=A.cancel (x:=A.nx i P) (by rw[hij,nx_neg A hl0 h])
  have e2:φ P=A.nx (j'*((l-1)*i)) P:=by
   have:A.nx (j'*j) (φ P)=φ P:=by rw[<-nx_mod A hφl,hf,nx_one]
   rw[<-this,nx_mul,e1,<-nx_mul]
  refine⟨j'*((l-1)*i)%l,Nat.mod_lt _ hl0,by rw[nx_mod A h];exact e2,?_⟩
  obtain⟨k,hk⟩:∃k,j'*((l-1)*i)%l=k:=⟨_,rfl⟩
  have e3:φ P=A.nx k P:=by rw[<-hk,nx_mod A h];exact e2
  rw[hk]
  have e4:A.nx (k*k+k+1) P=A.O:=by
   have:=h3 P
   rw[e3,phi_nx A hφ,e3] at this
   rw[nx_add,nx_add,nx_mul,nx_one]
   exact this
  have ho:=order A (l:=[l]) (fun q hq=>by rw[List.mem_singleton.1 hq];exact hl) (x:=P) (by show A.nx (l*1) P=_;rw[Nat.mul_one];exact h) (fun q hq=>by
   rw[List.mem_singleton.1 hq]
   show A.nx (l*1/l) P≠_
   rw[Nat.mul_one,Nat.div_self hl0,nx_one]
   exact hne) e4
  exact Nat.mod_eq_zero_of_dvd (by rw[show pl [l]=l from Nat.mul_one l] at ho;exact ho)
theorem indep {la lb:List Nat}{c:Nat}(hla:∀q∈la,Pr q)(hlb:∀q∈lb,Pr q)(hn:lb.Nodup)(hab:pl la=pl lb*c)(hc:∀q∈lb,¬q ∣ c)(hsub:∀q∈lb,q∈la){P:γ}(hP:A.nx (pl la) P=A.O)(hne:∀q∈la,A.nx (pl la/q) P≠A.O)
  (he:∀q∈lb,∀k,k<q->(k*k+k+1)%q=0->φ (A.nx (pl la/q) P)≠A.nx k (A.nx (pl la/q) P)) {i j:Nat} (hij:A.add (A.nx i P) (A.nx j (φ (A.nx c P)))=A.O):pl la ∣ i/\pl lb ∣ j:=by
 have hj:pl lb ∣ j:=pl_dvd hn hlb (fun q hq=>by
  have hq0:0<q:=by have:=(hlb q hq).1;omega
  have hd:q ∣ pl la:=by
   have:∀{l:List Nat},q∈l->q ∣ pl l:=by
    intro l
    induction l with
    |nil=>intro h;cases h
    |cons r l ih=>
     intro h
     rcases List.mem_cons.1 h with rfl|h
     ·exact⟨pl l,rfl⟩
     ·exact Nat.dvd_trans (ih h) ⟨r,Nat.mul_comm _ _⟩
   exact this (hsub q hq)
  obtain⟨R,hR⟩:∃R,A.nx (pl la/q) P=R:=⟨_,rfl⟩
  have h1:A.nx q R=A.O:=by rw[<-hR,<-nx_mul,Nat.mul_comm,Nat.div_mul_cancel hd];exact hP
  have h2:=congrArg (A.nx (pl la/q)) hij
  rw[nx_O,nx_sum,nx_comm A i,nx_comm A j,<-phi_nx A hφ,nx_comm A c,hR,phi_nx A hφ,<-nx_mul] at h2
  have hRne:R≠A.O:=hR▸hne q (hsub q hq)
  rcases eigen A hφ h3 (hlb q hq) h1 hRne h2 with h|⟨k,k1,k2,k3⟩
  ·rcases (hlb q hq).split h with h|h
   ·exact h
   ·exact absurd h (hc q hq)
  ·exact absurd k2 (hR▸he q hq k k1 k3))
 have h4:A.nx j (φ (A.nx c P))=A.O:=by
  refine nx_dvd A hj ?_
  rw[<-phi_nx A hφ,<-nx_mul,<-hab,hP,phi_O A hφ]
 rw[h4,A.zero] at hij
 exact⟨order A hla hP hne hij,hj⟩
end
theorem php:∀(N M:Nat) (f:Nat->Nat),(∀i,i<M->f i<N)->(∀i j,i<M->j<M->f i=f j->i=j)->M<=N
 |0,M,f,h,_=>by
  rcases Nat.eq_zero_or_pos M with h0|h0
  ·omega
  ·exact absurd (h 0 h0) (Nat.not_lt_zero _)
 |N+1,M,f,h,hi=>by
  by_cases hk:∃k,k<M/\f k=N
  ·obtain⟨k,hkM,hk⟩:=hk
   have:=php N (M-1) (fun i=>if i<k then f i else f (i+1)) (fun i hiM=>?_) (fun i j hiM hjM he=>?_)
   ·omega
   ·show (if i<k then f i else f (i+1))<N
    split
    ·have h1:=h i (by omega)
     have h2:f i≠N:=fun e=>by have:=hi i k (by omega) hkM (e.trans hk.symm);omega
     omega
    ·have h1:=h (i+1) (by omega)
     have h2:f (i+1)≠N:=fun e=>by have:=hi (i+1) k (by omega) hkM (e.trans hk.symm);omega
     omega
   ·have he':(if i<k then f i else f (i+1))=(if j<k then f j else f (j+1)):=he
    split at he'<;>split at he'
    ·exact hi i j (by omega) (by omega) he'
    ·have:=hi i (j+1) (by omega) (by omega) he'
     omega
    ·have:=hi (i+1) j (by omega) (by omega) he'
     omega
    ·have:=hi (i+1) (j+1) (by omega) (by omega) he'
     omega
  ·refine Nat.le_succ_of_le (php N M f (fun i hiM=>?_) hi)
   have h1:=h i hiM
   have h2:f i≠N:=fun e=>hk ⟨i,hiM,e⟩
   omega
theorem span {a b N:Nat}(ha:0<a)(hb:0<b)(idx:γ->Nat)(hinj:∀x y,idx x=idx y->x=y)(hN:∀x,idx x<N){P Q:γ}(hP:A.nx a P=A.O)(hQ:A.nx b Q=A.O)
  (ind:∀i j,A.add (A.nx i P) (A.nx j Q)=A.O->a ∣ i/\b ∣ j) (h2:N<2*(a*b)) (x:γ):∃i j,x=A.add (A.nx i P) (A.nx j Q):=by
 refine Classical.byContradiction fun hx=>?_
 have hx:∀i j,x≠A.add (A.nx i P) (A.nx j Q):=fun i j e=>hx ⟨i,j,e⟩
 have hd:∀i j i' j',A.add (A.add (A.nx i P) (A.nx j Q)) (A.add (A.nx ((a-1)*i') P) (A.nx ((b-1)*j') Q))=A.add (A.nx (i+(a-1)*i') P) (A.nx (j+(b-1)*j') Q):=fun i j i' j'=>by
  rw[A.swap,<-nx_add,<-nx_add]
 have hz:∀i j,A.add (A.add (A.nx i P) (A.nx j Q)) (A.add (A.nx ((a-1)*i) P) (A.nx ((b-1)*j) Q))=A.O:=fun i j=>by
  rw[A.swap,nx_neg A ha hP,nx_neg A hb hQ,A.zero]
 have hone:∀{a i i':Nat},0<a->i<a->i'<a->a ∣ i+(a-1)*i'->i=i':=fun {a i i'} h0 h h' hd=>by
  obtain⟨k,rfl⟩:∃k,a=k+1:=⟨a-1,by omega⟩
  obtain⟨d,hd⟩:=hd
  rw[Nat.add_sub_cancel] at hd
  rcases Nat.lt_trichotomy d i' with h1|h1|h1
  ·obtain⟨e,rfl⟩:∃e,i'=d+e+1:=⟨i'-d-1,by omega⟩
   rw[Nat.mul_add,Nat.mul_add,Nat.add_mul] at hd
   have:k<=k*1:=by omega
   have:=Nat.le_mul_of_pos_right k (show 0<e+1 by omega)
   have e2:k*(e+1)=k*e+k*1:=Nat.mul_add _ _ _
   omega
  ·subst h1
   rw[Nat.add_mul] at hd
   omega
  ·obtain⟨e,rfl⟩:∃e,d=i'+e+1:=⟨d-i'-1,by omega⟩
   rw[Nat.add_mul,Nat.mul_add,Nat.mul_add] at hd
   omega
 have:=php N (2*(a*b)) (fun t=>idx (A.add (A.nx (t/(a*b)) x) (A.add (A.nx (t%(a*b)/b) P) (A.nx (t%b) Q)))) (fun t _=>hN _) (fun t t' ht ht' he=>?_)
 ·omega
 ·have he:=hinj _ _ he
  have hab:0<a*b:=Nat.mul_pos ha hb
  have q1:t/(a*b)<2:=Nat.div_lt_of_lt_mul (by rw[Nat.mul_comm];exact ht)
  have q2:t'/(a*b)<2:=Nat.div_lt_of_lt_mul (by rw[Nat.mul_comm];exact ht')
  have r1:t%(a*b)/b<a:=(Nat.div_lt_iff_lt_mul hb).2 (Nat.mod_lt t hab)
  have r2:t'%(a*b)/b<a:=(Nat.div_lt_iff_lt_mul hb).2 (Nat.mod_lt t' hab)
  have s1:=Nat.mod_lt t hb
  have s2:=Nat.mod_lt t' hb
  have m1:t%(a*b)%b=t%b:=Nat.mod_mod_of_dvd _ ⟨a,Nat.mul_comm _ _⟩
  have m2:t'%(a*b)%b=t'%b:=Nat.mod_mod_of_dvd _ ⟨a,Nat.mul_comm _ _⟩
  have d1:=Nat.div_add_mod t (a*b)
  have d2:=Nat.div_add_mod t' (a*b)
  have e1:=Nat.div_add_mod (t%(a*b)) b
  have e2:=Nat.div_add_mod (t'%(a*b)) b
  rw[m1] at e1
  rw[m2] at e2
  obtain⟨u,hu⟩:∃u,t/(a*b)=u:=⟨_,rfl⟩
  obtain⟨u',hu'⟩:∃u,t'/(a*b)=u:=⟨_,rfl⟩
  obtain⟨i,hi⟩:∃u,t%(a*b)/b=u:=⟨_,rfl⟩
  obtain⟨i',hi'⟩:∃u,t'%(a*b)/b=u:=⟨_,rfl⟩
  obtain⟨j,hj⟩:∃u,t%b=u:=⟨_,rfl⟩
  obtain⟨j',hj'⟩:∃u,t'%b=u:=⟨_,rfl⟩
  rw[hu,hi,hj,hu',hi',hj'] at he
  rw[hu] at q1 d1
  rw[hu'] at q2 d2
  rw[hi] at r1 e1
  rw[hi'] at r2 e2
  rw[hj] at s1 e1
  rw[hj'] at s2 e2
  have same:A.add (A.nx i P) (A.nx j Q)=A.add (A.nx i' P) (A.nx j' Q)->i=i'/\j=j':=fun h=>by
   have h1:=hz i' j'
   rw[<-h,hd] at h1
   obtain⟨k1,k2⟩:=ind _ _ h1
   exact⟨hone ha r1 r2 k1,hone hb s1 s2 k2⟩
  have hu01:u=u':=by
   rcases Nat.eq_zero_or_pos u with h0|h0<;>rcases Nat.eq_zero_or_pos u' with h0' | h0'
   ·omega
   ·exfalso
    obtain rfl:u'=1:=by omega
    subst h0
    rw[nx_one,Ab.nx,A.zero'] at he
    refine hx (i+(a-1)*i') (j+(b-1)*j') ?_
    rw[<-hd,he,A.assoc,hz,A.zero]
   ·exfalso
    obtain rfl:u=1:=by omega
    subst h0'
    rw[nx_one,Ab.nx,A.zero'] at he
    refine hx (i'+(a-1)*i) (j'+(b-1)*j) ?_
    rw[<-hd,<-he,A.assoc,hz,A.zero]
   ·omega
  subst hu01
  obtain⟨rfl,rfl⟩:=same (A.cancel he)
  rw[e1] at e2
  rw[<-d1,<-d2,e2]
theorem tors {a b r a':Nat}{P Q:γ}(hr:0<r)(har:a=r*a')(hbr:Nat.Coprime b r)(hQ:A.nx b Q=A.O)(ind:∀i j,A.add (A.nx i P) (A.nx j Q)=A.O->a ∣ i/\b ∣ j)(hs:∀x,∃i j,x=A.add (A.nx i P) (A.nx j Q)){x:γ}(hx:A.nx r x=A.O):∃k,x=A.nx k (A.nx a' P):=by
 obtain⟨i,j,rfl⟩:=hs x
 rw[nx_sum,<-nx_mul,<-nx_mul] at hx
 obtain⟨h1,h2⟩:=ind _ _ hx
 obtain⟨k,hk⟩:a' ∣ i:=by
  rw[har] at h1
  exact Nat.dvd_of_mul_dvd_mul_left hr h1
 rw[nx_dvd A (hbr.dvd_of_dvd_mul_left h2) hQ,A.zero]
 exact⟨k,by rw[<-nx_mul,hk,Nat.mul_comm]⟩
end
theorem no_root {l:Nat}(hl:Pr l)(h2:l%3=2)(k:Nat):(k*k+k+1)%l≠0:=fun h=>by
 have hd:l ∣ k*k+k+1:=Nat.dvd_of_mod_eq_zero h
 have hk:¬l ∣ k:=fun hk=>by
  have h1:l ∣ k*k+k:=Nat.dvd_add (Nat.dvd_trans hk ⟨k,rfl⟩) hk
  have:=(Nat.dvd_add_right h1).1 hd
  have:=Nat.le_of_dvd (by decide) this
  have:=hl.1
  omega
 have h3:k^3%l=1:=by
  obtain⟨d,hd'⟩:=hd
  have e:k^3+l*d=1+l*(d*k):=by
   rw[<-hd',<-Nat.mul_assoc,<-hd']
   simp only[Nat.pow_succ,Nat.pow_zero,Nat.one_mul,Nat.add_mul]
   omega
  have:=congrArg (· % l) e
  simp only[Nat.add_mul_mod_self_left] at this
  rw[this,Nat.mod_eq_of_lt (by have:=hl.1;omega)]
 have hf:=fermat hl hk
 obtain⟨m,hm⟩:∃m,l-1=3*m+1:=⟨(l-2)/3,by omega⟩
 rw[hm,Nat.pow_succ,Nat.pow_mul,Nat.mul_mod,pow_mod_one (Nat.mod_eq_of_lt (by have:=hl.1;omega)) m h3,Nat.one_mul,Nat.mod_mod] at hf
 have e3:(k*k+k+1)%l=3%l:=by
  have hkk:=Nat.div_add_mod k l
  rw[hf] at hkk
  obtain⟨d,hd⟩:∃d,k/l=d:=⟨_,rfl⟩
  rw[hd] at hkk
  rw[show k*k+k+1=3+l*(l*d*d+3*d) by rw[<-hkk];grind,Nat.add_mul_mod_self_left]
 rw[h] at e3
 have:=Nat.dvd_of_mod_eq_zero e3.symm
 have h5:=Nat.le_of_dvd (by decide) this
 have h6:=hl.1
 have:l=2∨l=3:=by omega
 rcases this with rfl|rfl
 ·omega
 ·omega
theorem two_rt {l k1 k2:Nat}(hl:Pr l)(hs:(k1+k2+1)%l=0)(hp:k1*k2%l=1)(h1:k1<l)(h2:k2<l){k:Nat}(hk:k<l)(h:(k*k+k+1)%l=0):k=k1∨k=k2:=by
 obtain⟨s,hs⟩:=Nat.dvd_of_mod_eq_zero hs
 obtain⟨d,hd⟩:=Nat.dvd_of_mod_eq_zero h
 have ht:=Nat.div_add_mod (k1*k2) l
 rw[hp] at ht
 obtain⟨t,ht'⟩:∃t,k1*k2/l=t:=⟨_,rfl⟩
 rw[ht'] at ht
 have e:((k:Int)-k1)*(k-k2)=l*(d-s*k+t):=by
  have a1:((k*k+k+1:Nat):Int)=((l*d:Nat):Int):=by rw[hd]
  have a2:((k1+k2+1:Nat):Int)=((l*s:Nat):Int):=by rw[hs]
  have a3:((l*t+1:Nat):Int)=((k1*k2:Nat):Int):=by rw[ht]
  simp only[Int.natCast_add,Int.natCast_mul,Int.natCast_one] at a1 a2 a3
  grind
 have hdv:l ∣ ((k:Int)-k1).natAbs*((k:Int)-k2).natAbs:=by
  rw[<-Int.natAbs_mul,e,Int.natAbs_mul]
  exact⟨_,rfl⟩
 have small:∀{k':Nat},k'<l->l ∣ ((k:Int)-k').natAbs->k=k':=fun {k'} hk' hd=>by
  rcases Nat.eq_zero_or_pos ((k:Int)-k').natAbs with h0|h0
  ·omega
  ·have:=Nat.le_of_dvd h0 hd
   omega
 rcases hl.split hdv with h|h
 ·exact .inl (small h1 h)
 ·exact .inr (small h2 h)
end Ab
namespace Ec
set_option maxRecDepth 100000
open Go Ring Ab
section
variable {α:Type} (F:Fd α)
theorem ph_on {t b x y:α}(h:F.Z (F.sub (F.mul y y) (F.add (F.mul (F.mul x x) x) b)))(ht:F.Z (F.add (F.add (F.mul t t) t) (F.int 1))):F.Z (F.sub (F.mul y y) (F.add (F.mul (F.mul (F.mul t x) (F.mul t x)) (F.mul t x)) b)):=F.Z_by (fun k_=>match k_ with|0=>t|1=>t|2=>t|3=>t|4=>t|5=>t|6=>t|7=>t|8=>b|9=>x|_=>y) (e:=V10*V10-(V0*V9*(V0*V9)*(V0*V9)+V8)) (f:=Cn 1*(V10*V10-(V9*V9*V9+V8))+(V9*V9*V9+Cn (-1)*V0*(V9*V9*V9))*(V0*V0+V0+Cn 1)) (by decide +kernel) (F.za (F.zm' _ h) (F.zm' _ ht))
theorem ph_c3 {t x1 y1 x2 y2 l:α}(c3:F.Z (F.sub (F.sub y1 y2) (F.mul l (F.sub x1 x2))))(ht:F.Z (F.add (F.add (F.mul t t) t) (F.int 1))):F.Z (F.sub (F.sub y1 y2) (F.mul (F.mul (F.mul t t) l) (F.sub (F.mul t x1) (F.mul t x2)))):=F.Z_by (fun k_=>match k_ with|0=>t|1=>x1|2=>y1|3=>x2|4=>y2|5=>l|6=>t|7=>t|8=>t|9=>t|_=>t) (e:=V2-V4-V0*V0*V5*(V0*V1-V0*V3)) (f:=Cn 1*(V2-V4-V5*(V1-V3))+(V5*V1+Cn (-1)*V5*V3+V5*V0*V3+Cn (-1)*V5*V0*V1)*(V0*V0+V0+Cn 1)) (by decide +kernel) (F.za (F.zm' _ c3) (F.zm' _ ht))
theorem ph_cc {t x1 y1 x2 y2 l:α}(cc:F.Z (F.sub (F.mul l (F.add y1 y2)) (F.add (F.add (F.mul x1 x1) (F.mul x1 x2)) (F.mul x2 x2)))):F.Z (F.sub (F.mul (F.mul (F.mul t t) l) (F.add y1 y2)) (F.add (F.add (F.mul (F.mul t x1) (F.mul t x1)) (F.mul (F.mul t x1) (F.mul t x2))) (F.mul (F.mul t x2) (F.mul t x2)))):=F.Z_by (fun k_=>match k_ with|0=>t|1=>x1|2=>y1|3=>x2|4=>y2|5=>l|6=>t|7=>t|8=>t|9=>t|_=>t) (e:=V0*V0*V5*(V2+V4)-(V0*V1*(V0*V1)+V0*V1*(V0*V3)+V0*V3*(V0*V3))) (f:=V0*V0*(V5*(V2+V4)-(V1*V1+V1*V3+V3*V3))) (by decide +kernel) (F.zm' _ cc)
theorem ph_x {t x1 x2 l x3:α}(kx:F.Z (F.sub x3 (F.sub (F.sub (F.mul l l) x1) x2)))(ht:F.Z (F.add (F.add (F.mul t t) t) (F.int 1))):F.Z (F.sub (F.mul t x3) (F.sub (F.sub (F.mul (F.mul (F.mul t t) l) (F.mul (F.mul t t) l)) (F.mul t x1)) (F.mul t x2))):=F.Z_by (fun k_=>match k_ with|0=>t|1=>x1|2=>t|3=>x2|4=>t|5=>l|6=>x3|7=>t|8=>t|9=>t|_=>t) (e:=V0*V6-(V0*V0*V5*(V0*V0*V5)-V0*V1-V0*V3)) (f:=V0*(V6-(V5*V5-V1-V3))+(V0*(V5*V5)+Cn (-1)*(V5*V5)*(V0*V0))*(V0*V0+V0+Cn 1)) (by decide +kernel) (F.za (F.zm' _ kx) (F.zm' _ ht))
theorem ph_y {t x1 y1 l x3 y3:α}(ky:F.Z (F.sub y3 (F.sub (F.mul l (F.sub x1 x3)) y1)))(ht:F.Z (F.add (F.add (F.mul t t) t) (F.int 1))):F.Z (F.sub y3 (F.sub (F.mul (F.mul (F.mul t t) l) (F.sub (F.mul t x1) (F.mul t x3))) y1)):=F.Z_by (fun k_=>match k_ with|0=>t|1=>x1|2=>y1|3=>t|4=>t|5=>l|6=>x3|7=>y3|8=>t|9=>t|_=>t) (e:=V7-(V0*V0*V5*(V0*V1-V0*V6)-V2)) (f:=Cn 1*(V7-(V5*(V1-V6)-V2))+(V5*V1+Cn (-1)*V5*V6+V5*V0*V6+Cn (-1)*V5*V0*V1)*(V0*V0+V0+Cn 1)) (by decide +kernel) (F.za (F.zm' _ ky) (F.zm' _ ht))
theorem ph_o {t x1 x2:α}(h:F.Z (F.sub x1 x2)):F.Z (F.sub (F.mul t x1) (F.mul t x2)):=F.Z_by (fun k_=>match k_ with|0=>t|1=>x1|2=>t|3=>x2|4=>t|5=>t|6=>t|7=>t|8=>t|9=>t|_=>t) (e:=V0*V1-V0*V3) (f:=V0*(V1-V3)) (by decide +kernel) (F.zm' _ h)
theorem ph_i {t x1 x2:α}(h:F.Z (F.sub (F.mul t x1) (F.mul t x2)))(ht:F.Z (F.add (F.add (F.mul t t) t) (F.int 1))):F.Z (F.sub x1 x2):=F.Z_by (fun k_=>match k_ with|0=>t|1=>x1|2=>t|3=>x2|4=>t|5=>t|6=>t|7=>t|8=>t|9=>t|_=>t) (e:=V1-V3) (f:=V0*V0*(V0*V1-V0*V3)+(V1+Cn (-1)*V3+V0*V3+Cn (-1)*V0*V1)*(V0*V0+V0+Cn 1)) (by decide +kernel) (F.za (F.zm' _ h) (F.zm' _ ht))
theorem ph_z {t x:α}(h:F.Z (F.sub (F.mul (F.mul t t) x) (F.mul t x)))(ht:F.Z (F.add (F.add (F.mul t t) t) (F.int 1))):F.Z (F.mul (F.int 3) x):=F.Z_by (fun k_=>match k_ with|0=>t|1=>t|2=>t|3=>t|4=>t|5=>t|6=>t|7=>t|8=>t|9=>x|_=>t) (e:=Cn 3*V9) (f:=(V0+Cn (-1)*(V0*V0))*(V0*V0*V9-V0*V9)+(Cn 3*V9+V9*(V0*V0)+Cn (-3)*V0*V9)*(V0*V0+V0+Cn 1)) (by decide +kernel) (F.za (F.zm' _ h) (F.zm' _ ht))
theorem ph_3c {t x y:α}(ht:F.Z (F.add (F.add (F.mul t t) t) (F.int 1))):F.Z (F.sub (F.mul (F.int 0) (F.add y y)) (F.add (F.add (F.mul (F.mul (F.mul t t) x) (F.mul (F.mul t t) x)) (F.mul (F.mul (F.mul t t) x) (F.mul t x))) (F.mul (F.mul t x) (F.mul t x)))):=F.Z_by (fun k_=>match k_ with|0=>t|1=>t|2=>t|3=>t|4=>t|5=>t|6=>t|7=>t|8=>t|9=>x|_=>y) (e:=Cn 0*(V10+V10)-(V0*V0*V9*(V0*V0*V9)+V0*V0*V9*(V0*V9)+V0*V9*(V0*V9))) (f:=Cn (-1)*(V0*V0)*(V9*V9)*(V0*V0+V0+Cn 1)) (by decide +kernel) (F.zm' _ ht)
theorem ph_3s {t x y:α}  : F.Z (F.sub (F.sub y y) (F.mul (F.int 0) (F.sub (F.mul (F.mul t t) x) (F.mul t x)))):=F.Z_by (fun k_=>match k_ with|0=>t|1=>t|2=>t|3=>t|4=>t|5=>t|6=>t|7=>t|8=>t|9=>x|_=>y) (e:=V10-V10-Cn 0*(V0*V0*V9-V0*V9)) (f:=Cn 0) (by decide +kernel) F.z0
theorem ph_3x {t x:α}(ht:F.Z (F.add (F.add (F.mul t t) t) (F.int 1))):F.Z (F.sub x (F.sub (F.sub (F.mul (F.int 0) (F.int 0)) (F.mul (F.mul t t) x)) (F.mul t x))):=F.Z_by (fun k_=>match k_ with|0=>t|1=>t|2=>t|3=>t|4=>t|5=>t|6=>t|7=>t|8=>t|9=>x|_=>t) (e:=V9-(Cn 0*Cn 0-V0*V0*V9-V0*V9)) (f:=V9*(V0*V0+V0+Cn 1)) (by decide +kernel) (F.zm' _ ht)
theorem ph_3y {t x y:α}  : F.Z (F.sub (F.sub (F.int 0) y) (F.sub (F.mul (F.int 0) (F.sub (F.mul (F.mul t t) x) x)) y)):=F.Z_by (fun k_=>match k_ with|0=>t|1=>t|2=>t|3=>t|4=>t|5=>t|6=>t|7=>t|8=>t|9=>x|_=>y) (e:=Cn 0-V10-(Cn 0*(V0*V0*V9-V9)-V10)) (f:=Cn 0) (by decide +kernel) F.z0
theorem ph_y2 {y:α}(h:F.Z (F.add y y)):F.Z (F.mul (F.int 2) y):=F.Z_by (fun k_=>match k_ with|0=>y|1=>y|2=>y|3=>y|4=>y|5=>y|6=>y|7=>y|8=>y|9=>y|_=>y) (e:=Cn 2*V10) (f:=Cn 1*(V10+V10)) (by decide +kernel) (F.zm' _ h)
def phP (t:α):Pt α->Pt α
 |none=>none
 |some (x,y)=>some (F.mul t x,y)
theorem phP_on {t b:α}(ht:F.Z (F.add (F.add (F.mul t t) t) (F.int 1))){A:Pt α}(h:OnP F b A):OnP F b (phP F t A):=by
 rcases A with _|⟨x,y⟩
 ·trivial
 ·exact ph_on F h ht
theorem phP_eq {t:α}{A B:Pt α}(h:EqP F A B):EqP F (phP F t A) (phP F t B):=by
 rcases A with _|⟨x,y⟩<;>rcases B with _|⟨x',y'⟩
 ·trivial
 ·exact h.elim
 ·exact h.elim
 ·exact⟨F.mul_eq (F.refl _) h.1,h.2⟩
theorem phP_sum {t:α}(ht:F.Z (F.add (F.add (F.mul t t) t) (F.int 1))){A B C:Pt α}(h:Sum F A B C):Sum F (phP F t A) (phP F t B) (phP F t C):=by
 cases h with
 |zl h=>exact .zl (phP_eq F h)
 |zr h=>exact .zr (phP_eq F h)
 |op h=>exact .op ⟨ph_o F h.1,h.2⟩
 |sl ho hs hx hy=>exact .sl (fun k=>ho ⟨ph_i F k.1 ht,k.2⟩) ⟨ph_c3 F hs.c3 ht,ph_cc F hs.cc⟩ (ph_x F hx ht) (ph_y F hy ht)
theorem phP_three {t b:α}(hb:¬F.Z b)(ht:F.Z (F.add (F.add (F.mul t t) t) (F.int 1))){A:Pt α}(a:OnP F b A):Sum F (phP F t (phP F t A)) (phP F t A) (negP F A):=by
 rcases A with _|⟨x,y⟩
 ·exact .zl trivial
 ·have e:F.mul t (F.mul t x)=F.mul (F.mul t t) x:=(F.mul_assoc _ _ _).symm
  show Sum F (some (F.mul t (F.mul t x),y)) (some (F.mul t x,y)) (some (x,F.sub (F.int 0) y))
  rw[e]
  refine .sl (fun k=>?_) (l:=F.int 0) ⟨ph_3s F,ph_3c F ht⟩ (ph_3x F ht) (ph_3y F)
  have hx:F.Z x:=(F.zd (ph_z F k.1 ht)).resolve_left (nz_int F (by decide +kernel))
  have hy:F.Z y:=(F.zd (ph_y2 F k.2)).resolve_left (nz_int F (by decide +kernel))
  exact hb (bk_b F a hy hx)
section
variable [DecidablePred F.Z] {b:α}
def stP (b:α):Setoid { A:Pt α // OnP F b A }:=⟨fun A B=>EqP F A.1 B.1,⟨fun A=>eqP_refl F _,fun h=>eqP_symm F h,fun h k=>eqP_trans F h k⟩⟩
def EG (b:α):=Quotient (stP F b)
def mk (A:Pt α)(h:OnP F b A):EG F b:=Quotient.mk (stP F b) ⟨A,h⟩
theorem mk_eq {A B:Pt α}{h:OnP F b A}{k:OnP F b B}(e:EqP F A B):mk F A h=mk F B k:=Quotient.sound (s:=stP F b) e
theorem eq_mk {A B:Pt α}{h:OnP F b A}{k:OnP F b B}(e:mk F A h=mk F B k):EqP F A B:=Quotient.exact (s:=stP F b) e
theorem mk_ex (x:EG F b):∃A h,x=mk F A h:=by
 refine Quotient.inductionOn x (fun a=>⟨a.1,a.2,rfl⟩)
def addG (x y:EG F b):EG F b:=Quotient.liftOn₂ x y (fun A B=>mk F (addP F A.1 B.1) (add_on F A.2 B.2)) (fun A B A' B' h k=>mk_eq F (add_eq' F h k))
def negG (x:EG F b):EG F b:=Quotient.liftOn x (fun A=>mk F (negP F A.1) (onP_neg F A.2)) (fun A A' h=>mk_eq F (neg_eq F h))
theorem add_mk {A B C:Pt α}{a:OnP F b A}{e:OnP F b B}{c:OnP F b C}(h:Sum F A B C):addG F (mk F A a) (mk F B e)=mk F C c:=mk_eq F (sum_un F (add_sum F a e) h)
theorem neg_mk {A:Pt α}{a:OnP F b A}:negG F (mk F A a)=mk F (negP F A) (onP_neg F a):=rfl
def gp (hb:¬F.Z b):Ab (EG F b) where
 O:=mk F none trivial
 add:=addG F
 neg:=negG F
 assoc:=fun x y z=>by
  obtain⟨A,a,rfl⟩:=mk_ex F x
  obtain⟨B,e,rfl⟩:=mk_ex F y
  obtain⟨C,c,rfl⟩:=mk_ex F z
  obtain⟨D,hD,d⟩:=sum_ex F a e
  obtain⟨E,hE,f⟩:=sum_ex F e c
  obtain⟨L,hL,l⟩:=sum_ex F d c
  obtain⟨R,hR,r⟩:=sum_ex F a f
  rw[add_mk F (c:=d) hD,add_mk F (c:=f) hE,add_mk F (c:=l) hL,add_mk F (c:=r) hR]
  exact mk_eq F (sum_assoc F hb a e c hD hE hL hR)
 comm:=fun x y=>by
  obtain⟨A,a,rfl⟩:=mk_ex F x
  obtain⟨B,e,rfl⟩:=mk_ex F y
  obtain⟨D,hD,d⟩:=sum_ex F a e
  rw[add_mk F (c:=d) hD,add_mk F (c:=d) (sum_comm F hD)]
 zero:=fun x=>by
  obtain⟨A,a,rfl⟩:=mk_ex F x
  exact add_mk F (.zr (eqP_refl F A))
 inv:=fun x=>by
  obtain⟨A,a,rfl⟩:=mk_ex F x
  rw[neg_mk]
  exact add_mk F (sum_self F A)
theorem nx_mk (hb:¬F.Z b){n:Nat}{A C:Pt α}{a:OnP F b A}{c:OnP F b C}(h:Mult F n A C):(gp F hb).nx n (mk F A a)=mk F C c:=by
 induction n generalizing C with
 |zero=>exact mk_eq F h
 |succ n ih=>
  obtain⟨D,h1,h2⟩:=h
  have d:=mult_on F a h1
  show addG F _ _=_
  rw[ih (c:=d) h1]
  exact add_mk F h2
def phG {t:α}(ht:F.Z (F.add (F.add (F.mul t t) t) (F.int 1)))(x:EG F b):EG F b:=Quotient.liftOn x (fun A=>mk F (phP F t A.1) (phP_on F ht A.2)) (fun A A' h=>mk_eq F (phP_eq F h))
theorem ph_mk {t:α}(ht:F.Z (F.add (F.add (F.mul t t) t) (F.int 1))){A:Pt α}{a:OnP F b A}:phG F ht (mk F A a)=mk F (phP F t A) (phP_on F ht a):=rfl
theorem phG_add (hb:¬F.Z b){t:α}(ht:F.Z (F.add (F.add (F.mul t t) t) (F.int 1)))(x y:EG F b):phG F ht ((gp F hb).add x y)=(gp F hb).add (phG F ht x) (phG F ht y):=by
 obtain⟨A,a,rfl⟩:=mk_ex F x
 obtain⟨B,e,rfl⟩:=mk_ex F y
 obtain⟨D,hD,d⟩:=sum_ex F a e
 show phG F ht (addG F (mk F A a) (mk F B e))=addG F (phG F ht (mk F A a)) (phG F ht (mk F B e))
 rw[add_mk F (c:=d) hD,ph_mk,ph_mk,ph_mk,add_mk F (c:=phP_on F ht d) (phP_sum F ht hD)]
theorem phG_three (hb:¬F.Z b){t:α}(ht:F.Z (F.add (F.add (F.mul t t) t) (F.int 1)))(x:EG F b):(gp F hb).add ((gp F hb).add (phG F ht (phG F ht x)) (phG F ht x)) x=(gp F hb).O:=by
 obtain⟨A,a,rfl⟩:=mk_ex F x
 show addG F (addG F (phG F ht (phG F ht (mk F A a))) (phG F ht (mk F A a))) (mk F A a)=mk F none trivial
 rw[ph_mk,ph_mk,add_mk F (c:=onP_neg F a) (phP_three F hb ht a)]
 exact add_mk F (sum_comm F (sum_self F A))
theorem jn_none (hb:¬F.Z b){red:α->α}(hr:∀a,F.eq a (red a)){x2 y2:α}(a:OnP F b (some (x2,y2))){f n:Nat}(h1:1<=n)(h2:n<2^(f+1))(h:F.Z (jn F red x2 y2 f n).2.2):(gp F hb).nx n (mk F _ a)=(gp F hb).O:=by
 obtain⟨C,hC,hR⟩:=jn_ok F hb hr a f n h1 h2
 rcases C with _|⟨x,y⟩
 ·exact nx_mk F hb hC
 ·exact absurd h hR.1
theorem jn_some (hb:¬F.Z b){red:α->α}(hr:∀a,F.eq a (red a)){x2 y2:α}(a:OnP F b (some (x2,y2))){f n:Nat}(h1:1<=n)(h2:n<2^(f+1))(h:¬F.Z (jn F red x2 y2 f n).2.2):(gp F hb).nx n (mk F _ a)≠(gp F hb).O:=by
 obtain⟨C,hC,hR⟩:=jn_ok F hb hr a f n h1 h2
 rcases C with _|⟨x,y⟩
 ·exact absurd hR h
 ·intro h0
  rw[nx_mk F hb (c:=mult_on F a hC) hC] at h0
  exact eq_mk F h0
theorem jn_ne (hb:¬F.Z b){red:α->α}(hr:∀a,F.eq a (red a)){t:α}(ht:F.Z (F.add (F.add (F.mul t t) t) (F.int 1))){x2 y2:α}(a:OnP F b (some (x2,y2))){f n m:Nat}(h1:1<=n)(h2:n<2^(f+1))(k1:1<=m)(k2:m<2^(f+1))
  (hz:¬F.Z (jn F red x2 y2 f n).2.2) (hx:¬F.Z (F.sub (F.mul (F.mul t (jn F red x2 y2 f n).1) (F.mul (jn F red x2 y2 f m).2.2 (jn F red x2 y2 f m).2.2)) (F.mul (jn F red x2 y2 f m).1 (F.mul (jn F red x2 y2 f n).2.2 (jn F red x2 y2 f n).2.2)))) :
  phG F ht ((gp F hb).nx n (mk F _ a))≠(gp F hb).nx m (mk F _ a):=by
 obtain⟨C,hC,hR⟩:=jn_ok F hb hr a f n h1 h2
 obtain⟨D,hD,hS⟩:=jn_ok F hb hr a f m k1 k2
 intro h0
 rw[nx_mk F hb (c:=mult_on F a hC) hC,nx_mk F hb (c:=mult_on F a hD) hD,ph_mk] at h0
 have he:=eq_mk F h0
 rcases C with _|⟨x,y⟩
 ·exact hz hR
 rcases D with _|⟨u,v⟩
 ·exact he
 ·refine hx ?_
  obtain⟨_,r1,_⟩:=hR
  obtain⟨_,s1,_⟩:=hS
  have e1:F.eq (F.mul t x) u:=he.1
  have:=F.trans (F.mul_eq (F.mul_eq (F.refl t) r1) (F.refl (F.mul (jn F red x2 y2 f m).2.2 (jn F red x2 y2 f m).2.2))) (F.trans ?_ (F.mul_eq (F.symm s1) (F.refl (F.mul (jn F red x2 y2 f n).2.2 (jn F red x2 y2 f n).2.2))))
  ·exact this
  ·have e2:F.mul (F.mul t (F.mul x (F.mul (jn F red x2 y2 f n).2.2 (jn F red x2 y2 f n).2.2))) (F.mul (jn F red x2 y2 f m).2.2 (jn F red x2 y2 f m).2.2)=F.mul (F.mul (F.mul t x) (F.mul (jn F red x2 y2 f m).2.2 (jn F red x2 y2 f m).2.2)) (F.mul (jn F red x2 y2 f n).2.2 (jn F red x2 y2 f n).2.2):=by
    rw[<-F.mul_assoc t x,F.mul_assoc (F.mul t x),F.mul_comm (F.mul (jn F red x2 y2 f n).2.2 (jn F red x2 y2 f n).2.2),<-F.mul_assoc]
   rw[e2]
   exact F.mul_eq (F.mul_eq e1 (F.refl _)) (F.refl _)
end
end
end Ec
namespace Num
theorem dvd_pow_cases {q h:Nat}(hq:Pr q)(k:Nat)(hd:h ∣ q^k):h=1∨q ∣ h:=by
 by_cases hh:q ∣ h
 ·exact .inr hh
 ·left
  have hc:Nat.Coprime h (q^k):=(hq.coprime hh).pow_right k
  have:=Nat.gcd_eq_left hd
  rw[hc.gcd_eq_one] at this
  exact this.symm
theorem order_pow {n q c l:Nat}(e f:Nat)(hq:Pr q)(hf:q^(e+1)<2^f)(hc:pm f c (q^(e+1)) n 1%n=1)(hg:Nat.gcd (pm f c (q^e) n 1%n+n-1) n=1)(hl:Pr l)(hd:l ∣ n):q^(e+1) ∣ l-1:=by
 have hf2:q^e<2^f:=Nat.lt_of_le_of_lt (Nat.pow_le_pow_right (by have:=hq.1;omega) (by omega)) hf
 rw[pm_eq _ _ _ _ _ hf,Nat.one_mul] at hc
 rw[pm_eq _ _ _ _ _ hf2,Nat.one_mul] at hg
 have h1:1%l=1:=Nat.mod_eq_of_lt hl.1
 have hcl:c^q^(e+1)%l=1:=by rw[<-Nat.mod_mod_of_dvd _ hd,hc,h1]
 have hnc:¬l ∣ c:=fun h=>by
  have h3:l ∣ c^q^(e+1):=by
   have:0<q^(e+1):=Nat.pow_pos (by have:=hq.1;omega)
   obtain⟨z,hz⟩:∃z,q^(e+1)=z+1:=⟨q^(e+1)-1,by omega⟩
   rw[hz,Nat.pow_succ]
   exact Nat.dvd_trans h (Nat.dvd_mul_left c _)
  have:=Nat.mod_eq_zero_of_dvd h3
  omega
 have h2:=pow_gcd h1 (q^(e+1)) (l-1) hcl (fermat hl hnc)
 obtain⟨g,hgd⟩:∃g,Nat.gcd (q^(e+1)) (l-1)=g:=⟨_,rfl⟩
 have hg1:g ∣ q^(e+1):=hgd▸Nat.gcd_dvd_left _ _
 have hg2:g ∣ l-1:=hgd▸Nat.gcd_dvd_right _ _
 rw[hgd] at h2
 obtain⟨h,hh⟩:=hg1
 rcases dvd_pow_cases hq (e+1) ⟨g,by rw[hh,Nat.mul_comm]⟩ with e1|⟨h',e1⟩
 ·rw[hh,e1,Nat.mul_one]
  exact hg2
 ·exfalso
  have hq0:0<q:=by have:=hq.1;omega
  have e2:q^e=g*h':=by
   rw[e1,Nat.pow_succ,Nat.mul_left_comm,Nat.mul_comm q] at hh
   exact Nat.eq_of_mul_eq_mul_right hq0 hh
  have e3:c^q^e%l=1:=by rw[e2,Nat.pow_mul];exact pow_mod_one h1 _ h2
  have e4:c^q^e%n%l=1:=by rw[Nat.mod_mod_of_dvd _ hd,e3]
  obtain⟨u,hu⟩:∃u,c^q^e%n=u:=⟨_,rfl⟩
  rw[hu] at e4 hg
  have h3:l ∣ u+n-1:=by
   have hu1:1<=u:=Nat.pos_of_ne_zero (by rintro rfl;simp at e4)
   rw[Nat.add_comm,Nat.add_sub_assoc hu1]
   exact Nat.dvd_add hd (Nat.dvd_of_mod_eq_zero (Nat.sub_mod_eq_zero_of_mod_eq (e4.trans h1.symm)))
  have h4:=Nat.dvd_gcd h3 hd
  rw[hg] at h4
  have:=Nat.le_of_dvd (by omega) h4
  have:=hl.1
  omega
theorem pr_of_dvd {n F:Nat}(hn:2<=n)(h:∀l,Pr l->l ∣ n->F ∣ l-1)(hF:n<(F+1)*(F+1)):Pr n:=by
 obtain⟨l,hl,hd,hm⟩:=least_prime hn
 have hl2:=hl.1
 have hle:=Nat.le_of_dvd (by omega) (h l hl hd)
 refine⟨hn,fun d hdn=>?_⟩
 by_cases h1:d=1
 ·exact .inl h1
 ·right
  obtain⟨e,he⟩:=hdn
  by_cases h2:e=1
  ·rw[he,h2,Nat.mul_one]
  ·exfalso
   have hd0:d≠0:=by rintro rfl;omega
   have he0:e≠0:=by rintro rfl;omega
   have a1:=hm d ⟨e,he⟩ (by omega)
   have a2:=hm e ⟨d,by rw[he,Nat.mul_comm]⟩ (by omega)
   have a3:=Nat.mul_le_mul a1 a2
   rw[<-he] at a3
   have a5:=Nat.mul_le_mul (show F+1<=l by omega) (show F+1<=l by omega)
   omega
theorem pr_2:Pr 2:=pr_small 0 (by decide) (by decide +kernel) (by decide)
theorem pr_906349:Pr 906349:=pr_small 951 (by decide) (by decide +kernel) (by decide)
theorem pr_110573:Pr 110573:=pr_small 331 (by decide) (by decide +kernel) (by decide)
theorem pr_2653753:Pr 2653753:=
 pock_pm (q:=110573) (c:=854698) 0 17 (by decide +kernel) pr_110573 (by decide +kernel) (by decide +kernel) (by decide +kernel) (fun k hk=>absurd hk (by omega)) (by decide +kernel)
theorem pr_63690073:Pr 63690073:=
 pock_pm (q:=2653753) (c:=16777216) 0 22 (by decide +kernel) pr_2653753 (by decide +kernel) (by decide +kernel) (by decide +kernel) (fun k hk=>absurd hk (by omega)) (by decide +kernel)
theorem pr_254760293:Pr 254760293:=
 pock_pm (q:=63690073) (c:=16) 0 26 (by decide +kernel) pr_63690073 (by decide +kernel) (by decide +kernel) (by decide +kernel) (fun k hk=>absurd hk (by omega)) (by decide +kernel)
theorem pr_r:Pr 0x73eda753299d7d483339d80809a1d80553bda402fffe5bfeffffffff00000001:=
 pr_of_dvd (F:=2^32*906349^2*254760293^2) (by decide +kernel) (fun l hl hd=>
  Nat.Coprime.mul_dvd_of_dvd_of_dvd (by decide +kernel) (Nat.Coprime.mul_dvd_of_dvd_of_dvd (by decide +kernel)
   (order_pow (q:=2) (c:=0x212d79e5b416b6f0fd56dc8d168d6c0c4024ff270b3e0941b788f500b912f1f) 31 33 pr_2 (by decide +kernel) (by decide +kernel) (by decide +kernel) hl hd)
   (order_pow (q:=906349) (c:=0x2bd98a3a65c19ba42d5f1b972a00290e336bb760404b584310fa5848265c49a9) 1 40 pr_906349 (by decide +kernel) (by decide +kernel) (by decide +kernel) hl hd))
   (order_pow (q:=254760293) (c:=0x50c13652e184ffb6874ca3eda5c779f18c2b612dd275b42c87a87cad245e4a8e) 1 56 pr_254760293 (by decide +kernel) (by decide +kernel) (by decide +kernel) hl hd)) (by decide +kernel)
end Num
namespace Ord1
set_option maxRecDepth 100000
open Go Ring Ab Ec Num Fp
instance decI:DecidablePred FI.Z:=fun a=>inferInstanceAs (Decidable (a%PP=0))
def red (a:Int):Int:=a%PP
theorem fi_eq {a b:Int}:FI.eq a b↔a%PP=b%PP:=by
 show (a + -1*b)%PP=0↔_
 rw[Int.emod_eq_emod_iff_emod_sub_eq_zero,show a + -1*b=a-b by omega]
theorem hred (a:Int):FI.eq a (red a):=fi_eq.2 (Int.emod_emod _ _).symm
theorem hb:¬FI.Z 4:=by decide +kernel
def y0:Int:=0xd3c6da1211ebe797bc0790f1e6e7d669b180a8e59196825506d2bb2185f53715df092c8a7ceb64843ea7df67dbad60d
theorem on0:OnP FI 4 (some ((5:Int),y0)):=by
 show FI.Z _
 decide +kernel
def T:Int:=0x5f19672fdf76ce51ba69c6076a0f77eaddb3a93be6f89688de17d813620a00022e01fffffffefffe
theorem hT:FI.Z (FI.add (FI.add (FI.mul T T) T) (FI.int 1)):=by decide +kernel
def la:List Nat:=[3,11,10177,859267,52437899,0x73eda753299d7d483339d80809a1d80553bda402fffe5bfeffffffff00000001]
def lb:List Nat:=[11,10177,859267,52437899]
def cc:Nat:=0x15bc8f5f97cd877d899ad88181ce5880ffb38ec08fffb13fcfffffffd00000003
theorem pr_3:Pr 3:=pr_small 1 (by decide) (by decide +kernel) (by decide)
theorem pr_11:Pr 11:=pr_small 3 (by decide) (by decide +kernel) (by decide)
theorem pr_10177:Pr 10177:=pr_small 120 (by decide) (by decide +kernel) (by decide)
theorem pr_859267:Pr 859267:=pr_small 930 (by decide) (by decide +kernel) (by decide)
theorem pr_52437899:Pr 52437899:=pr_small 7250 (by decide) (by decide +kernel) (by decide)
theorem hla:∀q∈la,Pr q:=by
 intro q hq
 simp only[la,List.mem_cons,List.mem_nil_iff,or_false] at hq
 rcases hq with rfl|rfl|rfl|rfl|rfl|rfl
 ·exact pr_3
 ·exact pr_11
 ·exact pr_10177
 ·exact pr_859267
 ·exact pr_52437899
 ·exact pr_r
theorem hlb:∀q∈lb,Pr q:=fun q hq=>hla q (by simp only[lb,la,List.mem_cons,List.mem_nil_iff,or_false] at hq ⊢;rcases hq with h|h|h|h<;>simp[h])
abbrev E1:=gp FI hb
def P1:EG FI 4:=mk FI (some ((5:Int),y0)) on0
theorem hP:E1.nx (pl la) P1=E1.O:=jn_none FI hb hred on0 (f:=340) (by decide +kernel) (by decide +kernel) (by decide +kernel)
theorem hne_3:E1.nx (pl la/3) P1≠E1.O:=jn_some FI hb hred on0 (f:=340) (by decide +kernel) (by decide +kernel) (by decide +kernel)
theorem hne_11:E1.nx (pl la/11) P1≠E1.O:=jn_some FI hb hred on0 (f:=340) (by decide +kernel) (by decide +kernel) (by decide +kernel)
theorem hne_10177:E1.nx (pl la/10177) P1≠E1.O:=jn_some FI hb hred on0 (f:=340) (by decide +kernel) (by decide +kernel) (by decide +kernel)
theorem hne_859267:E1.nx (pl la/859267) P1≠E1.O:=jn_some FI hb hred on0 (f:=340) (by decide +kernel) (by decide +kernel) (by decide +kernel)
theorem hne_52437899:E1.nx (pl la/52437899) P1≠E1.O:=jn_some FI hb hred on0 (f:=340) (by decide +kernel) (by decide +kernel) (by decide +kernel)
theorem hne_r:E1.nx (pl la/0x73eda753299d7d483339d80809a1d80553bda402fffe5bfeffffffff00000001) P1≠E1.O:=jn_some FI hb hred on0 (f:=340) (by decide +kernel) (by decide +kernel) (by decide +kernel)
theorem hne:∀q∈la,E1.nx (pl la/q) P1≠E1.O:=by
 intro q hq
 simp only[la,List.mem_cons,List.mem_nil_iff,or_false] at hq
 rcases hq with rfl|rfl|rfl|rfl|rfl|rfl
 ·exact hne_3
 ·exact hne_11
 ·exact hne_10177
 ·exact hne_859267
 ·exact hne_52437899
 ·exact hne_r
abbrev ph:=phG FI (b:=(4:Int)) hT
theorem he_10177_4773:ph (E1.nx (pl la/10177) P1)≠E1.nx 4773 (E1.nx (pl la/10177) P1):=by
 rw[<-nx_mul]
 exact jn_ne FI hb hred hT on0 (f:=340) (by decide +kernel) (by decide +kernel) (by decide +kernel) (by decide +kernel) (by decide +kernel) (by decide +kernel)
theorem he_10177_5403:ph (E1.nx (pl la/10177) P1)≠E1.nx 5403 (E1.nx (pl la/10177) P1):=by
 rw[<-nx_mul]
 exact jn_ne FI hb hred hT on0 (f:=340) (by decide +kernel) (by decide +kernel) (by decide +kernel) (by decide +kernel) (by decide +kernel) (by decide +kernel)
theorem he_859267_119571:ph (E1.nx (pl la/859267) P1)≠E1.nx 119571 (E1.nx (pl la/859267) P1):=by
 rw[<-nx_mul]
 exact jn_ne FI hb hred hT on0 (f:=340) (by decide +kernel) (by decide +kernel) (by decide +kernel) (by decide +kernel) (by decide +kernel) (by decide +kernel)
theorem he_859267_739695:ph (E1.nx (pl la/859267) P1)≠E1.nx 739695 (E1.nx (pl la/859267) P1):=by
 rw[<-nx_mul]
 exact jn_ne FI hb hred hT on0 (f:=340) (by decide +kernel) (by decide +kernel) (by decide +kernel) (by decide +kernel) (by decide +kernel) (by decide +kernel)
theorem he:∀q∈lb,∀k,k<q->(k*k+k+1)%q=0->ph (E1.nx (pl la/q) P1)≠E1.nx k (E1.nx (pl la/q) P1):=by
 intro q hq k hk h
 simp only[lb,List.mem_cons,List.mem_nil_iff,or_false] at hq
 rcases hq with rfl|rfl|rfl|rfl
 ·exact absurd h (no_root pr_11 (by decide) k)
 ·rcases two_rt (k1:=4773) (k2:=5403) pr_10177 (by decide +kernel) (by decide +kernel) (by decide) (by decide) hk h with rfl|rfl
  ·exact he_10177_4773
  ·exact he_10177_5403
 ·rcases two_rt (k1:=119571) (k2:=739695) pr_859267 (by decide +kernel) (by decide +kernel) (by decide) (by decide) hk h with rfl|rfl
  ·exact he_859267_119571
  ·exact he_859267_739695
 ·exact absurd h (no_root pr_52437899 (by decide) k)
theorem ind {i j:Nat}(h:E1.add (E1.nx i P1) (E1.nx j (ph (E1.nx cc P1)))=E1.O):pl la ∣ i/\pl lb ∣ j:=
 indep E1 (φ:=ph) (phG_add FI hb hT) (phG_three FI hb hT) hla hlb (by decide) (by decide +kernel) (by decide +kernel) (by decide) hP hne he h
theorem hQ:E1.nx (pl lb) (ph (E1.nx cc P1))=E1.O:=by
 rw[<-phi_nx E1 (φ:=ph) (phG_add FI hb hT),<-nx_mul,show pl lb*cc=pl la by decide +kernel,hP]
 exact phi_O E1 (φ:=ph) (phG_add FI hb hT)
def ix:Pt Int->Nat
 |none=>0
 |some (x,y)=>1+2*(x%PP).toNat+(y%PP).toNat%2
theorem ix_eq {A B:Pt Int}(h:EqP FI A B):ix A=ix B:=by
 rcases A with _|⟨x,y⟩<;>rcases B with _|⟨u,v⟩
 ·rfl
 ·exact h.elim
 ·exact h.elim
 ·rw[ix,ix,fi_eq.1 h.1,fi_eq.1 h.2]
theorem pp_odd:PP%2=1:=by decide +kernel
theorem pp_pos:0<PP:=by decide +kernel
theorem ix_inj {A B:Pt Int}(a:OnP FI 4 A)(e:OnP FI 4 B)(h:ix A=ix B):EqP FI A B:=by
 rcases A with _|⟨x,y⟩<;>rcases B with _|⟨u,v⟩
 ·trivial
 ·simp only[ix] at h
  omega
 ·simp only[ix] at h
  omega
 ·simp only[ix] at h
  have hx0:=Int.emod_nonneg x (Int.ne_of_gt pp_pos)
  have hu0:=Int.emod_nonneg u (Int.ne_of_gt pp_pos)
  have hx:FI.eq x u:=fi_eq.2 (by omega)
  refine⟨hx,?_⟩
  rcases FI.zd (slope_y FI a e hx) with h1|h1
  ·exact h1
  ·have hs:(y+v)%PP=0:=h1
   have y0:=Int.emod_nonneg y (Int.ne_of_gt pp_pos)
   have y1:=Int.emod_lt_of_pos y pp_pos
   have v0:=Int.emod_nonneg v (Int.ne_of_gt pp_pos)
   have v1:=Int.emod_lt_of_pos v pp_pos
   rw[Int.add_emod] at hs
   have ho:=pp_odd
   refine fi_eq.2 ?_
   obtain⟨P,hP⟩:∃P,PP=P:=⟨_,rfl⟩
   rw[hP] at hs y0 y1 v0 v1 ho h ⊢
   obtain⟨s,hs1⟩:∃s,y%P=s:=⟨_,rfl⟩
   obtain⟨t,ht1⟩:∃s,v%P=s:=⟨_,rfl⟩
   rw[hs1,ht1] at hs
   rw[hs1] at y0 y1 h ⊢
   rw[ht1] at v0 v1 h ⊢
   by_cases hl:s+t<P
   ·rw[Int.emod_eq_of_lt (by omega) hl] at hs
    omega
   ·have e2:(s+t)%P=s+t-P:=by
     rw[<-Int.sub_emod_right,Int.emod_eq_of_lt (by omega) (by omega)]
    rw[e2] at hs
    omega
theorem ix_lt (A:Pt Int):ix A<2*PP.toNat+1:=by
 rcases A with _|⟨x,y⟩
 ·exact Nat.succ_pos _
 ·simp only[ix]
  have x0:=Int.emod_nonneg x (Int.ne_of_gt pp_pos)
  have x1:=Int.emod_lt_of_pos x pp_pos
  omega
def idx (x:EG FI 4):Nat:=Quotient.liftOn x (fun A=>ix A.1) (fun A B h=>ix_eq h)
theorem idx_inj (x y:EG FI 4)(h:idx x=idx y):x=y:=by
 obtain⟨A,a,rfl⟩:=mk_ex FI x
 obtain⟨B,e,rfl⟩:=mk_ex FI y
 exact mk_eq FI (ix_inj a e h)
theorem idx_lt (x:EG FI 4):idx x<2*PP.toNat+1:=by
 obtain⟨A,a,rfl⟩:=mk_ex FI x
 exact ix_lt A
theorem spans (x:EG FI 4):∃i j,x=E1.add (E1.nx i P1) (E1.nx j (ph (E1.nx cc P1))):=
 span E1 (by decide +kernel) (by decide +kernel) idx idx_inj idx_lt hP hQ (fun i j h=>ind h) (by decide +kernel) x
theorem of_r {x:EG FI 4}(h:E1.nx 0x73eda753299d7d483339d80809a1d80553bda402fffe5bfeffffffff00000001 x=E1.O):∃k,x=E1.nx k (E1.nx 15132376222941642753 P1):=
 tors E1 (a:=pl la) (b:=pl lb) (by decide) (by decide +kernel) (by decide +kernel) hQ (fun i j h=>ind h) spans h
end Ord1
namespace Num
theorem pr_1367711:Pr 1367711:=pr_small 1180 (by decide) (by decide +kernel) (by decide)
theorem pr_12192593745179:Pr 12192593745179:=
 pock_pm (q:=1367711) (c:=5796217470442) 2 21 (by decide +kernel) pr_1367711 (by decide +kernel) (by decide +kernel) (by decide +kernel) (by decide +kernel) (by decide +kernel)
theorem pr_512088937297519:Pr 512088937297519:=
 pock_pm (q:=12192593745179) (c:=4398046511104) 0 44 (by decide +kernel) pr_12192593745179 (by decide +kernel) (by decide +kernel) (by decide +kernel) (fun k hk=>absurd hk (by omega)) (by decide +kernel)
theorem pr_1857858664515398933:Pr 1857858664515398933:=
 pock_pm (q:=512088937297519) (c:=364711527723577204) 0 49 (by decide +kernel) pr_512088937297519 (by decide +kernel) (by decide +kernel) (by decide +kernel) (fun k hk=>absurd hk (by omega)) (by decide +kernel)
theorem pr_22294303974184787197:Pr 22294303974184787197:=
 pock_pm (q:=1857858664515398933) (c:=4096) 0 61 (by decide +kernel) pr_1857858664515398933 (by decide +kernel) (by decide +kernel) (by decide +kernel) (fun k hk=>absurd hk (by omega)) (by decide +kernel)
theorem pr_19931107752921199754119:Pr 19931107752921199754119:=
 pock_pm (q:=22294303974184787197) (c:=3685394013329786069740) 0 65 (by decide +kernel) pr_22294303974184787197 (by decide +kernel) (by decide +kernel) (by decide +kernel) (fun k hk=>absurd hk (by omega)) (by decide +kernel)
theorem pr_81162125843606155545104998607900118769099783:Pr 0x3a3b20d133b8d40adad656266fbb6a7fe6407:=
 pock_pm (q:=19931107752921199754119) (c:=0x1b343301528e6353330825ba303f3ecddfb74) 0 75 (by decide +kernel) pr_19931107752921199754119 (by decide +kernel) (by decide +kernel) (by decide +kernel) (fun k hk=>absurd hk (by omega)) (by decide +kernel)
theorem pr_26935696298915610574513298451669528361624243820491956655650666425177:Pr 0xffc50cf573c89122dd11c279f49f98d846fa0c405df437e79ea3ab59:=
 pock_pm (q:=0x3a3b20d133b8d40adad656266fbb6a7fe6407) (c:=0x3db0535dac9a21ab787d1c76cab8e1660ac5052c4feeaf1e92af3c4b) 0 146 (by decide +kernel) pr_81162125843606155545104998607900118769099783 (by decide +kernel) (by decide +kernel) (by decide +kernel) (fun k hk=>absurd hk (by omega)) (by decide +kernel)
theorem pr_4638704574076146691498289350639807119782054683906549022985642612861209609656189848749536921852444848596916990932297:Pr 0x1e2365c752d7d23abca2a8aff1995f80a8d1b41dd0e1f6bcad1cd8087e78db3569a8ddb16b63be225aba8d40d9ac7549:=
 pock_pm (q:=0xffc50cf573c89122dd11c279f49f98d846fa0c405df437e79ea3ab59) (c:=0x5c10e6668ba674669eadcab4fc6fabd8a27d9e105474f9779d21cb72d918e90bc30dfcf7e1489bd4bbc0203c8ddcc7e) 0 224 (by decide +kernel) pr_26935696298915610574513298451669528361624243820491956655650666425177 (by decide +kernel) (by decide +kernel) (by decide +kernel) (fun k hk=>absurd hk (by omega)) (by decide +kernel)
theorem pr_402096035359507321594726366720466575392706800671181159425656785868777272553337714697862511267018014931937703598282857976535744623203249:Pr 0x8d9f503deeeb5d5c423572788bea4d6ae0490c5afca1eeb2a9d75bb98b95878afab9c0da5cf222c377d87384d026cd73826d177200c0d3b1:=
 pock_pm (q:=0x1e2365c752d7d23abca2a8aff1995f80a8d1b41dd0e1f6bcad1cd8087e78db3569a8ddb16b63be225aba8d40d9ac7549) (c:=0x69db9115bac16447d79bca628dc4bdccb1b554bc1d7e51e075eb4ce761ae14fc73f375064e3705aaa23b5902acd20c2cabd9e0fdc2efd85) 0 381 (by decide +kernel) pr_4638704574076146691498289350639807119782054683906549022985642612861209609656189848749536921852444848596916990932297 (by decide +kernel) (by decide +kernel) (by decide +kernel) (fun k hk=>absurd hk (by omega)) (by decide +kernel)
end Num
namespace Ord2
set_option maxRecDepth 100000
open Go Ring Ab Ec Num Fp Fp2
instance decG:DecidablePred FG.Z:=fun a=>inferInstanceAs (Decidable (a.1%PP=0/\a.2%PP=0))
def red (a:G):G:=(a.1%PP,a.2%PP)
theorem md {a b:Int}:(a + -1*b)%PP=0↔a%PP=b%PP:=by
 rw[Int.emod_eq_emod_iff_emod_sub_eq_zero,show a + -1*b=a-b by omega]
theorem fg_eq {a b:G}:FG.eq a b↔a.1%PP=b.1%PP/\a.2%PP=b.2%PP:=by
 have e:FG.eq a b↔(a.1 + -1*b.1)%PP=0/\(a.2 + -1*b.2)%PP=0:=by
  show Z2 (ga a (gm (-1,0) b))↔_
  have e1:ga a (gm (-1,0) b)=(a.1 + -1*b.1,a.2 + -1*b.2):=by
   apply Prod.ext<;>simp[ga,gm]
  rw[e1]
  exact Iff.rfl
 rw[e,md,md]
theorem hred (a:G):FG.eq a (red a):=fg_eq.2 ⟨(Int.emod_emod _ _).symm,(Int.emod_emod _ _).symm⟩
theorem hb:¬FG.Z ((4,4):G):=by decide +kernel
def y0:G:=(0x18c6b864ae17dc9da64203ffefb966306425a7bc6aeb7c75247438372716284a4173830420cd476ba1a365b95bfcec38,0x172e93db764a8400a7d5071b6b6f5de0da2f0f4a063119abca014006b7c40a2cfe291a1924e65db0d6d0fcfbf3bf3d5c)
theorem on0:OnP FG (4,4) (some (((2,0):G),y0)):=by
 show FG.Z _
 decide +kernel
def T:G:=(0x5f19672fdf76ce51ba69c6076a0f77eaddb3a93be6f89688de17d813620a00022e01fffffffefffe,0)
theorem hT:FG.Z (FG.add (FG.add (FG.mul T T) T) (FG.int 1)):=by decide +kernel
def la:List Nat:=[13,23,2713,11953,262069,0x8d9f503deeeb5d5c423572788bea4d6ae0490c5afca1eeb2a9d75bb98b95878afab9c0da5cf222c377d87384d026cd73826d177200c0d3b1,0x73eda753299d7d483339d80809a1d80553bda402fffe5bfeffffffff00000001]
def lb:List Nat:=[13,23]
def cc:Nat:=0x1efb4a568d869543da9fd1d8b14abdf71c6f4b3665284471d6314b42684033e0d14bb526f233e0bd7549b09ea304235297fc9c5ebd8f06f6fd897364e520dd593deb1a65d8d2a71238056fe8b291ecdaec72771f80c3aa294834061650d
theorem pr_13:Pr 13:=pr_small 4 (by decide) (by decide +kernel) (by decide)
theorem pr_23:Pr 23:=pr_small 5 (by decide) (by decide +kernel) (by decide)
theorem pr_2713:Pr 2713:=pr_small 53 (by decide) (by decide +kernel) (by decide)
theorem pr_11953:Pr 11953:=pr_small 110 (by decide) (by decide +kernel) (by decide)
theorem pr_262069:Pr 262069:=pr_small 512 (by decide) (by decide +kernel) (by decide)
theorem hla:∀q∈la,Pr q:=by
 intro q hq
 simp only[la,List.mem_cons,List.mem_nil_iff,or_false] at hq
 rcases hq with rfl|rfl|rfl|rfl|rfl|rfl|rfl
 ·exact pr_13
 ·exact pr_23
 ·exact pr_2713
 ·exact pr_11953
 ·exact pr_262069
 ·exact pr_402096035359507321594726366720466575392706800671181159425656785868777272553337714697862511267018014931937703598282857976535744623203249
 ·exact pr_r
theorem hlb:∀q∈lb,Pr q:=fun q hq=>hla q (by simp only[lb,la,List.mem_cons,List.mem_nil_iff,or_false] at hq ⊢;rcases hq with h|h<;>simp[h])
abbrev E2_:=gp FG hb
def P2:EG FG (4,4):=mk FG (some (((2,0):G),y0)) on0
theorem hP:E2_.nx (pl la) P2=E2_.O:=jn_none FG hb hred on0 (f:=760) (by decide +kernel) (by decide +kernel) (by decide +kernel)
theorem hne_13:E2_.nx (pl la/13) P2≠E2_.O:=jn_some FG hb hred on0 (f:=760) (by decide +kernel) (by decide +kernel) (by decide +kernel)
theorem hne_23:E2_.nx (pl la/23) P2≠E2_.O:=jn_some FG hb hred on0 (f:=760) (by decide +kernel) (by decide +kernel) (by decide +kernel)
theorem hne_2713:E2_.nx (pl la/2713) P2≠E2_.O:=jn_some FG hb hred on0 (f:=760) (by decide +kernel) (by decide +kernel) (by decide +kernel)
theorem hne_11953:E2_.nx (pl la/11953) P2≠E2_.O:=jn_some FG hb hred on0 (f:=760) (by decide +kernel) (by decide +kernel) (by decide +kernel)
theorem hne_262069:E2_.nx (pl la/262069) P2≠E2_.O:=jn_some FG hb hred on0 (f:=760) (by decide +kernel) (by decide +kernel) (by decide +kernel)
theorem hne_M:E2_.nx (pl la/0x8d9f503deeeb5d5c423572788bea4d6ae0490c5afca1eeb2a9d75bb98b95878afab9c0da5cf222c377d87384d026cd73826d177200c0d3b1) P2≠E2_.O:=jn_some FG hb hred on0 (f:=760) (by decide +kernel) (by decide +kernel) (by decide +kernel)
theorem hne_r:E2_.nx (pl la/0x73eda753299d7d483339d80809a1d80553bda402fffe5bfeffffffff00000001) P2≠E2_.O:=jn_some FG hb hred on0 (f:=760) (by decide +kernel) (by decide +kernel) (by decide +kernel)
theorem hne:∀q∈la,E2_.nx (pl la/q) P2≠E2_.O:=by
 intro q hq
 simp only[la,List.mem_cons,List.mem_nil_iff,or_false] at hq
 rcases hq with rfl|rfl|rfl|rfl|rfl|rfl|rfl
 ·exact hne_13
 ·exact hne_23
 ·exact hne_2713
 ·exact hne_11953
 ·exact hne_262069
 ·exact hne_M
 ·exact hne_r
abbrev ph:=phG FG (b:=((4,4):G)) hT
theorem he_13_3:ph (E2_.nx (pl la/13) P2)≠E2_.nx 3 (E2_.nx (pl la/13) P2):=by
 rw[<-nx_mul]
 exact jn_ne FG hb hred hT on0 (f:=760) (by decide +kernel) (by decide +kernel) (by decide +kernel) (by decide +kernel) (by decide +kernel) (by decide +kernel)
theorem he_13_9:ph (E2_.nx (pl la/13) P2)≠E2_.nx 9 (E2_.nx (pl la/13) P2):=by
 rw[<-nx_mul]
 exact jn_ne FG hb hred hT on0 (f:=760) (by decide +kernel) (by decide +kernel) (by decide +kernel) (by decide +kernel) (by decide +kernel) (by decide +kernel)
theorem he:∀q∈lb,∀k,k<q->(k*k+k+1)%q=0->ph (E2_.nx (pl la/q) P2)≠E2_.nx k (E2_.nx (pl la/q) P2):=by
 intro q hq k hk h
 simp only[lb,List.mem_cons,List.mem_nil_iff,or_false] at hq
 rcases hq with rfl|rfl
 ·rcases two_rt (k1:=3) (k2:=9) pr_13 (by decide +kernel) (by decide +kernel) (by decide) (by decide) hk h with rfl|rfl
  ·exact he_13_3
  ·exact he_13_9
 ·exact absurd h (no_root pr_23 (by decide) k)
theorem ind {i j:Nat}(h:E2_.add (E2_.nx i P2) (E2_.nx j (ph (E2_.nx cc P2)))=E2_.O):pl la ∣ i/\pl lb ∣ j:=
 indep E2_ (φ:=ph) (phG_add FG hb hT) (phG_three FG hb hT) hla hlb (by decide) (by decide +kernel) (by decide +kernel) (by decide) hP hne he h
theorem hQ:E2_.nx (pl lb) (ph (E2_.nx cc P2))=E2_.O:=by
 rw[<-phi_nx E2_ (φ:=ph) (phG_add FG hb hT),<-nx_mul,show pl lb*cc=pl la by decide +kernel,hP]
 exact phi_O E2_ (φ:=ph) (phG_add FG hb hT)
theorem pp_odd:PP%2=1:=by decide +kernel
theorem pp_pos:0<PP:=by decide +kernel
theorem par {y v:Int}(hs:(y+v)%PP=0)(h:(y%PP).toNat%2=(v%PP).toNat%2):y%PP=v%PP/\y%PP=0:=by
 have y0:=Int.emod_nonneg y (Int.ne_of_gt pp_pos)
 have y1:=Int.emod_lt_of_pos y pp_pos
 have v0:=Int.emod_nonneg v (Int.ne_of_gt pp_pos)
 have v1:=Int.emod_lt_of_pos v pp_pos
 rw[Int.add_emod] at hs
 have ho:=pp_odd
 obtain⟨P,hP⟩:∃P,PP=P:=⟨_,rfl⟩
 rw[hP] at hs y0 y1 v0 v1 ho h ⊢
 obtain⟨s,hs1⟩:∃s,y%P=s:=⟨_,rfl⟩
 obtain⟨t,ht1⟩:∃s,v%P=s:=⟨_,rfl⟩
 rw[hs1,ht1] at hs
 rw[hs1] at y0 y1 h ⊢
 rw[ht1] at v0 v1 h ⊢
 by_cases hl:s+t<P
 ·rw[Int.emod_eq_of_lt (by omega) hl] at hs
  omega
 ·have e2:(s+t)%P=s+t-P:=by
   rw[<-Int.sub_emod_right,Int.emod_eq_of_lt (by omega) (by omega)]
  rw[e2] at hs
  omega
theorem opp0 {y v:Int}(hs:(y+v)%PP=0):y%PP=0↔v%PP=0:=by
 constructor
 ·intro h
  rw[Int.add_emod,h,Int.zero_add,Int.emod_emod] at hs
  exact hs
 ·intro h
  rw[Int.add_emod,h,Int.add_zero,Int.emod_emod] at hs
  exact hs
def sg (y:G):Nat:=if y.1%PP=0 then (y.2%PP).toNat%2 else (y.1%PP).toNat%2
def ix:Pt G->Nat
 |none=>0
 |some (x,y)=>1+2*((x.1%PP).toNat*PP.toNat+(x.2%PP).toNat)+sg y
theorem sg_lt (y:G):sg y<2:=by
 unfold sg
 split<;>omega
theorem ix_eq {A B:Pt G}(h:EqP FG A B):ix A=ix B:=by
 rcases A with _|⟨x,y⟩<;>rcases B with _|⟨u,v⟩
 ·rfl
 ·exact h.elim
 ·exact h.elim
 ·obtain⟨h1,h2⟩:=fg_eq.1 h.1
  obtain⟨k1,k2⟩:=fg_eq.1 h.2
  rw[ix,ix,sg,sg,h1,h2,k1,k2]
theorem ix_inj {A B:Pt G}(a:OnP FG (4,4) A)(e:OnP FG (4,4) B)(h:ix A=ix B):EqP FG A B:=by
 rcases A with _|⟨x,y⟩<;>rcases B with _|⟨u,v⟩
 ·trivial
 ·simp only[ix] at h
  omega
 ·simp only[ix] at h
  omega
 ·simp only[ix] at h
  have s1:=sg_lt y
  have s2:=sg_lt v
  have hsg:sg y=sg v:=by omega
  have hA:(x.1%PP).toNat*PP.toNat+(x.2%PP).toNat=(u.1%PP).toNat*PP.toNat+(u.2%PP).toNat:=by omega
  have x1:=Int.emod_nonneg x.1 (Int.ne_of_gt pp_pos)
  have u1:=Int.emod_nonneg u.1 (Int.ne_of_gt pp_pos)
  have x2:=Int.emod_nonneg x.2 (Int.ne_of_gt pp_pos)
  have u2:=Int.emod_nonneg u.2 (Int.ne_of_gt pp_pos)
  have x3:=Int.emod_lt_of_pos x.2 pp_pos
  have u3:=Int.emod_lt_of_pos u.2 pp_pos
  have hp:=pp_pos
  have m1:(x.2%PP).toNat=(u.2%PP).toNat:=by
   have:=congrArg (· % PP.toNat) hA
   simp only[Nat.mul_add_mod_self_right] at this
   rwa [Nat.mod_eq_of_lt (by omega),Nat.mod_eq_of_lt (by omega)] at this
  have m2:(x.1%PP).toNat=(u.1%PP).toNat:=by
   rw[m1] at hA
   exact Nat.eq_of_mul_eq_mul_right (by omega) (Nat.add_right_cancel hA)
  have hx:FG.eq x u:=fg_eq.2 ⟨by omega,by omega⟩
  refine⟨hx,?_⟩
  rcases FG.zd (slope_y FG a e hx) with h1|h1
  ·exact h1
  ·obtain⟨z1,z2⟩:(y.1+v.1)%PP=0/\(y.2+v.2)%PP=0:=h1
   unfold sg at hsg
   by_cases h0:y.1%PP=0
   ·have h0':=(opp0 z1).1 h0
    rw[if_pos h0,if_pos h0'] at hsg
    exact fg_eq.2 ⟨h0.trans h0'.symm,(par z2 hsg).1⟩
   ·rw[if_neg h0,if_neg (fun k=>h0 ((opp0 z1).2 k))] at hsg
    exact absurd (par z1 hsg).2 h0
theorem ix_lt (A:Pt G):ix A<2*(PP.toNat*PP.toNat)+1:=by
 rcases A with _|⟨x,y⟩
 ·exact Nat.succ_pos _
 ·simp only[ix]
  have s1:=sg_lt y
  have x1:=Int.emod_lt_of_pos x.1 pp_pos
  have x2:=Int.emod_lt_of_pos x.2 pp_pos
  have hp:=pp_pos
  obtain⟨P,hP⟩:∃P:Nat,PP.toNat=P:=⟨_,rfl⟩
  have k1:(x.1%PP).toNat+1<=P:=by omega
  have k2:(x.2%PP).toNat+1<=P:=by omega
  rw[hP]
  have k3:=Nat.mul_le_mul_right P k1
  rw[Nat.add_mul,Nat.one_mul] at k3
  omega
def idx (x:EG FG (4,4)):Nat:=Quotient.liftOn x (fun A=>ix A.1) (fun A B h=>ix_eq h)
theorem idx_inj (x y:EG FG (4,4))(h:idx x=idx y):x=y:=by
 obtain⟨A,a,rfl⟩:=mk_ex FG x
 obtain⟨B,e,rfl⟩:=mk_ex FG y
 exact mk_eq FG (ix_inj a e h)
theorem idx_lt (x:EG FG (4,4)):idx x<2*(PP.toNat*PP.toNat)+1:=by
 obtain⟨A,a,rfl⟩:=mk_ex FG x
 exact ix_lt A
theorem spans (x:EG FG (4,4)):∃i j,x=E2_.add (E2_.nx i P2) (E2_.nx j (ph (E2_.nx cc P2))):=
 span E2_ (by decide +kernel) (by decide +kernel) idx idx_inj idx_lt hP hQ (fun i j h=>ind h) (by decide +kernel) x
theorem of_r {x:EG FG (4,4)}(h:E2_.nx 0x73eda753299d7d483339d80809a1d80553bda402fffe5bfeffffffff00000001 x=E2_.O):∃k,x=E2_.nx k (E2_.nx 0x4fe83901ee48583e221a912f8b0ea9acd1dda8f38894b1ccfa8c6f0be60505f97ae9d5cba52a1c3527924f4356d391730e11c9fa753f2ada47b7b31c1062f P2):=
 tors E2_ (a:=pl la) (b:=pl lb) (by decide) (by decide +kernel) (by decide +kernel) hQ (fun i j h=>ind h) spans h
end Ord2
namespace Ec
set_option maxRecDepth 100000
open Go Ring
section
variable {α:Type} (F:Fd α)
theorem us_on {x y b s:α}(h:F.Z (F.sub (F.mul y y) (F.add (F.mul (F.mul x x) x) b))):F.Z (F.sub (F.mul (F.mul y (F.mul (F.mul s s) s)) (F.mul y (F.mul (F.mul s s) s))) (F.add (F.mul (F.mul (F.mul x (F.mul s s)) (F.mul x (F.mul s s))) (F.mul x (F.mul s s))) (F.mul b (F.mul (F.mul (F.mul s s) s) (F.mul (F.mul s s) s))))):=F.Z_by (fun k_=>match k_ with|0=>x|1=>y|2=>x|3=>x|4=>x|5=>x|6=>x|7=>x|8=>x|9=>b|10=>s|11=>x|12=>x|13=>x|14=>x|15=>x|16=>x|_=>x) (e:=V1*(V10*V10*V10)*(V1*(V10*V10*V10))-(V0*(V10*V10)*(V0*(V10*V10))*(V0*(V10*V10))+V9*(V10*V10*V10*(V10*V10*V10)))) (f:=V10*V10*V10*V10*V10*V10*(V1*V1-(V0*V0*V0+V9))) (by decide +kernel) (F.zm' _ h)
theorem us_on_ {x y b s:α}(h:F.Z (F.sub (F.mul (F.mul y (F.mul (F.mul s s) s)) (F.mul y (F.mul (F.mul s s) s))) (F.add (F.mul (F.mul (F.mul x (F.mul s s)) (F.mul x (F.mul s s))) (F.mul x (F.mul s s))) (F.mul b (F.mul (F.mul (F.mul s s) s) (F.mul (F.mul s s) s)))))):F.Z (F.mul (F.sub (F.mul y y) (F.add (F.mul (F.mul x x) x) b)) (F.mul (F.mul (F.mul s s) s) (F.mul (F.mul s s) s))):=F.Z_by (fun k_=>match k_ with|0=>x|1=>y|2=>x|3=>x|4=>x|5=>x|6=>x|7=>x|8=>x|9=>b|10=>s|11=>x|12=>x|13=>x|14=>x|15=>x|16=>x|_=>x) (e:=(V1*V1-(V0*V0*V0+V9))*(V10*V10*V10*(V10*V10*V10))) (f:=Cn 1*(V1*(V10*V10*V10)*(V1*(V10*V10*V10))-(V0*(V10*V10)*(V0*(V10*V10))*(V0*(V10*V10))+V9*(V10*V10*V10*(V10*V10*V10))))) (by decide +kernel) (F.zm' _ h)
theorem us_o {x1 x2 s:α}(h:F.Z (F.sub x1 x2)):F.Z (F.sub (F.mul x1 (F.mul s s)) (F.mul x2 (F.mul s s))):=F.Z_by (fun k_=>match k_ with|0=>x1|1=>x1|2=>x1|3=>x1|4=>x2|5=>x1|6=>x1|7=>x1|8=>x1|9=>x1|10=>s|11=>x1|12=>x1|13=>x1|14=>x1|15=>x1|16=>x1|_=>x1) (e:=V2*(V10*V10)-V4*(V10*V10)) (f:=V10*V10*(V2-V4)) (by decide +kernel) (F.zm' _ h)
theorem us_p {y1 y2 s:α}(h:F.Z (F.add y1 y2)):F.Z (F.add (F.mul y1 (F.mul (F.mul s s) s)) (F.mul y2 (F.mul (F.mul s s) s))):=F.Z_by (fun k_=>match k_ with|0=>y1|1=>y1|2=>y1|3=>y1|4=>y1|5=>y2|6=>y1|7=>y1|8=>y1|9=>y1|10=>s|11=>y1|12=>y1|13=>y1|14=>y1|15=>y1|16=>y1|_=>y1) (e:=V3*(V10*V10*V10)+V5*(V10*V10*V10)) (f:=V10*V10*V10*(V3+V5)) (by decide +kernel) (F.zm' _ h)
theorem us_o_ {x1 x2 s:α}(h:F.Z (F.sub (F.mul x1 (F.mul s s)) (F.mul x2 (F.mul s s)))):F.Z (F.mul (F.sub x1 x2) (F.mul s s)):=F.Z_by (fun k_=>match k_ with|0=>x1|1=>x1|2=>x1|3=>x1|4=>x2|5=>x1|6=>x1|7=>x1|8=>x1|9=>x1|10=>s|11=>x1|12=>x1|13=>x1|14=>x1|15=>x1|16=>x1|_=>x1) (e:=(V2-V4)*(V10*V10)) (f:=Cn 1*(V2*(V10*V10)-V4*(V10*V10))) (by decide +kernel) (F.zm' _ h)
theorem us_p_ {y1 y2 s:α}(h:F.Z (F.add (F.mul y1 (F.mul (F.mul s s) s)) (F.mul y2 (F.mul (F.mul s s) s)))):F.Z (F.mul (F.add y1 y2) (F.mul (F.mul s s) s)):=F.Z_by (fun k_=>match k_ with|0=>y1|1=>y1|2=>y1|3=>y1|4=>y1|5=>y2|6=>y1|7=>y1|8=>y1|9=>y1|10=>s|11=>y1|12=>y1|13=>y1|14=>y1|15=>y1|16=>y1|_=>y1) (e:=(V3+V5)*(V10*V10*V10)) (f:=Cn 1*(V3*(V10*V10*V10)+V5*(V10*V10*V10))) (by decide +kernel) (F.zm' _ h)
theorem us_c3 {x1 y1 x2 y2 l s:α}(h:F.Z (F.sub (F.sub y1 y2) (F.mul l (F.sub x1 x2)))):F.Z (F.sub (F.sub (F.mul y1 (F.mul (F.mul s s) s)) (F.mul y2 (F.mul (F.mul s s) s))) (F.mul (F.mul s l) (F.sub (F.mul x1 (F.mul s s)) (F.mul x2 (F.mul s s))))):=F.Z_by (fun k_=>match k_ with|0=>x1|1=>x1|2=>x1|3=>y1|4=>x2|5=>y2|6=>l|7=>x1|8=>x1|9=>x1|10=>s|11=>x1|12=>x1|13=>x1|14=>x1|15=>x1|16=>x1|_=>x1) (e:=V3*(V10*V10*V10)-V5*(V10*V10*V10)-V10*V6*(V2*(V10*V10)-V4*(V10*V10))) (f:=V10*V10*V10*(V3-V5-V6*(V2-V4))) (by decide +kernel) (F.zm' _ h)
theorem us_cc {x1 y1 x2 y2 l s:α}(h:F.Z (F.sub (F.mul l (F.add y1 y2)) (F.add (F.add (F.mul x1 x1) (F.mul x1 x2)) (F.mul x2 x2)))):F.Z (F.sub (F.mul (F.mul s l) (F.add (F.mul y1 (F.mul (F.mul s s) s)) (F.mul y2 (F.mul (F.mul s s) s)))) (F.add (F.add (F.mul (F.mul x1 (F.mul s s)) (F.mul x1 (F.mul s s))) (F.mul (F.mul x1 (F.mul s s)) (F.mul x2 (F.mul s s)))) (F.mul (F.mul x2 (F.mul s s)) (F.mul x2 (F.mul s s))))):=F.Z_by (fun k_=>match k_ with|0=>x1|1=>x1|2=>x1|3=>y1|4=>x2|5=>y2|6=>l|7=>x1|8=>x1|9=>x1|10=>s|11=>x1|12=>x1|13=>x1|14=>x1|15=>x1|16=>x1|_=>x1) (e:=V10*V6*(V3*(V10*V10*V10)+V5*(V10*V10*V10))-(V2*(V10*V10)*(V2*(V10*V10))+V2*(V10*V10)*(V4*(V10*V10))+V4*(V10*V10)*(V4*(V10*V10)))) (f:=V10*V10*V10*V10*(V6*(V3+V5)-(V2*V2+V2*V4+V4*V4))) (by decide +kernel) (F.zm' _ h)
theorem us_x {x1 x2 l x3 s:α}(h:F.Z (F.sub x3 (F.sub (F.sub (F.mul l l) x1) x2))):F.Z (F.sub (F.mul x3 (F.mul s s)) (F.sub (F.sub (F.mul (F.mul s l) (F.mul s l)) (F.mul x1 (F.mul s s))) (F.mul x2 (F.mul s s)))):=F.Z_by (fun k_=>match k_ with|0=>x1|1=>x1|2=>x1|3=>x1|4=>x2|5=>x1|6=>l|7=>x3|8=>x1|9=>x1|10=>s|11=>x1|12=>x1|13=>x1|14=>x1|15=>x1|16=>x1|_=>x1) (e:=V7*(V10*V10)-(V10*V6*(V10*V6)-V2*(V10*V10)-V4*(V10*V10))) (f:=V10*V10*(V7-(V6*V6-V2-V4))) (by decide +kernel) (F.zm' _ h)
theorem us_y {x1 y1 l x3 y3 s:α}(h:F.Z (F.sub y3 (F.sub (F.mul l (F.sub x1 x3)) y1))):F.Z (F.sub (F.mul y3 (F.mul (F.mul s s) s)) (F.sub (F.mul (F.mul s l) (F.sub (F.mul x1 (F.mul s s)) (F.mul x3 (F.mul s s)))) (F.mul y1 (F.mul (F.mul s s) s)))):=F.Z_by (fun k_=>match k_ with|0=>x1|1=>x1|2=>x1|3=>y1|4=>x1|5=>x1|6=>l|7=>x3|8=>y3|9=>x1|10=>s|11=>x1|12=>x1|13=>x1|14=>x1|15=>x1|16=>x1|_=>x1) (e:=V8*(V10*V10*V10)-(V10*V6*(V2*(V10*V10)-V7*(V10*V10))-V3*(V10*V10*V10))) (f:=V10*V10*V10*(V8-(V6*(V2-V7)-V3))) (by decide +kernel) (F.zm' _ h)
structure Hm {β:Type} (F':Fd β) (e:α->β):Prop where
 add:∀a b,e (F.add a b)=F'.add (e a) (e b)
 mul:∀a b,e (F.mul a b)=F'.mul (e a) (e b)
 int:∀n,e (F.int n)=F'.int n
 z:∀a,F.Z a↔F'.Z (e a)
section
variable {β:Type} {F':Fd β} {e:α->β} (hm:Hm F F' e) (s:β)
include hm
theorem Hm.sub (a b:α):e (F.sub a b)=F'.sub (e a) (e b):=by
 show e (F.add a (F.mul (F.int (-1)) b))=F'.add (e a) (F'.mul (F'.int (-1)) (e b))
 rw[hm.add,hm.mul,hm.int]
theorem Hm.eq {a b:α}:F.eq a b↔F'.eq (e a) (e b):=by
 show F.Z (F.sub a b)↔F'.Z (F'.sub (e a) (e b))
 rw[hm.z,hm.sub]
omit hm in
def utP (e:α->β)(F':Fd β)(s:β):Pt α->Pt β
 |none=>none
 |some (x,y)=>some (F'.mul (e x) (F'.mul s s),F'.mul (e y) (F'.mul (F'.mul s s) s))
theorem ut_on {b:α}{b':β}(hb:F'.eq (F'.mul (e b) (F'.mul (F'.mul (F'.mul s s) s) (F'.mul (F'.mul s s) s))) b'){A:Pt α}(h:OnP F b A):OnP F' b' (utP e F' s A):=by
 rcases A with _|⟨x,y⟩
 ·trivial
 ·have h1:F'.Z (F'.sub (F'.mul (e y) (e y)) (F'.add (F'.mul (F'.mul (e x) (e x)) (e x)) (e b))):=by
   have:=(hm.z _).1 h
   rwa [hm.sub,hm.add,hm.mul,hm.mul,hm.mul] at this
  exact F'.Z_of (F'.sub_eq (F'.refl _) (F'.add_eq (F'.refl _) hb)) (us_on F' (s:=s) h1)
theorem ut_eq {A B:Pt α}(h:EqP F A B):EqP F' (utP e F' s A) (utP e F' s B):=by
 rcases A with _|⟨x,y⟩<;>rcases B with _|⟨x',y'⟩
 ·trivial
 ·exact h.elim
 ·exact h.elim
 ·exact⟨F'.mul_eq ((hm.eq).1 h.1) (F'.refl _),F'.mul_eq ((hm.eq).1 h.2) (F'.refl _)⟩
variable (hs:¬F'.Z s)
include hs
theorem ut_opp {x1 y1 x2 y2:α}:Opp F x1 y1 x2 y2↔Opp F' (F'.mul (e x1) (F'.mul s s)) (F'.mul (e y1) (F'.mul (F'.mul s s) s)) (F'.mul (e x2) (F'.mul s s)) (F'.mul (e y2) (F'.mul (F'.mul s s) s)):=by
 have h2:¬F'.Z (F'.mul s s):=fun k=>(F'.zd k).elim hs hs
 have h3:¬F'.Z (F'.mul (F'.mul s s) s):=fun k=>(F'.zd k).elim h2 hs
 constructor
 ·intro h
  have a:=(hm.z _).1 h.1
  have c:=(hm.z _).1 h.2
  rw[hm.sub] at a
  rw[hm.add] at c
  exact⟨us_o F' a,us_p F' c⟩
 ·intro h
  have a:=(F'.zd (us_o_ F' h.1)).resolve_right h2
  have c:=(F'.zd (us_p_ F' h.2)).resolve_right h3
  rw[<-hm.sub] at a
  rw[<-hm.add] at c
  exact⟨(hm.z _).2 a,(hm.z _).2 c⟩
theorem ut_of {b:α}{b':β}(hb:F'.eq (F'.mul (e b) (F'.mul (F'.mul (F'.mul s s) s) (F'.mul (F'.mul s s) s))) b'){A:Pt α}(h:OnP F' b' (utP e F' s A)):OnP F b A:=by
 rcases A with _|⟨x,y⟩
 ·trivial
 ·have h2:¬F'.Z (F'.mul s s):=fun k=>(F'.zd k).elim hs hs
  have h3:¬F'.Z (F'.mul (F'.mul s s) s):=fun k=>(F'.zd k).elim h2 hs
  have h1:=us_on_ F' (F'.Z_of (F'.sub_eq (F'.refl _) (F'.add_eq (F'.refl _) (F'.symm hb))) h)
  have h4:=(F'.zd h1).resolve_right fun k=>(F'.zd k).elim h3 h3
  refine (hm.z _).2 ?_
  rw[hm.sub,hm.add,hm.mul,hm.mul,hm.mul]
  exact h4
omit hs in
theorem ut_slope {l x1 y1 x2 y2:α}(h:Slope F l x1 y1 x2 y2):Slope F' (F'.mul s (e l)) (F'.mul (e x1) (F'.mul s s)) (F'.mul (e y1) (F'.mul (F'.mul s s) s)) (F'.mul (e x2) (F'.mul s s)) (F'.mul (e y2) (F'.mul (F'.mul s s) s)):=by
 have a:=(hm.z _).1 h.c3
 have c:=(hm.z _).1 h.cc
 simp only[hm.sub,hm.mul,hm.add] at a c
 exact⟨us_c3 F' a,us_cc F' c⟩
theorem ut_sum {A B C:Pt α}(h:Sum F A B C):Sum F' (utP e F' s A) (utP e F' s B) (utP e F' s C):=by
 cases h with
 |zl h=>exact .zl (ut_eq F hm s h)
 |zr h=>exact .zr (ut_eq F hm s h)
 |op h=>exact .op ((ut_opp F hm s hs).1 h)
 |sl ho hl hx hy=>
  have a:=(hm.eq).1 hx
  have c:=(hm.eq).1 hy
  simp only[hm.sub,hm.mul,Xs,Ys] at a c
  exact .sl (fun k=>ho ((ut_opp F hm s hs).2 k)) (ut_slope F hm s hl) (us_x F' a) (us_y F' c)
end
end
end Ec
namespace Frob
open Go Go.RowKit Reg Base Limb Fp Fp2 Fp6 Fp12
def k0:K:=(O36,O36)
def sh (p:H)(c:Int):H:=(gk p.1 c,gk p.2.1 c,gk p.2.2 c)
def sc (p:K)(c:Int):K:=(sh p.1 c,sh p.2 c)
section
variable (p q r s:K) (x y:H) (c d:Int)
theorem gk_add (g:G):gk g (c+d)=ga (gk g c) (gk g d):=by
 apply Prod.ext<;>simp only[gk,ga]<;>grind
theorem sc_add:sc p (c+d)=ka (sc p c) (sc p d):=Prod.ext (hext (gk_add _ _ _) (gk_add _ _ _) (gk_add _ _ _)) (hext (gk_add _ _ _) (gk_add _ _ _) (gk_add _ _ _))
theorem hm_sh:hm x (sh y c)=sh (hm x y) c:=by
 obtain⟨⟨a0,a1⟩,⟨b0,b1⟩,c0,c1⟩:=x
 obtain⟨⟨d0,d1⟩,⟨e0,e1⟩,f0,f1⟩:=y
 apply hext<;>apply Prod.ext<;>simp only[hm,sh,gk,ga,gm,gx]<;>grind
theorem hv_sh:hv (sh x c)=sh (hv x) c:=by
 obtain⟨⟨a0,a1⟩,⟨b0,b1⟩,c0,c1⟩:=x
 apply hext<;>apply Prod.ext<;>simp only[hv,sh,gk,gm,gx]<;>grind
theorem ha_sh:Fp6.ha (sh x c) (sh y c)=sh (Fp6.ha x y) c:=by
 obtain⟨⟨a0,a1⟩,⟨b0,b1⟩,c0,c1⟩:=x
 obtain⟨⟨d0,d1⟩,⟨e0,e1⟩,f0,f1⟩:=y
 apply hext<;>apply Prod.ext<;>simp only[Fp6.ha,sh,gk,ga]<;>grind
theorem km_sc:km p (sc q c)=sc (km p q) c:=by
 refine Prod.ext ?_ ?_
 ·show Fp6.ha (hm p.1 (sh q.1 c)) (hv (hm p.2 (sh q.2 c)))=sh (Fp6.ha _ _) c
  rw[hm_sh,hm_sh,hv_sh,ha_sh]
 ·show Fp6.ha (hm p.1 (sh q.2 c)) (hm p.2 (sh q.1 c))=sh (Fp6.ha _ _) c
  rw[hm_sh,hm_sh,ha_sh]
theorem ka_swap:ka (ka p q) (ka r s)=ka (ka p r) (ka q s):=Prod.ext (ha_swap _ _ _ _) (ha_swap _ _ _ _)
theorem ka_k0:ka p k0=p:=ka_zero p
theorem k0_ka:ka k0 p=p:=by rw[ka_comm,ka_k0]
theorem km_k0:km p k0=k0:=by rw[km_comm];exact km_nil p
theorem sc_zero:sc p 0=k0:=by
 obtain⟨⟨⟨a0,a1⟩,⟨b0,b1⟩,c0,c1⟩,⟨d0,d1⟩,⟨e0,e1⟩,f0,f1⟩:=p
 simp[sc,sh,gk,k0,O36]
theorem sc_one:sc p 1=p:=by
 obtain⟨⟨⟨a0,a1⟩,⟨b0,b1⟩,c0,c1⟩,⟨d0,d1⟩,⟨e0,e1⟩,f0,f1⟩:=p
 simp[sc,sh,gk]
end
theorem sc_nil {z:K}{c:Int}(h:c%PP=0):E12 (sc z c) k0:=⟨⟨gk_nil h,gk_nil h,gk_nil h⟩,gk_nil h,gk_nil h,gk_nil h⟩
def bk (z:K)(n:Nat):Nat->K
 |0=>k0
 |m+1=>ka (bk z n m) (sc (kp z m) (ch n m))
theorem bk_succ (z:K)(n:Nat):∀m,bk z (n+1) (m+1)=ka (bk z n (m+1)) (km z (bk z n m))
 |0=>by
  show ka (bk z (n+1) 0) (sc (kp z 0) (ch (n+1) 0))=ka (ka (bk z n 0) (sc (kp z 0) (ch n 0))) (km z (bk z n 0))
  rw[show bk z (n+1) 0=k0 from rfl,show bk z n 0=k0 from rfl,ch_zero,ch_zero,km_k0,ka_k0]
 |m+1=>by
  rw[bk,bk_succ z n m,show bk z n (m+1+1)=ka (bk z n (m+1)) (sc (kp z (m+1)) (ch n (m+1))) from rfl,show ch (n+1) (m+1)=ch n m+ch n (m+1) from rfl,show kp z (m+1)=km (kp z m) z from rfl]
  rw[show km z (bk z n (m+1))=km z (ka (bk z n m) (sc (kp z m) (ch n m))) from rfl]
  rw[Int.natCast_add,sc_add,km_ka,km_sc,km_comm z (kp z m),ka_comm (sc _ _) (sc _ _),ka_swap]
theorem bk_pow (z:K):∀n,kp (ka z k1) n=bk z n (n+1)
 |0=>by
  rw[bk,bk,ch_zero,k0_ka]
  exact (sc_one _).symm
 |n+1=>by
  have h:bk z n (n+1+1)=bk z n (n+1):=by
   rw[show bk z n (n+1+1)=ka (bk z n (n+1)) (sc (kp z (n+1)) (ch n (n+1))) from rfl,ch_big (by omega)]
   rw[show (((0:Nat):Int))=0 from rfl,sc_zero,ka_k0]
  rw[bk_succ,h,kp,bk_pow z n,km_ka,km_one,ka_comm,km_comm z]
theorem bk_mod (z:K):∀m,m+1<=PP.toNat->E12 (bk z PP.toNat (m+1)) k1
 |0,_=>by
  have:bk z PP.toNat (0+1)=k1:=by
   rw[bk,bk,ch_zero,k0_ka]
   exact sc_one _
  rw[this]
  exact E12.rfl
 |m+1,h=>by
  have h1:=bk_mod z m (by omega)
  have h2:=ka_congr h1 (sc_nil (z:=kp z (m+1)) (ch_mod (k:=m+1) (by omega) (by omega)))
  rw[ka_k0] at h2
  exact h2
theorem dream (z:K):E12 (kp (ka z k1) PP.toNat) (ka (kp z PP.toNat) k1):=by
 rw[bk_pow]
 obtain⟨n,hn⟩:∃n,PP.toNat=n+1:=⟨PP.toNat-1,by have:=PP_nat;have:=PP_pos;omega⟩
 have h1:=bk_mod z n (by omega)
 have h2:bk z PP.toNat (PP.toNat+1)=ka (bk z PP.toNat PP.toNat) (sc (kp z PP.toNat) (ch PP.toNat PP.toNat)):=rfl
 rw[h2,ch_self]
 rw[<-hn] at h1
 have h3:=ka_congr h1 (E12.rfl (p:=sc (kp z PP.toNat) ((1:Nat):Int)))
 rw[show (((1:Nat):Int))=1 from rfl,sc_one,ka_comm k1] at h3
 rw[show (((1:Nat):Int))=1 from rfl,sc_one]
 exact h3
def ph (z:K):K:=kp z PP.toNat
theorem ph_congr {p q:K}(h:E12 p q):E12 (ph p) (ph q):=kp_congr h _
theorem ph_mul (p q:K):ph (km p q)=km (ph p) (ph q):=kp_km p q _
theorem kp_k1:∀n,kp k1 n=k1
 |0=>rfl
 |n+1=>by rw[kp,kp_k1 n,km_one]
theorem ph_zero {p:K}(h:Z12 p):Z12 (ph p):=by
 obtain⟨n,hn⟩:∃n,PP.toNat=n+1:=⟨PP.toNat-1,by have:=PP_nat;have:=PP_pos;omega⟩
 rw[ph,hn,kp,km_comm]
 exact km_zl h
theorem ph_add (p q:K):E12 (ph (ka p q)) (ka (ph p) (ph q)):=by
 by_cases hq:Z12 q
 ·have h1:=(Z12_iff _).1 hq
  have h2:=(Z12_iff _).1 (ph_zero hq)
  have h3:=ph_congr (ka_congr (E12.rfl (p:=p)) h1)
  have h4:=ka_congr (E12.rfl (p:=ph p)) h2
  rw[ka_zero] at h3 h4
  exact h3.trans h4.symm
 ·have hi':=km_ki hq
  have e1:E12 (ka p q) (km q (ka (km p (ki q)) k1)):=by
   rw[km_ka,km_one,<-km_assoc,km_comm q p,km_assoc]
   have:=km_congr (E12.rfl (p:=p)) hi'
   rw[km_one] at this
   exact ka_congr this.symm E12.rfl
  refine (ph_congr e1).trans ?_
  rw[ph_mul]
  refine (km_congr E12.rfl (dream _)).trans ?_
  rw[km_ka,km_one]
  refine ka_congr ?_ E12.rfl
  show E12 (km (ph q) (ph (km p (ki q)))) (ph p)
  rw[ph_mul,<-km_assoc,km_comm (ph q),km_assoc,<-ph_mul]
  have h5:=km_congr (E12.rfl (p:=ph p)) (ph_congr hi')
  rw[show ph k1=k1 from kp_k1 _,km_one] at h5
  exact h5
def e2 (g:G):K:=((g,(0,0),(0,0)),O36)
theorem e2_mul (g h:G):km (e2 g) (e2 h)=e2 (gm g h):=by
 obtain⟨g0,g1⟩:=g
 obtain⟨h0,h1⟩:=h
 refine Prod.ext ?_ ?_
 ·show Fp6.ha (hm _ _) (hv (hm O36 O36))=_
  rw[hm_nil,show hv O36=O36 from rfl,ha_nil]
  apply hext<;>apply Prod.ext<;>simp[e2,hm,ga,gm,gx]
 ·show Fp6.ha (hm _ O36) (hm O36 _)=O36
  rw[hm_nil,hm_nil',ha_nil]
theorem e2_pow (g:G):∀n,kp (e2 g) n=e2 (gp g n)
 |0=>rfl
 |n+1=>by rw[kp,e2_pow g n,e2_mul];rfl
theorem e2_congr {g h:G}(he:E2 g h):E12 (e2 g) (e2 h):=⟨⟨he,E2.rfl,E2.rfl⟩,E6.rfl⟩
theorem ph_e2 (g:G):E12 (ph (e2 g)) (e2 (gc g)):=by
 rw[ph,e2_pow]
 exact e2_congr (frob g)
def ww:K:=(O36,((1,0),(0,0),(0,0)))
theorem ww_six:kp ww 6=e2 (1,1):=by decide
def tt:Nat:=(PP.toNat-1)/6
theorem PP_six:PP.toNat=6*tt+1:=by decide +kernel
def gam:G:=gp (1,1) tt
theorem ph_ww:ph ww=km (e2 gam) ww:=by
 rw[ph,PP_six,kp,kp_mul,ww_six,e2_pow]
 rfl
theorem ph_pow (z:K):∀n,ph (kp z n)=kp (ph z) n
 |0=>kp_k1 _
 |n+1=>by rw[kp,ph_mul,ph_pow z n,kp]
theorem ph_wn (n:Nat):ph (kp ww n)=km (e2 (gp gam n)) (kp ww n):=by rw[ph_pow,ph_ww,kp_km,e2_pow]
theorem split (a:K):a=ka (ka (ka (e2 a.1.1) (km (e2 a.1.2.1) (kp ww 2))) (ka (km (e2 a.1.2.2) (kp ww 4)) (km (e2 a.2.1) (kp ww 1)))) (ka (km (e2 a.2.2.1) (kp ww 3)) (km (e2 a.2.2.2) (kp ww 5))):=by
 have h1:kp ww 1=ww:=kp_one _
 have h2:kp ww 2=(((0,0),(1,0),(0,0)),O36):=by decide
 have h3:kp ww 3=(O36,((0,0),(1,0),(0,0))):=by decide
 have h4:kp ww 4=(((0,0),(0,0),(1,0)),O36):=by decide
 have h5:kp ww 5=(O36,((0,0),(0,0),(1,0))):=by decide
 rw[h1,h2,h3,h4,h5]
 obtain⟨⟨⟨a0,a1⟩,⟨b0,b1⟩,c0,c1⟩,⟨d0,d1⟩,⟨e0,e1⟩,f0,f1⟩:=a
 simp[ka,km,e2,ww,Fp6.ha,hm,hv,ga,gm,gx,O36]
def fr (a:K):K:=((gc a.1.1,gm (gc a.1.2.1) (gp gam 2),gm (gc a.1.2.2) (gp gam 4)),(gm (gc a.2.1) (gp gam 1),gm (gc a.2.2.1) (gp gam 3),gm (gc a.2.2.2) (gp gam 5)))
theorem ph_term (g:G)(n:Nat):E12 (ph (km (e2 g) (kp ww n))) (km (e2 (gm (gc g) (gp gam n))) (kp ww n)):=by
 rw[ph_mul,ph_wn,<-km_assoc,<-e2_mul]
 exact km_congr (km_congr (ph_e2 g) E12.rfl) E12.rfl
theorem ph_fr (a:K):E12 (ph a) (fr a):=by
 have e:fr a=ka (ka (ka (e2 (fr a).1.1) (km (e2 (fr a).1.2.1) (kp ww 2))) (ka (km (e2 (fr a).1.2.2) (kp ww 4)) (km (e2 (fr a).2.1) (kp ww 1)))) (ka (km (e2 (fr a).2.2.1) (kp ww 3)) (km (e2 (fr a).2.2.2) (kp ww 5))):=split (fr a)
 rw[e]
 have h':E12 (ph a) (ph (ka (ka (ka (e2 a.1.1) (km (e2 a.1.2.1) (kp ww 2))) (ka (km (e2 a.1.2.2) (kp ww 4)) (km (e2 a.2.1) (kp ww 1)))) (ka (km (e2 a.2.2.1) (kp ww 3)) (km (e2 a.2.2.2) (kp ww 5))))):=by
  rw[<-split a]
  exact E12.rfl
 refine h'.trans ?_
 refine (ph_add _ _).trans (ka_congr ((ph_add _ _).trans (ka_congr ((ph_add _ _).trans (ka_congr (ph_e2 _) (ph_term _ 2))) ((ph_add _ _).trans (ka_congr (ph_term _ 4) (ph_term _ 1))))) ((ph_add _ _).trans (ka_congr (ph_term _ 3) (ph_term _ 5))))
def pn:Nat->K->K
 |0,a=>a
 |n+1,a=>ph (pn n a)
theorem pn_congr {p q:K}(h:E12 p q):∀n,E12 (pn n p) (pn n q)
 |0=>h
 |n+1=>ph_congr (pn_congr h n)
theorem pn_plus (m:Nat)(a:K):∀n,pn (m+n) a=pn n (pn m a)
 |0=>rfl
 |n+1=>by rw[<-Nat.add_assoc,pn,pn_plus m a n];rfl
def nn:Int:=2^tt
theorem gam_norm:gnorm gam=nn:=by rw[gam,Fp2r.gnorm_gp];rfl
end Frob
end Go.Proofs.YtjamcbjghffboaaGreatDoor
