/-
  Own text.
-/
import Derived.Test.YtjamcbjghffboaaGreatDoorMReg
import Derived.Test.YtjamcbjghffboaaGreatDoorMFpR
set_option linter.unusedVariables false
namespace Go.Proofs.YtjamcbjghffboaaGreatDoor
namespace Num
def Pr (p:Nat):Prop:=2<=p/\∀d,d ∣ p->d=1∨d=p
theorem Pr.coprime {p a:Nat}(h:Pr p)(ha:¬p ∣ a):Nat.Coprime a p:=by
 rcases h.2 _ (Nat.gcd_dvd_right a p) with e|e
 ·exact e
 ·exact absurd (e▸Nat.gcd_dvd_left a p) ha
theorem Pr.split {p a b:Nat}(h:Pr p)(hd:p ∣ a*b):p ∣ a∨p ∣ b:=by
 by_cases ha:p ∣ a
 ·exact .inl ha
 ·exact .inr ((h.coprime ha).symm.dvd_of_dvd_mul_left hd)
def pl:List Nat->Nat
 |[]=>1
 |x :: l=>x*pl l
theorem pl_perm {l m:List Nat}(h:l.Perm m):pl l=pl m:=by
 induction h with
 |nil=>rfl
 |cons x _ ih=>rw[pl,pl,ih]
 |swap x y l=>rw[pl,pl,pl,pl,Nat.mul_left_comm]
 |trans _ _ ih1 ih2=>rw[ih1,ih2]
theorem perm_of:∀{l m:List Nat},l.Nodup->(∀x,x∈l->x∈m)->m.length<=l.length->l.Perm m
 |[],m,_,_,h=>by
  have:m=[]:=List.eq_nil_of_length_eq_zero (by simpa using h)
  subst this
  exact .nil
 |a :: l,m,hn,hs,h=>by
  have ha:a∈m:=hs a (by simp)
  have hn':=List.nodup_cons.1 hn
  have hp:=List.perm_cons_erase ha
  refine .trans (.cons a (perm_of hn'.2 (fun x hx=>?_) ?_)) hp.symm
  ·exact (List.mem_erase_of_ne (by rintro rfl;exact hn'.1 hx)).2 (hs x (by simp[hx]))
  ·rw[List.length_erase_of_mem ha]
   simp only[List.length_cons] at h
   omega
theorem pl_coprime {p:Nat}(hp:Pr p):∀{l:List Nat},(∀x,x∈l->¬p ∣ x)->¬p ∣ pl l
 |[],_=>fun h=>by
  have:=Nat.le_of_dvd (by simp[pl]) h
  have:=hp.1
  simp[pl] at *
  omega
 |x :: l,h=>fun hd=>by
  rcases hp.split hd with e|e
  ·exact h x (by simp) e
  ·exact pl_coprime hp (fun y hy=>h y (by simp[hy])) e
theorem pl_map (a p:Nat):∀l:List Nat,pl (l.map fun x=>a*x%p)%p=a^l.length*pl l%p
 |[]=>by simp[pl]
 |x :: l=>by
  rw[List.map_cons,pl,Nat.mul_mod,Nat.mod_mod,pl_map a p l,<-Nat.mul_mod,pl,List.length_cons,Nat.pow_succ]
  congr 1
  rw[Nat.mul_mul_mul_comm,Nat.mul_comm a (a^l.length),Nat.mul_mul_mul_comm]
theorem sub_dvd {p a b:Nat}(_:b<=a)(h:a%p=b%p):p ∣ a-b:=Nat.dvd_of_mod_eq_zero (Nat.sub_mod_eq_zero_of_mod_eq h)
theorem mod_inj {p a x y:Nat}(hp:Pr p)(ha:¬p ∣ a)(hx:x<p)(hy:y<p)(hxy:y<=x)(h:a*x%p=a*y%p):x=y:=by
 have h1:=sub_dvd (Nat.mul_le_mul_left a hxy) h
 rw[<-Nat.mul_sub] at h1
 rcases hp.split h1 with e|e
 ·exact absurd e ha
 ·rcases Nat.eq_zero_or_pos (x-y) with e0|e0
  ·omega
  ·have:=Nat.le_of_dvd e0 e
   omega
theorem fermat {p a:Nat}(hp:Pr p)(ha:¬p ∣ a):a^(p-1)%p=1:=by
  obtain⟨L,hL⟩:∃L,List.range' 1 (p-1)=L:=⟨_,rfl⟩
  have hp2:=hp.1
  have hm:∀x,x∈L↔1<=x/\x<p:=fun x=>by rw[<-hL,List.mem_range'_1];omega
  have hlen:L.length=p-1:=by rw[<-hL,List.length_range']
  have hnd:L.Nodup:=hL▸List.nodup_range' (step:=1) (by omega)
  have hno:∀x,x∈L->¬p ∣ x:=fun x hx hd=>by
    have:=(hm x).1 hx
    have:=Nat.le_of_dvd (by omega) hd
    omega
  have hmap:(L.map fun x=>a*x%p).Perm L:=by
    refine perm_of ?_ (fun x hx=>?_) (by simp)
    · rw[List.Nodup,List.pairwise_map]
      refine List.Pairwise.imp_of_mem ?_ hnd
      intro x y hx hy hne h
      have h1:=(hm x).1 hx
      have h2:=(hm y).1 hy
      rcases Nat.le_total y x with e|e
      · exact hne (mod_inj hp ha h1.2 h2.2 e h)
      · exact hne (mod_inj hp ha h2.2 h1.2 e h.symm).symm
    · obtain⟨y,hy,rfl⟩:=List.mem_map.1 hx
      have hlt:=Nat.mod_lt (a*y) (show p>0 by omega)
      refine (hm _).2 ⟨?_,hlt⟩
      rcases Nat.eq_zero_or_pos (a*y%p) with e|e
      · rcases hp.split (Nat.dvd_of_mod_eq_zero e) with e|e
        · exact absurd e ha
        · exact absurd e (hno y hy)
      · exact e
  have h:=pl_map a p L
  rw[pl_perm hmap,hlen] at h
  have hc:=pl_coprime hp hno
  have h1:0<a^(p-1):=Nat.pow_pos (Nat.pos_of_ne_zero fun e=>ha (e▸Nat.dvd_zero p))
  have h2 := sub_dvd (by conv=>lhs;rw[<-Nat.one_mul (pl L)]
                         exact Nat.mul_le_mul_right _ h1) h.symm
  rw[<-Nat.sub_one_mul] at h2
  rcases hp.split h2 with e|e
  · obtain⟨k,hk⟩:=e
    have:a^(p-1)=1+p*k:=by omega
    rw[this,Nat.add_mul_mod_self_left,Nat.mod_eq_of_lt (by omega)]
  · exact absurd e hc
theorem pow_mod_one {l x:Nat}(hl:1%l=1)(k:Nat)(h:x%l=1):x^k%l=1:=by rw[Nat.pow_mod,h,Nat.one_pow,hl]
theorem pow_gcd {l x:Nat}(hl:1%l=1)(s t:Nat):x^s%l=1->x^t%l=1->x^Nat.gcd s t%l=1:=by
 induction s,t using Nat.gcd.induction with
 |H0 n=>intro _ h;rwa [Nat.gcd_zero_left]
 |H1 m n _ ih=>
  intro hm hn
  rw[Nat.gcd_rec]
  refine ih ?_ hm
  rw[<-Nat.div_add_mod n m,Nat.pow_add,Nat.pow_mul,Nat.mul_mod,pow_mod_one hl _ hm,Nat.one_mul,Nat.mod_mod] at hn
  exact hn
theorem least {P:Nat->Prop}:∀n,P n->∃m,P m/\∀k,k<m->¬P k:=by
 intro n
 induction n using Nat.strongRecOn with
 |ind n ih=>
  intro h
  by_cases he:∃k,k<n/\P k
  ·obtain⟨k,hk,hp⟩:=he
   exact ih k hk hp
  ·exact⟨n,h,fun k hk hp=>he ⟨k,hk,hp⟩⟩
theorem least_prime {n:Nat}(hn:2<=n):∃l,Pr l/\l ∣ n/\∀d,d ∣ n->2<=d->l<=d:=by
 obtain⟨l,⟨h2,hd⟩,hm⟩:=least (P:=fun d=>2<=d/\d ∣ n) n ⟨hn,Nat.dvd_refl n⟩
 refine⟨l,⟨h2,fun d hdl=>?_⟩,hd,fun d hdn hd2=>Nat.le_of_not_lt fun h=>hm d h ⟨hd2,hdn⟩⟩
 have h0:=Nat.le_of_dvd (by omega) hdl
 have h1:0<d:=Nat.pos_of_dvd_of_pos hdl (by omega)
 rcases Nat.lt_or_ge d l with h|h
 ·left
  have:=hm d h
  have hdn:=Nat.dvd_trans hdl hd
  by_cases h3:2<=d
  ·exact absurd ⟨h3,hdn⟩ this
  ·omega
 ·right;omega
theorem order_dvd {n q c l:Nat}(hq:Pr q)(hc:c^q%n=1)(hg:Nat.gcd (c-1) n=1)(hl:Pr l)(hd:l ∣ n):q ∣ l-1:=by
 have h1:1%l=1:=Nat.mod_eq_of_lt hl.1
 have hcl:c^q%l=1:=by rw[<-Nat.mod_mod_of_dvd _ hd,hc,h1]
 have hnc:¬l ∣ c:=fun h=>by
  have h3:l ∣ c^q:=by
   have:=hq.1
   obtain⟨z,rfl⟩:∃z,q=z+1:=⟨q-1,by omega⟩
   rw[Nat.pow_succ]
   exact Nat.dvd_trans h (Nat.dvd_mul_left c _)
  have:=Nat.mod_eq_zero_of_dvd h3
  omega
 have hf:=fermat hl hnc
 by_cases h:q ∣ l-1
 ·exact h
 ·have hco:=(hq.coprime h).symm
  have h2:=pow_gcd h1 q (l-1) hcl hf
  rw[hco.gcd_eq_one,Nat.pow_one] at h2
  have h3:l ∣ c-1:=Nat.dvd_of_mod_eq_zero (Nat.sub_mod_eq_zero_of_mod_eq (h2.trans h1.symm))
  have h4:=Nat.dvd_gcd h3 hd
  rw[hg] at h4
  have:=Nat.le_of_dvd (by omega) h4
  have:=hl.1
  omega
theorem pock {n q c:Nat}(K:Nat)(hn:2<=n)(hq:Pr q)(hc:c^q%n=1)(hg:Nat.gcd (c-1) n=1)(hs:∀k,k<K->n%(1+(k+1)*q)≠0)(hK:n<(1+(K+1)*q)*(1+(K+1)*q)):Pr n:=by
 obtain⟨l,hl,hd,hm⟩:=least_prime hn
 obtain⟨k,hk⟩:=order_dvd hq hc hg hl hd
 have hl2:=hl.1
 have hq2:=hq.1
 have hlk:l=1+k*q:=by rw[Nat.mul_comm];omega
 have hk0:k≠0:=by rintro rfl;omega
 refine⟨hn,fun d hdn=>?_⟩
 by_cases h1:d=1
 ·exact .inl h1
 ·right
  obtain⟨e,he⟩:=hdn
  by_cases h2:e=1
  ·rw[he,h2,Nat.mul_one]
  ·exfalso
   have hd0:d≠0:=by rintro rfl;omega
   have he0:e≠0:=by rintro rfl;omega
   have a1:=hm d ⟨e,he⟩ (by omega)
   have a2:=hm e ⟨d,by rw[he,Nat.mul_comm]⟩ (by omega)
   have a3:=Nat.mul_le_mul a1 a2
   rw[<-he] at a3
   have hkK:k<K+1:=by
    refine Nat.lt_of_not_le fun h=>?_
    have a4:1+(K+1)*q<=l:=by rw[hlk];exact Nat.add_le_add_left (Nat.mul_le_mul_right q h) 1
    have a5:=Nat.mul_le_mul a4 a4
    omega
   refine hs (k-1) (by omega) ?_
   rw[show k-1+1=k by omega,<-hlk]
   exact Nat.mod_eq_zero_of_dvd hd
def pm:Nat->Nat->Nat->Nat->Nat->Nat
 |0,_,_,_,acc=>acc
 |f+1,b,e,n,acc=>pm f (b*b%n) (e/2) n (if e%2=1 then acc*b%n else acc)
theorem pm_eq:∀(f b e n acc:Nat),e<2^f->pm f b e n acc%n=acc*b^e%n
 |0,b,e,n,acc,h=>by
  obtain rfl:e=0:=by simp at h;omega
  simp[pm]
 |f+1,b,e,n,acc,h=>by
  rw[pm,pm_eq f _ _ _ _ (by rw[Nat.pow_succ] at h;omega)]
  have h1:b^e=(b*b)^(e/2)*b^(e%2):=by
   rw[<-Nat.pow_two,<-Nat.pow_mul,<-Nat.pow_add,Nat.div_add_mod]
  rw[h1]
  rcases Nat.mod_two_eq_zero_or_one e with h2|h2
  ·rw[if_neg (by omega),h2,Nat.pow_zero,Nat.mul_one,Nat.mul_mod,<-Nat.pow_mod,<-Nat.mul_mod]
  ·rw[if_pos h2,h2,Nat.pow_one,Nat.mul_mod,Nat.mod_mod,<-Nat.pow_mod,<-Nat.mul_mod]
   congr 1
   rw[Nat.mul_assoc,Nat.mul_comm b]
theorem pow_of_pm {f c q n:Nat}(hq:q<2^f)(h:pm f c q n 1%n=1):c^q%n=1:=by rw[<-h,pm_eq f c q n 1 hq,Nat.one_mul]
theorem pock_pm {n q c:Nat}(K f:Nat)(hn:2<=n)(hq:Pr q)(hf:q<2^f)(hc:pm f c q n 1%n=1)(hg:Nat.gcd (c-1) n=1)(hs:∀k,k<K->n%(1+(k+1)*q)≠0)(hK:n<(1+(K+1)*q)*(1+(K+1)*q)):Pr n:=
 pock K hn hq (pow_of_pm hf hc) hg hs hK
def nod (n:Nat):Nat->Bool
 |0=>true
 |k+1=>n%(k+2) != 0&&nod n k
theorem nod_ok {n:Nat}:∀{k:Nat},nod n k=true->∀d,2<=d->d<=k+1->¬d ∣ n
 |0,_=>fun d h1 h2=>by omega
 |k+1,h=>fun d h1 h2 hd=>by
  rw[nod,Bool.and_eq_true,bne_iff_ne] at h
  rcases Nat.lt_or_ge d (k+2) with e|e
  ·exact nod_ok h.2 d h1 (by omega) hd
  ·obtain rfl:d=k+2:=by omega
   exact h.1 (Nat.mod_eq_zero_of_dvd hd)
theorem pr_small {n:Nat}(k:Nat)(hn:2<=n)(h:nod n k=true)(hk:n<(k+2)*(k+2)):Pr n:=by
 obtain⟨l,hl,hd,hm⟩:=least_prime hn
 refine⟨hn,fun d hdn=>?_⟩
 by_cases h1:d=1
 ·exact .inl h1
 ·right
  obtain⟨e,he⟩:=hdn
  by_cases h2:e=1
  ·rw[he,h2,Nat.mul_one]
  ·exfalso
   have hd0:d≠0:=by rintro rfl;omega
   have he0:e≠0:=by rintro rfl;omega
   have a1:=hm d ⟨e,he⟩ (by omega)
   have a2:=hm e ⟨d,by rw[he,Nat.mul_comm]⟩ (by omega)
   have a3:=Nat.mul_le_mul a1 a2
   rw[<-he] at a3
   rcases Nat.lt_or_ge l (k+2) with b|b
   ·exact nod_ok h l hl.1 (by omega) hd
   ·have a5:=Nat.mul_le_mul b b
    omega
end Num
namespace Num
theorem pr_421987:Pr 421987:=pr_small 648 (by decide) (by decide +kernel) (by decide)
theorem pr_13090036741:Pr 13090036741:=
 pock_pm (q:=421987) (c:=9676538530) 0 19 (by decide +kernel) pr_421987 (by decide +kernel) (by decide +kernel) (by decide +kernel) (fun k hk=>absurd hk (by omega)) (by decide +kernel)
theorem pr_3819663927398918131021:Pr 3819663927398918131021:=
 pock_pm (q:=13090036741) (c:=2236669622039346762846) 4 34 (by decide +kernel) pr_13090036741 (by decide +kernel) (by decide +kernel) (by decide +kernel) (by decide +kernel) (by decide +kernel)
theorem pr_1125266252156850182658904441386709967:Pr 0xd8b7e8de605a60610129ea5e2033cf:=
 pock_pm (q:=3819663927398918131021) (c:=0x6d9a8377f7563a7c7b44755d7fe0af) 0 72 (by decide +kernel) pr_3819663927398918131021 (by decide +kernel) (by decide +kernel) (by decide +kernel) (fun k hk=>absurd hk (by omega)) (by decide +kernel)
theorem pr_15778400344354997994418419698270088123916926905054652752758194827714659:Pr 0x24940de9050250a366a091851a9a9b1c0b6ebd56195f3b017baa5e86063:=
 pock_pm (q:=0xd8b7e8de605a60610129ea5e2033cf) (c:=0x15af21e7a0f0214142253d911b04e373c37260b87cffc508145a2d9a85) 0 120 (by decide +kernel) pr_1125266252156850182658904441386709967 (by decide +kernel) (by decide +kernel) (by decide +kernel) (fun k hk=>absurd hk (by omega)) (by decide +kernel)
theorem pr_p:Pr 0x1a0111ea397fe69a4b1ba7b6434bacd764774b84f38512bf6730d2a0f6b0f6241eabfffeb153ffffb9feffffffffaaab:=
 pock_pm (q:=0x24940de9050250a366a091851a9a9b1c0b6ebd56195f3b017baa5e86063) (c:=0x19104cd3b84181c4989f7b60a5cf9e05b9604bad17125454d2b277120cd40d23c4644fd48e0328ec44f10f2c3612fad6) 0 234 (by decide +kernel) pr_15778400344354997994418419698270088123916926905054652752758194827714659 (by decide +kernel) (by decide +kernel) (by decide +kernel) (fun k hk=>absurd hk (by omega)) (by decide +kernel)
end Num
namespace Num
theorem pow_rest (x n:Int):∀k:Nat,x^k%n=(x%n)^k%n
 |0=>by rw[Int.pow_zero,Int.pow_zero]
 |k+1=>by rw[Int.pow_succ,Int.pow_succ,Int.mul_emod,pow_rest x n k,<-Int.mul_emod,Int.mul_emod,Int.mul_emod ((x%n)^k) (x%n),Int.emod_emod]
theorem int_fermat {p:Nat}(hp:Pr p){x:Int}(hx:x%p≠0):x^(p-1)%p=1:=by
 have h2:=hp.1
 have h0:0<=x%p:=Int.emod_nonneg _ (by omega)
 have h1:x%p<p:=Int.emod_lt_of_pos _ (by omega)
 obtain⟨a,ha⟩:=Int.eq_ofNat_of_zero_le h0
 rw[pow_rest,ha]
 have hna:¬p ∣ a:=fun h=>by
  have:=Nat.le_of_dvd (by omega) h
  omega
 have h:=fermat hp hna
 rw[<-Int.natCast_pow,<-Int.natCast_emod,h]
 rfl
theorem int_inverse {p:Nat}(hp:Pr p){x:Int}(hx:x%p≠0):x*x^(p-2)%p=1:=by
 have h2:=hp.1
 have h:=int_fermat hp hx
 obtain⟨k,rfl⟩:∃k,p=k+2:=⟨p-2,by omega⟩
 rw[show k+2-1=k+1 by omega,Int.pow_succ,Int.mul_comm] at h
 exact h
theorem int_split {p:Nat}(hp:Pr p){x y:Int}(h:x*y%p=0):x%p=0∨y%p=0:=by
 by_cases hx:x%p=0
 ·exact .inl hx
 ·right
  have h1:=int_inverse hp hx
  have h2:x^(p-2)*(x*y)%p=0:=by rw[Int.mul_emod,h,Int.mul_zero,Int.zero_emod]
  rw[<-Int.mul_assoc,Int.mul_comm (x^(p-2)),Int.mul_emod,h1,Int.one_mul,Int.emod_emod] at h2
  exact h2
end Num
namespace Fp
open Go Go.RowKit Reg Base Limb Num
theorem PP_prime:∃p:Nat,Pr p/\PP=(p:Int):=⟨_,pr_p,by decide +kernel⟩
theorem pw_inverse {x:Int}(hx:x%PP≠0):x*pw x (PP-2)%PP=1:=by
 obtain⟨p,hp,e⟩:=PP_prime
 rw[e] at hx ⊢
 have h2:=hp.1
 rw[pw,show ((p:Int)-2).toNat=p-2 by omega]
 exact int_inverse hp hx
theorem pw_fermat {x:Int}(hx:x%PP≠0):pw x (PP-1)%PP=1:=by
 obtain⟨p,hp,e⟩:=PP_prime
 rw[e] at hx ⊢
 have h2:=hp.1
 rw[pw,show ((p:Int)-1).toNat=p-1 by omega]
 exact int_fermat hp hx
theorem PP_split {x y:Int}(h:x*y%PP=0):x%PP=0∨y%PP=0:=by
 obtain⟨p,hp,e⟩:=PP_prime
 rw[e] at h ⊢
 exact int_split hp h
theorem fe_inverse {x:Int}(hx:x%PP≠0):fe (x*pw x (PP-2))=fe 1:=fe_congr ((pw_inverse hx).trans (by decide +kernel))
theorem fe_fermat {x:Int}(hx:x%PP≠0):fe (pw x (PP-1))=fe 1:=fe_congr ((pw_fermat hx).trans (by decide +kernel))
theorem pw_nought {x:Int}(hx:x%PP=0){e:Int}(he:0<e):pw x e%PP=0:=by
 obtain⟨k,hk⟩:∃k,e.toNat=k+1:=⟨e.toNat-1,by omega⟩
 rw[pw,hk,Int.pow_succ,Int.mul_emod,hx,Int.mul_zero,Int.zero_emod]
end Fp
namespace Fp
open Go Go.RowKit Reg Base Limb Num
theorem neg_out (y:Int):-(y%PP)=-y+PP*(y/PP):=by
 have:=Int.mul_ediv_add_emod y PP
 omega
theorem fe_addl (x y:Int):fe (num (fe x)+y)=fe (x+y):=fe_congr (by rw[num_fe,Int.emod_add_emod])
theorem fe_addr (x y:Int):fe (x+num (fe y))=fe (x+y):=by rw[Int.add_comm,fe_addl,Int.add_comm]
theorem fe_neg (y:Int):fe (-num (fe y))=fe (-y):=fe_congr (by rw[num_fe,neg_out,Int.add_mul_emod_self_left])
theorem fe_subl (x y:Int):fe (num (fe x)-y)=fe (x-y):=by rw[Int.sub_eq_add_neg,fe_addl,<-Int.sub_eq_add_neg]
theorem fe_subr (x y:Int):fe (x-num (fe y))=fe (x-y):=by
 rw[Int.sub_eq_add_neg,<-fe_addr,fe_neg,fe_addr,<-Int.sub_eq_add_neg]
theorem fe_mull (x y:Int):fe (num (fe x)*y)=fe (x*y):=fe_congr (by rw[num_fe,Int.mul_emod,Int.emod_emod,<-Int.mul_emod])
theorem fe_mulr (x y:Int):fe (x*num (fe y))=fe (x*y):=by rw[Int.mul_comm,fe_mull,Int.mul_comm]
theorem fe_zero_iff (x:Int):fe x=fe 0↔x%PP=0:=by
 refine⟨fun h=>?_,fun h=>fe_congr (by rw[h];rfl)⟩
 have:=fe_inj h
 rwa [Int.zero_emod] at this
theorem num_one:num [1,0,0,0,0,0]=1:=by decide +kernel
theorem pw_congr {x y:Int}(h:x%PP=y%PP):∀n:Nat,x^n%PP=y^n%PP
 |0=>by rw[Int.pow_zero,Int.pow_zero]
 |n+1=>by rw[Int.pow_succ,Int.pow_succ,Int.mul_emod,pw_congr h n,h,<-Int.mul_emod]
theorem fe_pw (x e:Int):fe (pw (num (fe x)) e)=fe (pw x e):=fe_congr (pw_congr (by rw[num_fe,Int.emod_emod]) _)
theorem fe_pw_p (x:Int):fe (pw x PP)=fe x:=by
 have e:pw x PP=x*pw x (PP-1):=by
  have h:=pw_add (x:=x) (a:=1) (b:=PP-1) (by decide) (by have:=PP_pos;omega)
  rw[pw_one] at h
  rw[<-h]
  congr 1
 by_cases hx:x%PP=0
 ·refine fe_congr ?_
  rw[hx]
  exact pw_nought hx PP_pos
 ·have h:=fe_fermat hx
  have h2:fe (x*num (fe (pw x (PP-1))))=fe (x*num (fe 1)):=by rw[h]
  rw[fe_mulr,fe_mulr,Int.mul_one] at h2
  rw[e,h2]
theorem fe_inv_zero {x:Int}(hx:x%PP=0):fe (pw x (PP-2))=fe 0:=(fe_zero_iff _).2 (pw_nought hx (by decide +kernel))
end Fp

namespace Fp
open Go Go.RowKit Reg Base Limb Bits
theorem eq6 (l:List Int)(h:l.length=6):∀w:World,(Op.equalIn 10000 24 (.agg (vals .u64 l)) (.agg (vals .u64 l))).run Tryz.prog w=.ok true w:=fun w=>by
 rw[equalIn_vals (d:=9998) Tryz.underlying24 Tryz.underlying22 (by kernel_rfl) (by kernel_rfl) h h]
 simp
theorem eq6_ne (u v:List Int)(hu:u.length=6)(hv:v.length=6)(h:u≠v):∀w:World,(Op.equalIn 10000 24 (.agg (vals .u64 u)) (.agg (vals .u64 v))).run Tryz.prog w=.ok false w:=fun w=>by
 rw[equalIn_vals (d:=9998) Tryz.underlying24 Tryz.underlying22 (by kernel_rfl) (by kernel_rfl) hu hv]
 simp[h]
theorem gd6:Tryz.prog.eqGuardType Tryz.prog.depth 24=false:=by kernel_rfl
end Fp
end Go.Proofs.YtjamcbjghffboaaGreatDoor
