/-
  Own text.
-/
import Derived.Test.YtfjiinaekcibhaaGreatDoorMS15
import Derived.Test.YtfjiinaekcibhaaGreatDoorMP
import Derived.Test.YtfjiinaekcibhaaGreatDoorM14
import Derived.Test.YtfjiinaekcibhaaGreatDoorMSy
import Derived.Test.YtfjiinaekcibhaaGreatDoorMFr
import Derived.Test.YtfjiinaekcibhaaGreatDoorSxR
import Derived.Test.YtfjiinaekcibhaaGreatDoorMRegT
import Derived.Test.YtfjiinaekcibhaaGreatDoorMCa
set_option linter.unusedVariables false
set_option linter.unusedSectionVars false
set_option linter.unusedSimpArgs false
namespace Go.Proofs.YtfjiinaekcibhaaGreatDoor
namespace S16M
set_option maxRecDepth 100000
open Go Reg Base Ring Ab Ec Fp Fp2 Fp6 Fp12 Frob Pk Pts Limb S15D
theorem lk_congr {s s':Fp2.G}(h:E2 s s')(x y:Fp2.G)(p q:Int):E12 (LK s x y p q) (LK s' x y p q):=⟨⟨gs_congr (gm_congr h E2.rfl) E2.rfl,gn_congr (gk_congr h rfl),E2.rfl⟩,E6.rfl⟩
section
variable {x y z:List Int} {b c:Bool}
theorem ln_k {s:List Int}{l:Fp2.G}(h:E2 (v2 s) l)(x z:List Int):FK.eq (v12 (lnW s x z)) (LK l (v2 (seg 0 12 x)) (v2 (seg 12 12 x)) (num (seg 0 6 z)) (num (seg 6 6 z))):=
 fk_eq.2 ((v12_F12 _).trans (lk_congr h _ _ _ _))
theorem st_k:FK.eq (v12 (stW x b y c z false)) (stK (num (seg 0 6 z)) (num (seg 6 6 z)) (ptv G2K.K2 x b) (ptv G2K.K2 y c)):=by
 cases b
 ·cases c
  ·rw[ptv_f,ptv_f]
   show FK.eq _ (if FG.Z (FG.sub (v2 (seg 0 12 x)) (v2 (seg 0 12 y))) then (if FG.Z (FG.sub (v2 (seg 12 12 x)) (v2 (seg 12 12 y)))∧¬FG.Z (v2 (seg 12 12 x)) then LK (slT FG (v2 (seg 0 12 x)) (v2 (seg 12 12 x))) (v2 (seg 0 12 x)) (v2 (seg 12 12 x)) (num (seg 0 6 z)) (num (seg 6 6 z)) else VK (v2 (seg 0 12 x)) (num (seg 0 6 z))) else LK (slC FG (v2 (seg 0 12 x)) (v2 (seg 12 12 x)) (v2 (seg 0 12 y)) (v2 (seg 12 12 y))) (v2 (seg 0 12 x)) (v2 (seg 12 12 x)) (num (seg 0 6 z)) (num (seg 6 6 z)))
   have hs:sl x y=if wr G2K.K2 (seg 0 12 x)=wr G2K.K2 (seg 0 12 y) then (if wr G2K.K2 (seg 12 12 x)=wr G2K.K2 (seg 12 12 y)∧¬wr G2K.K2 (seg 12 12 x)=G2K.c0 then (slTw G2K.K2 G2K.c2 G2K.c3 (wr G2K.K2 (seg 0 12 x)) (wr G2K.K2 (seg 12 12 x)),true) else (List.replicate 12 0,false)) else (slCw G2K.K2 (wr G2K.K2 (seg 0 12 x)) (wr G2K.K2 (seg 12 12 x)) (wr G2K.K2 (seg 0 12 y)) (wr G2K.K2 (seg 12 12 y)),true):=rfl
   by_cases hx:wr G2K.K2 (seg 0 12 x)=wr G2K.K2 (seg 0 12 y)
   ·rw[if_pos hx] at hs
    have hx':FG.Z (FG.sub (v2 (seg 0 12 x)) (v2 (seg 0 12 y))):=G2K.K2.eq_wo hx
    rw[if_pos hx']
    by_cases hy:wr G2K.K2 (seg 12 12 x)=wr G2K.K2 (seg 12 12 y)∧¬wr G2K.K2 (seg 12 12 x)=G2K.c0
    ·rw[if_pos hy] at hs
     have hy':FG.Z (FG.sub (v2 (seg 12 12 x)) (v2 (seg 12 12 y)))∧¬FG.Z (v2 (seg 12 12 x)):=⟨G2K.K2.eq_wo hy.1,fun e=>hy.2 (((wo_z G2K.K2).2 e).trans G2K.h0)⟩
     rw[if_pos hy',st_ln (by rw[hs]),hs]
     refine ln_k ?_ x z
     rw[slT_ok G2K.K2 G2K.h2 G2K.h3]
     exact v2_F2 _
    ·rw[if_neg hy] at hs
     have hy':¬(FG.Z (FG.sub (v2 (seg 12 12 x)) (v2 (seg 12 12 y)))∧¬FG.Z (v2 (seg 12 12 x))):=fun k=>hy ⟨G2K.K2.wo_eq k.1,fun e=>k.2 ((wo_z G2K.K2).1 (e.trans G2K.h0.symm))⟩
     rw[if_neg hy',st_vt (by rw[hs])]
     exact fk_eq.2 (v12_F12 _)
   ·rw[if_neg hx] at hs
    have hx':¬FG.Z (FG.sub (v2 (seg 0 12 x)) (v2 (seg 0 12 y))):=fun k=>hx (G2K.K2.wo_eq k)
    rw[if_neg hx',st_ln (by rw[hs]),hs]
    refine ln_k ?_ x z
    rw[slC_ok]
    exact v2_F2 _
  ·rw[st_one rfl,ptv_t,ptv_f,v12_O72]
   exact FK.refl _
 ·rw[st_one (by cases c<;>rfl),ptv_t,v12_O72]
  exact FK.refl _
end
def nk:Nat→Nat
 |0=>1
 |k+1=>if bt k=true then nk k+nk k+1 else nk k+nk k
theorem nk_63:nk 63=xx:=by decide +kernel
theorem gcd_r:Nat.gcd 2 52435875175126190479447740508185965837690552500527637822603658699938581184513=1:=by decide +kernel
section
variable {x y:List Int} {q0:OnP FG (4,4) (ptv G2K.K2 y false)} (hx:num (seg 0 6 x)%PP≠0) (hy:num (seg 6 6 x)%PP≠0) (hP:On FK (FK.int 4) (e2 (num (seg 0 6 x),0)) (e2 (num (seg 6 6 x),0)))
noncomputable abbrev hh (x:List Int):EG FG (4,4)→EG FG (4,4)→UT FK:=hq NN (num (seg 0 6 x)) (num (seg 6 6 x))
theorem on_vo {T:Pt Fp2.G}(a:OnP FG (4,4) T):OnP FG (4,4) (vo G2K.K2 T):=onP_eq FG (eqP_symm FG (ptv_out G2K.K2 T)) a
theorem mk_vo {T:Pt Fp2.G}(a:OnP FG (4,4) T):mk FG (vo G2K.K2 T) (on_vo a)=mk FG T a:=mk_eq FG (ptv_out G2K.K2 T)
include hx hy
theorem st_ne {u v:List Int}{b c:Bool}:¬FK.Z (v12 (stW u b v c x false)):=fun h=>stK_ne hx hy (ptv G2K.K2 u b) (ptv G2K.K2 v c) (FK.Z_of (st_k (x:=u) (y:=v) (z:=x) (b:=b) (c:=c)) h)
theorem st_cl {u v:List Int}{b c:Bool}(a:OnP FG (4,4) (ptv G2K.K2 u b))(e:OnP FG (4,4) (ptv G2K.K2 v c)):cl FK NN (v12 (stW u b v c x false))=hh x (mk FG _ a) (mk FG _ e):=by
 rw[(cl_cls FK NN).eq st_k]
 exact stK_cl (N':=_) rfl NN_r gcd_r hx hy a e
theorem mu_cl {f l:List Int}(hf:¬FK.Z (v12 f))(hl:¬FK.Z (v12 l)):¬FK.Z (v12 (muW f l))∧cl FK NN (v12 (muW f l))=(ug FK).add (cl FK NN (v12 f)) (cl FK NN (v12 l)):=by
 have e:FK.eq (v12 (muW f l)) (FK.mul (v12 f) (v12 l)):=fk_eq.2 (v12_F12 _)
 exact⟨fun h=>mul_ne FK hf hl (FK.Z_of e h),by rw[(cl_cls FK NN).eq e,(cl_cls FK NN).mul hf hl]⟩
include hP
theorem ml_cl:∀k,∃a:OnP FG (4,4) (ml x y k).2,mk FG _ a=E2g.nx (nk k) (mk FG _ q0)∧¬FK.Z (v12 (ml x y k).1)∧cl FK NN (v12 (ml x y k).1)=chn E2g (ug FK) (hh x) (nk k) (mk FG _ q0)
 |0=>by
  refine⟨q0,(nx_one E2g _).symm,?_,?_⟩
  ·show ¬FK.Z (v12 O72)
   rw[v12_O72]
   exact one_ne FK
  ·show cl FK NN (v12 O72)=(ug FK).add (ug FK).O (hh x E2g.O _)
   have e0:hh x E2g.O (mk FG _ q0)=(ug FK).O:=hq_0 hy _
   rw[v12_O72,e0,(ug FK).zero]
   exact cl_one (N':=_) rfl
 |k+1=>by
  obtain⟨a,h1,h2,h3⟩:=ml_cl k
  have a2:OnP FG (4,4) (addP FG (vo G2K.K2 (ml x y k).2) (vo G2K.K2 (ml x y k).2)):=add_on FG (on_vo a) (on_vo a)
  have m2:mk FG _ a2=E2g.nx (nk k+nk k) (mk FG _ q0):=by
   rw[nx_add,←h1,←mk_vo a]
   exact (add_mk FG (add_sum FG (on_vo a) (on_vo a))).symm
  have s1:=st_cl hx hy (on_vo a) (on_vo a)
  rw[mk_vo a,h1] at s1
  obtain⟨u1,u2⟩:=mu_cl hx hy h2 h2
  obtain⟨f1,f2⟩:=mu_cl hx hy u1 (st_ne hx hy (u:=ptW G2K.K2 (ml x y k).2) (b:=ptB (ml x y k).2) (v:=ptW G2K.K2 (ml x y k).2) (c:=ptB (ml x y k).2))
  rw[u2,h3,s1] at f2
  have c2:=chn_add E2g (ug FK) (h:=hh x) (fun p=>hq_0 hy p) (fun p q=>hq_c hy p q) (fun p q r=>hq_h (N':=_) rfl hx hy hP p q r) (nk k) (mk FG _ q0) (nk k)
  rw[←c2] at f2
  cases hb:bt k
  ·rw[ml_f hb,show nk (k+1)=nk k+nk k from if_neg (by rw[hb];decide)]
   exact⟨a2,m2,f1,f2⟩
  ·rw[ml_t hb,show nk (k+1)=nk k+nk k+1 from if_pos hb]
   have s2:=st_cl hx hy (on_vo a2) q0
   rw[mk_vo a2,m2] at s2
   obtain⟨g1,g2⟩:=mu_cl hx hy f1 (st_ne hx hy (u:=ptW G2K.K2 (addP FG (vo G2K.K2 (ml x y k).2) (vo G2K.K2 (ml x y k).2))) (b:=ptB (addP FG (vo G2K.K2 (ml x y k).2) (vo G2K.K2 (ml x y k).2))) (v:=y) (c:=false))
   rw[f2,s2] at g2
   refine⟨add_on FG (on_vo a2) q0,?_,g1,g2⟩
   have e:=add_mk FG (a:=on_vo a2) (e:=q0) (c:=add_on FG (on_vo a2) q0) (add_sum FG (on_vo a2) q0)
   rw[mk_vo a2,m2] at e
   exact e.symm
end
end S16M
namespace S16V
set_option maxRecDepth 100000
open Go Reg Base Ring Ab Ec Fp Fp2 Fp6 Fp12 Frob Pk Pts Limb S15D S16M Sx
def fiW (f:List Int):List Int:=F12 (finK (v12 f))
theorem nm_fiW (f:List Int):Nm 72 (fiW f):=Fp12.Nm.F12 _
abbrev cw (f:List Int):Prop:=¬FK.Z (v12 f)
noncomputable abbrev cc (f:List Int):UT FK:=cl FK NN (v12 f)
theorem kc_z {a:Fp12.K}(z:FK.Z a):FK.Z (Fp12.kc a):=(Z12_iff _).2 (Fp12.kc_congr ((Z12_iff _).1 z))
section
variable {f g h:List Int}
theorem fi_E (hf:cw f):E12 (v12 (fiW f)) (Fp12.kp (v12 f) NN):=(v12_F12 _).trans (fin_kp hf)
theorem fi_uk (hf:cw f):∃k:¬FK.Z (v12 (fiW f)),uk FK (v12 (fiW f)) k=cc f:=by
 have e:=fi_E hf
 have k:¬FK.Z (v12 (fiW f)):=fun z=>kp_ne hf NN (FK.Z_of (fk_eq.2 e) z)
 refine⟨k,?_⟩
 show _=cl FK NN (v12 f)
 rw[cl_of FK hf,uk_kp hf]
 exact uk_eq FK (fk_eq.2 e)
theorem w_eq {a b:Fp12.K}{ha:¬FK.Z a}{hb:¬FK.Z b}(e:uk FK a ha=uk FK b hb):F12 a=F12 b:=F12_eq (fk_eq.1 (eq_uk FK e))
theorem fi_w (f:List Int):F12 (v12 (fiW f))=fiW f:=F12_eq (v12_F12 _)
theorem fi_mul (hf:cw f)(hg:cw g)(hh:cw h)(e:cc h=(ug FK).add (cc f) (cc g)):fiW h=F12 (Fp12.km (v12 (fiW f)) (v12 (fiW g))):=by
 obtain⟨k1,e1⟩:=fi_uk hf
 obtain⟨k2,e2⟩:=fi_uk hg
 obtain⟨k3,e3⟩:=fi_uk hh
 rw[←fi_w h]
 rw[←e1,←e2,uk_mul] at e
 exact w_eq (e3.trans e)
theorem fi_pow {k:Nat}(hf:cw f)(hh:cw h)(e:cc h=(ug FK).nx k (cc f)):fiW h=F12 (Fp12.kp (v12 (fiW f)) k):=by
 obtain⟨k1,e1⟩:=fi_uk hf
 obtain⟨k3,e3⟩:=fi_uk hh
 rw[←fi_w h]
 rw[←e1,uk_kp k1] at e
 exact w_eq (e3.trans e)
theorem fi_one (hf:cw f)(e:cc f=(ug FK).O):fiW f=O72:=by
 obtain⟨k1,e1⟩:=fi_uk hf
 rw[←fi_w f,←F12_one]
 exact w_eq (hb:=one_ne FK) (e1.trans e)
theorem fi_inv (hf:cw f)(hg:cw g)(e:(ug FK).add (cc f) (cc g)=(ug FK).O):F12 (Fp12.km (v12 (fiW f)) (v12 (fiW g)))=O72:=by
 obtain⟨k1,e1⟩:=fi_uk hf
 obtain⟨k2,e2⟩:=fi_uk hg
 rw[←e1,←e2,uk_mul] at e
 rw[←F12_one]
 exact w_eq (hb:=one_ne FK) e
theorem fi_r (hf:cw f):F12 (Fp12.kp (v12 (fiW f)) 52435875175126190479447740508185965837690552500527637822603658699938581184513)=O72:=by
 obtain⟨k1,e1⟩:=fi_uk hf
 have e:=cl_r (r:=52435875175126190479447740508185965837690552500527637822603658699938581184513) NN_r (v12 f)
 have e2:(ug FK).nx 52435875175126190479447740508185965837690552500527637822603658699938581184513 (uk FK (v12 (fiW f)) k1)=(ug FK).O:=by rw[e1];exact e
 rw[uk_kp k1] at e2
 rw[←F12_one]
 exact w_eq (hb:=one_ne FK) e2
theorem fi_ne (hf:cw f):¬fiW f=List.replicate 72 0:=fun e=>by
 obtain⟨k1,_⟩:=fi_uk hf
 refine k1 ?_
 rw[e]
 show FK.Z (v12 N72d)
 exact (Fz _).1 (by decide +kernel)
theorem fi_zero (hf:FK.Z (v12 f)):fiW f=List.replicate 72 0:=(Fz _).2 (fin_zero hf)
end
section
variable {x y:List Int} {b c:Bool}
theorem num_k1 {x:List Int}:ptv G1K.K1 x false=some (num (seg 0 6 x),num (seg 6 6 x)):=ptv_f G1K.K1 x
theorem lp_cl (a:OnP FI 4 (ptv G1K.K1 x b))(hA:E1g.nx 52435875175126190479447740508185965837690552500527637822603658699938581184513 (mk FI _ a)=E1g.O)(e:OnP FG (4,4) (ptv G2K.K2 y c)):cw (lpW x b y c)∧(ug FK).add (cc (lpW x b y c)) (ev (mk FG _ e) (ptv G1K.K1 x b))=(ug FK).O:=by
 have on1:onB G1K.K1 (G1K.K1.F.int 4) (ptv G1K.K1 x b)=true:=(onB_iff G1K.K1).2 a
 have on2:onB G2K.K2 G2K.bb (ptv G2K.K2 y c)=true:=(onB_iff G2K.K2).2 e
 have hon:(onB G1K.K1 (G1K.K1.F.int 4) (ptv G1K.K1 x b)&&onB G2K.K2 G2K.bb (ptv G2K.K2 y c))=true:=by rw[on1,on2];rfl
 have one:(b||c)=true→cw (lpW x b y c)∧cc (lpW x b y c)=(ug FK).O:=fun h=>by
  have e1:lpW x b y c=O72:=(if_pos hon).trans (if_pos h)
  have e2:v12 O72=FK.int 1:=v12_O72
  rw[cw,cc,e1,e2]
  exact⟨one_ne FK,cl_one (N':=_) rfl⟩
 cases b
 ·cases c
  ·have e1:lpW x false y false=F12 (Fp12.kc (v12 (ml x y 63).1)):=(if_pos hon).trans (if_neg (by decide))
   have a2:=a
   rw[num_k1] at a2
   have hA2:E1g.nx 52435875175126190479447740508185965837690552500527637822603658699938581184513 (mk FI _ a2)=E1g.O:=by
    rw[←hA]
    exact congrArg _ (mk_eq FI (by rw[num_k1];exact eqP_refl FI _))
   obtain⟨hx,hy⟩:=parts_ne hA2
   obtain⟨_,m1,m2,m3⟩:=ml_cl (q0:=e) hx hy (on_K a2) 63
   rw[nk_63] at m3
   have hk:¬FK.Z (Fp12.kc (v12 (ml x y 63).1)):=fun z=>m2 (FK.Z_of (fk_eq.2 (show E12 (Fp12.kc (Fp12.kc (v12 (ml x y 63).1))) (v12 (ml x y 63).1) by rw[Fp12.kc_kc];exact E12.rfl)) (kc_z z))
   have hE:E12 (v12 (lpW x false y false)) (Fp12.kc (v12 (ml x y 63).1)):=by
    rw[e1]
    exact v12_F12 _
   have c1:=cl_conj (N:=NN) (N':=_) rfl m2
   refine⟨fun z=>hk (FK.Z_of (fk_eq.2 hE) z),?_⟩
   rw[cc,(cl_cls FK NN).eq (fk_eq.2 hE),(ug FK).comm]
   rw[m3] at c1
   rw[num_k1]
   exact c1
  ·obtain⟨h1,h2⟩:=one rfl
   refine⟨h1,?_⟩
   rw[h2,(ug FK).zero']
   have eO:mk FG _ e=E2g.O:=mk_eq FG (by rw[ptv_t];exact eqP_refl FG _)
   rw[eO]
   exact ev_nq a hA (q:=E2g.O) (fr_O xx) 0
 ·obtain⟨h1,h2⟩:=one (by cases c<;>rfl)
  refine⟨h1,?_⟩
  rw[h2,(ug FK).zero',ptv_t]
  rfl
end
def both (x:List Int)(b:Bool)(y:List Int)(c:Bool):Bool:=SubM.inB G1K.K1 (G1K.K1.F.int 4) SubM.rN (ptv G1K.K1 x b)&&SubM.inB G2K.K2 G2K.bb SubM.rN (ptv G2K.K2 y c)
def prW (x:List Int)(b:Bool)(y:List Int)(c:Bool):List Int:=if both x b y c=true then fiW (lpW x b y c) else List.replicate 72 0
theorem nm_prW (x:List Int)(b:Bool)(y:List Int)(c:Bool):Nm 72 (prW x b y c):=by
 unfold prW
 split
 ·exact nm_fiW _
 ·exact⟨rfl,words_zeros 72⟩
def prA (x:List Int)(b:Bool)(y:List Int)(c:Bool):AV:=.tup [.agg [.nums 72 (prW x b y c)],.num .i64 (if both x b y c=true then 0 else 140)]
theorem prA_ok (x:List Int)(b:Bool)(y:List Int)(c:Bool)(n:Nat):(prA x b y c).Ok n:=⟨⟨nm_prW _ _ _ _,trivial⟩,trivial,trivial⟩
theorem pr_off {x y:List Int}{b c:Bool}(h:both x b y c=false):prA x b y c=.tup [.agg [.nums 72 (List.replicate 72 0)],.num .i64 140]:=by
 rw[prA,prW,if_neg (by rw[h];decide),if_neg (by rw[h];decide)]
theorem pz_v:FK.Z (v12 (List.replicate 72 (0:Int))):=(Fz _).1 (by decide +kernel)
theorem ze {a b:Fp12.K}(h:E12 a b)(z:FK.Z b):F12 a=List.replicate 72 (0:Int):=(Fz _).2 (FK.Z_of (FK.symm (fk_eq.2 h)) z)
theorem zl (a:Fp12.K):FK.Z (Fp12.km (v12 (List.replicate 72 (0:Int))) a):=FK.zm a pz_v
theorem zr (a:Fp12.K):FK.Z (Fp12.km a (v12 (List.replicate 72 (0:Int)))):=FK.zm' a pz_v
theorem fo_mul (f g:List Int):fiW (F12 (Fp12.km (v12 f) (v12 g)))=F12 (Fp12.km (v12 (fiW f)) (v12 (fiW g))):=by
 have e:E12 (v12 (F12 (Fp12.km (v12 f) (v12 g)))) (Fp12.km (v12 f) (v12 g)):=v12_F12 _
 generalize hh:F12 (Fp12.km (v12 f) (v12 g))=h at e
 by_cases z1:FK.Z (v12 f)
 ·have zh:FK.Z (v12 h):=FK.Z_of (FK.symm (fk_eq.2 e)) (FK.zm (v12 g) z1)
  rw[fi_zero zh,fi_zero z1]
  exact (ze E12.rfl (zl _)).symm
 ·by_cases z2:FK.Z (v12 g)
  ·have zh:FK.Z (v12 h):=FK.Z_of (FK.symm (fk_eq.2 e)) (FK.zm' (v12 f) z2)
   rw[fi_zero zh,fi_zero z2]
   exact (ze E12.rfl (zr _)).symm
  ·have h3:cw h:=fun z=>mul_ne FK z1 z2 (FK.Z_of (fk_eq.2 e) z)
   exact fi_mul z1 z2 h3 (((cl_cls FK NN).eq (fk_eq.2 e)).trans ((cl_cls FK NN).mul z1 z2))
theorem fi_o72:fiW O72=O72:=by
 have e2:v12 O72=FK.int 1:=v12_O72
 refine fi_one ?_ ?_
 ·rw[cw,e2]
  exact one_ne FK
 ·rw[cc,e2]
  exact cl_one (N':=_) rfl
theorem one_fi (f:List Int):F12 (Fp12.km (v12 O72) (v12 (fiW f)))=fiW f:=by
 have e:E12 (Fp12.km (v12 O72) (v12 (fiW f))) (Fp12.km k1 (v12 (fiW f))):=Fp12.km_congr (by rw[v12_O72];exact E12.rfl) E12.rfl
 rw[Fp12.km_one'] at e
 exact (F12_eq e).trans (fi_w f)
def mlW (x:List Int)(b:Bool)(y:List Int)(c:Bool):List Int:=if both x b y c=true then lpW x b y c else List.replicate 72 0
theorem nm_mlW (x:List Int)(b:Bool)(y:List Int)(c:Bool):Nm 72 (mlW x b y c):=by
 unfold mlW
 split
 ·exact nm_lpW _ _ _ _
 ·exact⟨rfl,words_zeros 72⟩
def mlA (x:List Int)(b:Bool)(y:List Int)(c:Bool):AV:=.tup [.agg [.nums 72 (mlW x b y c)],.num .i64 (if both x b y c=true then 0 else 140)]
theorem mlA_ok (x:List Int)(b:Bool)(y:List Int)(c:Bool)(n:Nat):(mlA x b y c).Ok n:=⟨⟨nm_mlW _ _ _ _,trivial⟩,trivial,trivial⟩
theorem fi_ml {x y:List Int}{b c:Bool}(h:both x b y c=true):fiW (mlW x b y c)=prW x b y c:=by
 rw[mlW,prW,if_pos h,if_pos h]
theorem fi_one_ml {x y:List Int}{b c:Bool}(h:both x b y c=true):fiW (F12 (Fp12.km (v12 O72) (v12 (mlW x b y c))))=prW x b y c:=by
 rw[fo_mul,fi_o72,one_fi,fi_ml h]
end S16V
namespace S16W
open Go Go.RowKit Reg Base Limb Sx Fp Fp2 Fp6 Fp12 Ec Pts Frob SubM S15D S16V Pk
def oWS (f:List Int→Nat→AV):List AA→AV
 |[.w a,.sl _ l]=>f a (Limb.num l).toNat
 |_=>.unk
theorem conPow {F:FuncId}(hp:∀(a:List Int),Nm 72 a→∀(A:Option Addr) (n c:Nat) (l:List Int) (B:Nat) (w:World),GlobD w→Rd w B A n .u64 l→Words l→B≤w.heap.size→n≤10000→Calls Tryz.prog F #[.agg (vals .u64 a),.slice A n c] w fun e w'=>e=.returned (.agg (vals .u64 (F12 (Fp12.kp (v12 a) (Limb.num l).toNat))))∧RowKit.Below w.heap.size w w'):ConG Tryz.prog GlobD F [.w 72,.sl] G1K.Pre0 (oWS fun a m=>.agg [.nums 72 (F12 (Fp12.kp (v12 a) m))]):=by
 intro l hl _
 match l,hl with
 |[.w a,.sl n l],⟨ha,⟨hn,hl,hw⟩,_⟩=>
  refine⟨fun n=>⟨Fp12.Nm.F12 _,trivial⟩,fun _=>rfl,fun w hG vs hv=>?_⟩
  match vs,hv with
  |[v,u],⟨hv,hu,_⟩=>
   obtain rfl:=hv
   obtain⟨A,c,rfl,B,hB,hr⟩:=hu
   have h:=hp a ha A n c l B w hG hr hw hB hn
   rw[oWS,den_nums]
   exact h
def o72 (f:List Int→AV):List AA→AV
 |[.w a]=>f a
 |_=>.unk
theorem con72 {P:Program}{G:World→Prop}{F:FuncId}{f:List Int→AV}(h0:∀a n,(f a).Ok n)(h1:∀a gs,(f a).den gs=(f a).den [])(h:∀a,Nm 72 a→∀w,G w→Calls P F #[.agg (vals .u64 a)] w fun e w'=>e=.returned ((f a).den [])∧RowKit.Below w.heap.size w w'):ConG P G F [.w 72] G1K.Pre0 (o72 f):=by
 intro l hl _
 match l,hl with
 |[.w a],⟨ha,_⟩=>
  refine⟨h0 a,h1 a,fun w hG vs hv=>?_⟩
  match vs,hv with
  |[v],⟨hv,_⟩=>
   obtain rfl:=hv
   exact h a ha w hG
def lsW (a:List Int):List Int:=F12 (lsK (v12 a))
def mW (a b:List Int):List Int:=F12 (Fp12.km (v12 a) (v12 b))
def kcW (a:List Int):List Int:=F12 (Fp12.kc (v12 a))
theorem mW_e {a b:List Int}{x y:Fp12.K}(h:E12 (v12 a) x)(k:E12 (v12 b) y):E12 (v12 (mW a b)) (Fp12.km x y):=(v12_F12 _).trans (Fp12.km_congr h k)
theorem lsW_e {a:List Int}{x:Fp12.K}(h:E12 (v12 a) x):E12 (v12 (lsW a)) (lsK x):=(v12_F12 _).trans (Fp12.kc_congr (kp_congr h xx))
theorem kcW_e {a:List Int}{x:Fp12.K}(h:E12 (v12 a) x):E12 (v12 (kcW a)) (Fp12.kc x):=(v12_F12 _).trans (Fp12.kc_congr h)
def gW (f:List Int):List Int:=mW (kcW f) (F12 (Fp12.ki (v12 f)))
theorem ls_raw (a:List Int):F12 (Fp12.kc (v12 (F12 (Fp12.kp (v12 a) (Limb.num [15132376222941642752]).toNat))))=lsW a:=by
 rw[show (Limb.num [15132376222941642752]).toNat=xx by decide +kernel]
 exact F12_eq (Fp12.kc_congr (v12_F12 _))
end S16W
namespace S16H
open Go Go.RowKit Reg Base Limb Sx Fp Fp2 Fp6 Fp12 Ec Pts Frob SubM S15D S16V Pk S16W SxR
set_option maxHeartbeats 1000000
set_option maxRecDepth 100000 in
theorem lPow12:ConG Tryz.prog GlobD 19 [.w 72,.sl] G1K.Pre0 (oWS fun a m=>.agg [.nums 72 (F12 (Fp12.kp (v12 a) m))]):=conPow S10P.lPow
def L0:List (Fact Tryz.prog GlobD):=S10.lMul.fact (.con Tryz.func14 rfl (by decide) S10.lMul) ::
 S10.lConj.fact (.con Tryz.func50 rfl (by decide) S10.lConj) ::
 S10.lInv.fact (.con Tryz.func51 rfl (by decide) S10.lInv) ::
 []
def T0:List (FuncId×Ent2):=[(19,entG [.w 72,.sl] G1K.Pre0 (oWS fun a m=>.agg [.nums 72 (F12 (Fp12.kp (v12 a) m))]))]
theorem T0_ok:TOk2 Tryz.prog GlobD T0:=⟨.conG Tryz.func19 rfl (by decide) lPow12,trivial⟩
def T1:List (FuncId×Ent2):=(53,S11R.entPn 72 S11R.g12) :: T0
theorem T1_ok:TOk2 Tryz.prog GlobD T1:=⟨S11R.ePn Tryz.func53 rfl (by decide) (fun n a h=>Fp12.Nm.F12 _) S11O.lFp12,T0_ok⟩
def X0:Cx:=((Cx.of [(28,6),(30,12)] (tb L0)).eqs [(41,12),(43,24)]).more T1
theorem X0_ok:CxOk Tryz.prog X0 GlobD:=((cx_ok (E:=[(28,6),(30,12)]) L0 ⟨⟨G1K.eqF,G1K.gdF⟩,⟨G2K.eqF,G2K.gdF⟩,trivial⟩ (by kernel_rfl)).eqs (EM:=[(41,12),(43,24)]) ⟨⟨G1K.eqG,G1K.gdG⟩,⟨G2K.eqG,G2K.gdG⟩,trivial⟩).more T1_ok
def L1:List (Fact Tryz.prog GlobD):=⟨29,entI 29 X0 9,.inline X0_ok GlobD.keep Tryz.func29 rfl (by decide)⟩ ::
 L0
noncomputable def T2:List (FuncId×Ent2):=(89,entQ Tryz.prog 89 X0 9 []) :: T1
theorem T2_ok:TOk2 Tryz.prog GlobD T2:=⟨.inlineQ X0_ok GlobD.keep Tryz.func89 rfl (by decide),T1_ok⟩
noncomputable def X1:Cx:=((Cx.of [(28,6),(30,12)] (tb L1)).eqs [(41,12),(43,24)]).more T2
theorem X1_ok:CxOk Tryz.prog X1 GlobD:=((cx_ok (E:=[(28,6),(30,12)]) L1 ⟨⟨G1K.eqF,G1K.gdF⟩,⟨G2K.eqF,G2K.gdF⟩,trivial⟩ (by kernel_rfl)).eqs (EM:=[(41,12),(43,24)]) ⟨⟨G1K.eqG,G1K.gdG⟩,⟨G2K.eqG,G2K.gdG⟩,trivial⟩).more T2_ok
def reL:List Int:=[10088250816726084267,4137836090706223446]
def opL:List Int:=[15132376222941642752]
def lR (a:List Int):List Int:=F12 (Fp12.kc (v12 (F12 (Fp12.kp (v12 a) (Limb.num opL).toNat))))
def aR (h:List Int):List Int:=F12 (Fp12.kp (v12 h) (Limb.num reL).toNat)
def bR (a:List Int):List Int:=mW (lR a) (S11R.g12 1 a)
def cR (b:List Int):List Int:=mW (mW (lR (lR b)) (S11R.g12 2 b)) (kcW b)
def lastW (h:List Int):List Int:=mW (cR (bR (aR h))) h
def hR (f:List Int):List Int:=mW (S11R.g12 2 (gW f)) (gW f)
theorem lR_e {a:List Int}{x:Fp12.K}(h:E12 (v12 a) x):E12 (v12 (lR a)) (lsK x):=by
 rw[lR,opL,ls_raw]
 exact lsW_e h
theorem g1_e {a:List Int}{x:Fp12.K}(h:E12 (v12 a) x):E12 (v12 (S11R.g12 1 a)) (Frob.ph x):=(v12_F12 _).trans (pn_congr h 1)
theorem g2_e {a:List Int}{x:Fp12.K}(h:E12 (v12 a) x):E12 (v12 (S11R.g12 2 a)) (Frob.ph (Frob.ph x)):=(v12_F12 _).trans (pn_congr h 2)
theorem fin_l (f:List Int):lastW (hR f)=fiW f:=by
 have hg:E12 (v12 (gW f)) (Fp12.km (Fp12.kc (v12 f)) (Fp12.ki (v12 f))):=mW_e (v12_F12 _) (v12_F12 _)
 have hh:E12 (v12 (hR f)) (hK (v12 f)):=mW_e (g2_e hg) hg
 have ha:E12 (v12 (aR (hR f))) (Fp12.kp (hK (v12 f)) x3):=by
  rw[aR,show (Limb.num reL).toNat=x3 by decide +kernel]
  exact (v12_F12 _).trans (kp_congr hh x3)
 have hb:E12 (v12 (bR (aR (hR f)))) (bK (Fp12.kp (hK (v12 f)) x3)):=mW_e (lR_e ha) (g1_e ha)
 have hc:E12 (v12 (cR (bR (aR (hR f))))) (cK (bK (Fp12.kp (hK (v12 f)) x3))):=mW_e (mW_e (lR_e (lR_e hb)) (g2_e hb)) (kcW_e hb)
 exact F12_eq (Fp12.km_congr hc hh)
section
variable {P:Program} {C:Cx} {G:World→Prop} {m N S:Nat} {w:World}
def evL (P:Program)(C:Cx)(m N:Nat):List Code→Ev
 |[],sl,bs,q=>some ([(sl,bs,q,.nrm)],[])
 |c :: cs,sl,bs,q=>match evalC P C m N c sl bs q with
  |none=>none
  |some (l,o)=>match bindO (evL P C m N cs) l with
   |none=>none
   |some (l2,o2)=>some (l2,o++o2)
def seqL:List Code→Code→Code
 |[],T=>T
 |c :: cs,T=>.seq c (seqL cs T)
theorem evL_ok [Rel]{T:Code}{Q:Exit→Act→World→Prop}(hC:CxB P C G)(hH0:C.H=[])(hG:∀u,RowKit.Below S w u→G u)(hQ:∀c a d v w,Q (.panic c) (Act.put a d v) w→Q (.panic c) a w):∀(cs:List Code) {sl:List AV} {bs:List Bk} {q:List Bool} {l:List O1} {obs:List Ob} {gs:List Nat} {a:Act} {x:World},evL P C m N cs sl bs q=some (l,obs)→Holds obs→Sl gs sl a→SOk gs.length sl→m≤gs.length→Wd S w m gs bs x →
  (∀sl2 bs2 q2 e,(sl2,bs2,q2,e)∈l→e=Ek.nrm∧∀gs' a' x',Sl gs' sl2 a'→SOk gs'.length sl2→m≤gs'.length→Thr gs a gs' a'→Wd S w m gs' bs2 x'→T.wp P Q a' x')→(seqL cs T).wp P Q a x
 |[],sl,bs,q,l,obs,gs,a,x,he,hH,h,ho,hm,H,hK=>by
  injection he with he
  injection he with e1 e2
  subst e1
  exact (hK sl bs q .nrm (by simp)).2 gs a x h ho hm (.of rfl) H
 |c :: cs,sl,bs,q,l,obs,gs,a,x,he,hH,h,ho,hm,H,hK=>by
  unfold evL at he
  split at he
  ·cases he
  ·rename_i l1 o1 h1
   split at he
   ·cases he
   ·rename_i l2 o2 h2
    injection he with he
    injection he with e1 e2
    subst e1 e2
    obtain⟨hH1,hH2⟩:=holds_app hH
    refine wp_seq ((code_ok (S:=S) (w:=w) hC hG c (fun id c' f hc=>by rw[hH0,hooked_nil] at hc;cases hc)).go (fun c a d v w h=>hQ c a d v w h) h1 h ho hm H hH1 (fun sl2 bs2 q2 e hx gs' a' x' p1 p2 p3 p4 p5=>?_))
    have hb:=bindO_ok h2 hH2 sl2 bs2 q2 e hx
    cases e with
    |nrm=>
     obtain⟨l3,o3,k1,k2,k3⟩:=hb
     exact evL_ok hC hH0 hG hQ cs k1 k2 p1 p2 p3 p5 (fun sl3 bs3 q3 e3 h3=>⟨(hK _ _ _ _ (k3 _ h3)).1,fun gs2 a2 x2 r1 r2 r3 r4 r5=>(hK _ _ _ _ (k3 _ h3)).2 gs2 a2 x2 r1 r2 r3 (r4.trans p4) r5⟩)
    |ret=>exact absurd (hK _ _ _ _ hb).1 (by intro h;cases h)
    |ext i=>exact absurd (hK _ _ _ _ hb).1 (by intro h;cases h)
theorem tailW_ok {fn:Func}{R:Code}{sl:List AV}{bs:List Bk}{q:List Bool}{gs:List Nat}{a:Act}{x:World}{obs:List Ob}{vs:List AV}{Q:Ending→World→Prop}(hC:CxB P C G)(hH0:C.H=[])(hG:∀u,RowKit.Below S w u→G u)
  (he:evalR P C m N R fn.results.toList sl bs q=some (vs,obs)) (hH:Holds obs) (h:Sl gs sl a) (ho:SOk gs.length sl) (hm:m≤gs.length) (H:Wd S w m gs bs x) (hd:a.defers=[])
  (hQ:∀v∈vs,∀x',RowKit.Below S w x'→∀gs':List Nat,Q (.returned (v.den gs')) x'):R.wp P (bodyPost P fn Q) a x:=by
 unfold evalR at he
 split at he
 ·rename_i l ob h1
  split at he
  ·rename_i vs' hr
   injection he with he
   injection he with e1 e2
   subst e1 e2
   refine (code_ok (S:=S) (w:=w) hC hG R (fun id c' f hc=>by rw[hH0,hooked_nil] at hc;cases hc)).go (fun c a d v w h=>?_) h1 h ho hm H hH (fun sl2 bs2 q2 e hx gs' a' x' p1 p2 p3 p4 p5=>?_)
   ·simp only[bodyPost] at h ⊢
    refine⟨?_,h.2⟩
    have:=h.1
    cases d<;>exact this
   ·obtain⟨hx1,v',hv',hra⟩:=resL_ok hr sl2 bs2 q2 e hx
    obtain⟨r1,r2,r3⟩:=resA_ok p1 p2 p5 hra
    cases e with
    |nrm=>exact⟨p4.defers.trans hd,_,r3,hQ v' hv' x' p5.bel gs'⟩
    |ret=>exact⟨p4.defers.trans hd,_,r3,hQ v' hv' x' p5.bel gs'⟩
    |ext i=>exact (hx1 i rfl).elim
  ·cases he
 ·cases he
theorem calls_opq2 {g:FuncId}{fn:Func}{c0 c1 R:Code}{args:Array Value}{Q:Ending→World→Prop}(K:Act→World→Prop)(hf:P.funcs[g]? = some fn)(hb:fn.body=some (.seq c0 (.seq c1 R)))
  (hR:∀a x,K a x→R.wp P (bodyPost P fn Q) a x) (h:∀R',(∀a x,K a x→R'.wp P (bodyPost P fn Q) a x)→(Code.seq c0 (.seq c1 R')).wp P (bodyPost P fn Q) { tmps:=args++Array.replicate (fn.ntmps-args.size) undef,defers:=[] } w):Calls P g args w Q:=
 calls_of_wp hf hb (h R hR)
end
def nthC:Nat→Code→Code
 |0,.seq a _=>a
 |n+1,.seq _ b=>nthC n b
 |_,c=>c
def lookE:O1→Nat×Option AV×Option AV×Option (Nat×Option Bk)×Option Bk×Ek
 |(sl,bs,_,e)=>(sl.length,sl[1]?,sl[2]?,(match (sl[8]?:Option AV) with|some (AV.ptr k 0)=>some (k,bs[k]?)|_=>none),bs[1]?,e)
noncomputable def mids:List Code:=[nthC 2 (bodyOf Tryz.f52),nthC 3 (bodyOf Tryz.f52),nthC 4 (bodyOf Tryz.f52),nthC 5 (bodyOf Tryz.f52)]
def slM (A0:Option Addr)(S1:Nat):List AV:=mkSl 37 [(1,.ptr 1 0),(2,.val (.pointer (some ⟨S1,0,none⟩))),(3,.ext A0 2 2 reL),(4,.ptr 0 0)]
def bsM (A1:Option Addr)(h:List Int):List Bk:=[(47,[.nm (.ext A1 1 1 opL)]),(34,[.nums 72 h])]
noncomputable abbrev XM (A0 A1:Option Addr)(B:Nat):Cx:=X1.sym (DS [(A0,2,reL,B),(A1,1,opL,B)]) []
def slT:List AV:=mkSl 37 [(1,.ptr 0 0),(2,.ptr 1 0),(8,.ptr 2 0)]
def bsT (h:List Int):List Bk:=[(34,[.nums 72 h]),(34,[.nums 72 (List.replicate 72 0)]),(34,[.nums 72 (cR (bR (aR h)))])]
set_option maxRecDepth 100000 in
theorem mid_ev (A0 A1:Option Addr)(B S1:Nat)(h:List Int):(evL Tryz.prog (XM A0 A1 B) 2 9 mids (slM A0 S1) (bsM A1 h) []).map (fun r=>(r.1.map lookE,r.2))=some ([(37,some (.ptr 1 0),some (.val (.pointer (some ⟨S1,0,none⟩))),some (6,some (34,[.nums 72 (cR (bR (aR h)))])),some (34,[.nums 72 h]),.nrm),(37,some (.ptr 1 0),some (.val (.pointer (some ⟨S1,0,none⟩))),some (5,some (34,[.nums 72 (cR (bR (aR h)))])),some (34,[.nums 72 h]),.nrm),(37,some (.ptr 1 0),some (.val (.pointer (some ⟨S1,0,none⟩))),some (6,some (34,[.nums 72 (cR (bR (aR h)))])),some (34,[.nums 72 h]),.nrm),(37,some (.ptr 1 0),some (.val (.pointer (some ⟨S1,0,none⟩))),some (5,some (34,[.nums 72 (cR (bR (aR h)))])),some (34,[.nums 72 h]),.nrm)],[(XM A0 A1 B).D A0 2 reL,2≤10000,(XM A0 A1 B).D A1 1 opL,1≤10000,S11R.InI 1,(XM A0 A1 B).D A1 1 opL,1≤10000,(XM A0 A1 B).D A1 1 opL,1≤10000,S11R.InI 2,(XM A0 A1 B).D A1 1 opL,1≤10000,(XM A0 A1 B).D A1 1 opL,1≤10000,S11R.InI 2]):=by kernel_rfl
theorem tail_ev (h:List Int):evalR Tryz.prog X1 0 9 (rsN 6 (bodyOf Tryz.f52)) Tryz.f52.results.toList slT (bsT h) []=some ([.agg [.nums 72 (lastW h)]],[]):=by kernel_rfl
theorem re_w:Words reL:=words_of _ (by decide)
theorem op_w:Words opL:=words_of _ (by decide)
set_option maxRecDepth 100000 in
theorem rest_ok {h:List Int}(hh:Nm 72 h){S:Nat}{w x:World}(hS:w.heap.size=S)(hG:GlobD w){act:Act}(H:Kn S w [⟨S,34,vals .u64 h⟩,⟨S+1,34,vals .u64 (List.replicate 72 0)⟩,⟨S+2,26,vals .u64 reL⟩,⟨S+3,26,vals .u64 opL⟩,⟨S+4,47,#[.slice (some ⟨S+3,0,none⟩) 1 1]⟩] x)(h1:act.tmps.size=37)
  (h2:∀p∈([(1,.ptr 1 0),(2,.val (.pointer (some ⟨S+1,0,none⟩))),(3,.ext (some ⟨S+2,0,none⟩) 2 2 reL),(4,.ptr 0 0)]:List (Nat×AV)),act.tmps[p.1]? = some (p.2.den [S+4,S])) (hd:act.defers=[]) {Q:Ending→World→Prop} (hQ:∀x',RowKit.Below S w x'→Q (.returned (.agg (vals .u64 (lastW h)))) x'):(rsN 2 (bodyOf Tryz.f52)).wp Tryz.prog (bodyPost Tryz.prog Tryz.f52 Q) act x:=by
 have hG':∀u,RowKit.Below S w u→GlobD u:=fun u hu=>hG.keep (hS▸hu)
 have hx0:=H.at 0 rfl
 have hx1:=H.at 1 rfl
 have hx4:=H.at 4 rfl
 have l1x:=hx1.lt
 have r0:Rd x x.heap.size (some ⟨S+2,0,none⟩) 2 .u64 reL:=Rd.of_has (H.at 2 rfl) (H.at 2 rfl).lt (by rfl) (by decide)
 have r1:Rd x x.heap.size (some ⟨S+3,0,none⟩) 1 .u64 opL:=Rd.of_has (H.at 3 rfl) (H.at 3 rfl).lt (by rfl) (by decide)
 have hGx:∀u,RowKit.Below x.heap.size x u→GS GlobD [(some ⟨S+2,0,none⟩,2,reL,x.heap.size),(some ⟨S+3,0,none⟩,1,opL,x.heap.size)] u:=fun u hu=>GS.keep (fun h k=>h.keep k) ⟨hG' x H.bel,fun s hs=>by
  simp only[List.mem_cons,List.not_mem_nil,or_false] at hs
  rcases hs with rfl|rfl
  ·exact⟨Nat.le_refl _,r0⟩
  ·exact⟨Nat.le_refl _,r1⟩⟩ hu
 have hCx:CxB Tryz.prog (XM (some ⟨S+2,0,none⟩) (some ⟨S+3,0,none⟩) x.heap.size) (GS GlobD [(some ⟨S+2,0,none⟩,2,reL,x.heap.size),(some ⟨S+3,0,none⟩,1,opL,x.heap.size)]):=X1_ok.toCxB.sym (fun u hu=>hu.1) (DS_ok (fun s hs=>by
  simp only[List.mem_cons,List.not_mem_nil,or_false] at hs
  rcases hs with rfl|rfl
  ·exact re_w
  ·exact op_w)) []
 have d0:DS [(some ⟨S+2,0,none⟩,2,reL,x.heap.size),(some ⟨S+3,0,none⟩,1,opL,x.heap.size)] (some ⟨S+2,0,none⟩) 2 reL:=⟨x.heap.size,by simp⟩
 have d1:DS [(some ⟨S+2,0,none⟩,2,reL,x.heap.size),(some ⟨S+3,0,none⟩,1,opL,x.heap.size)] (some ⟨S+3,0,none⟩) 1 opL:=⟨x.heap.size,by simp⟩
 have hev:=mid_ev (some ⟨S+2,0,none⟩) (some ⟨S+3,0,none⟩) x.heap.size (S+1) h
 cases he:evL Tryz.prog (XM (some ⟨S+2,0,none⟩) (some ⟨S+3,0,none⟩) x.heap.size) 2 9 mids (slM (some ⟨S+2,0,none⟩) (S+1)) (bsM (some ⟨S+3,0,none⟩) h) [] with
 |none=>
  rw[he] at hev
  cases hev
 |some r=>
  obtain⟨l,obs⟩:=r
  rw[he] at hev
  injection hev with hev
  injection hev with e1 e2
  refine @evL_ok _ _ _ 2 9 x.heap.size x extRel (rsN 6 (bodyOf Tryz.f52)) _ hCx rfl hGx (fun c a d v w h=>?_) mids _ _ _ _ _ [S+4,S] act x he (by rw[show obs=_ from e2];exact⟨d0,by decide,d1,by decide,by decide,d1,by decide,d1,by decide,by decide,d1,by decide,d1,by decide,by decide,trivial⟩) (mkSl_ok h1 h2) (mkSl_sok (fun p hp=>?_)) (Nat.le_refl _) (wd_of (gs:=[S+4,S]) (bs:=bsM (some ⟨S+3,0,none⟩) h) rfl (fun k t r hk=>?_)) (fun sl2 bs2 q2 e hx=>?_)
  ·simp only[bodyPost] at h ⊢
   refine⟨?_,h.2⟩
   have:=h.1
   cases d<;>exact this
  ·simp only[List.mem_cons,List.not_mem_nil,or_false] at hp
   rcases hp with rfl|rfl|rfl|rfl
   ·exact (by decide:1<2)
   ·trivial
   ·trivial
   ·exact (by decide:0<2)
  ·match k,hk with
   |0,hk=>
    obtain⟨rfl,rfl⟩:47=t∧[Sg.nm (.ext (some ⟨S+3,0,none⟩) 1 1 opL)]=r:=by simpa [bsM] using hk
    exact⟨hx4,trivial,trivial⟩
   |1,hk=>
    obtain⟨rfl,rfl⟩:34=t∧[Sg.nums 72 h]=r:=by simpa [bsM] using hk
    have hden:(den [Sg.nums 72 h]).toArray=vals .u64 h:=by simp[den,Sg.den,vals]
    exact⟨by rw[hden];exact hx0,hh,trivial⟩
   |k+2,hk=>simp[bsM] at hk
  ·have hm:lookE (sl2,bs2,q2,e)∈l.map lookE:=List.mem_map_of_mem hx
   rw[e1] at hm
   obtain⟨k,hk2,hl⟩:∃k,2≤k∧lookE (sl2,bs2,q2,e)=(37,some (.ptr 1 0),some (.val (.pointer (some ⟨S+1,0,none⟩))),some (k,some (34,[.nums 72 (cR (bR (aR h)))])),some (34,[.nums 72 h]),.nrm):=by
    simp only[List.mem_cons,List.not_mem_nil,or_false] at hm
    rcases hm with hm|hm|hm|hm<;>exact⟨_,by decide,hm⟩
   simp only[lookE,Prod.mk.injEq] at hl
   obtain⟨ln,l1,l2,l8,lb,rfl⟩:=hl
   obtain⟨l8a,l8b⟩:sl2[8]? = some (.ptr k 0)∧bs2[k]? = some (34,[.nums 72 (cR (bR (aR h)))]):=by
    split at l8
    ·rename_i k' h8
     simp only[Option.some.injEq,Prod.mk.injEq] at l8
     obtain⟨rfl,l8⟩:=l8
     exact⟨h8,l8⟩
    ·cases l8
   refine⟨rfl,fun gs' a' x' p1 p2 p3 p4 p5=>?_⟩
   obtain⟨e,rfl⟩:∃e,gs'=[S+4,S]++e:=@Thr.rel extRel _ _ _ _ p4
   have hkl:k<([S+4,S]++e).length:=by
    rw[p5.len]
    exact (List.getElem?_eq_some_iff.1 l8b).1
   have t1:=p1.2 1 _ l1 (by intro h;cases h)
   have t2:=p1.2 2 _ l2 (by intro h;cases h)
   have t8:=p1.2 8 _ l8a (by intro h;cases h)
   have b1:=(p5.has 1 _ _ lb).1
   have b8:=(p5.has k _ _ l8b).1
   have o8:=(p5.has k _ _ l8b).2
   have lo8:=p5.lo k hk2 hkl
   obtain⟨g,hg⟩:∃g,([S+4,S]++e).getD k 0=g:=⟨_,rfl⟩
   rw[hg] at b8 lo8
   have hden:∀z:List Int,(denB ([S+4,S]++e) [Sg.nums 72 z]).toArray=vals .u64 z:=fun z=>by
    show (den [Sg.nums 72 z]).toArray=_
    simp[den,Sg.den,vals]
   have hdn:∀z:List Int,(denB [S,S+1,g] [Sg.nums 72 z]).toArray=vals .u64 z:=fun z=>by
    show (den [Sg.nums 72 z]).toArray=_
    simp[den,Sg.den,vals]
   rw[hden] at b1 b8
   have b1':Has x' S 34 (vals .u64 h):=b1
   have b2:Has x' (S+1) 34 (vals .u64 (List.replicate 72 0)):=hx1.keep p5.bel
   refine tailW_ok (gs:=[S,S+1,g]) (m:=0) (S:=S) (w:=w) X1_ok.toCxB rfl hG' (tail_ev h) trivial (mkSl_ok (p1.1.trans ln) (fun p hp=>?_)) (mkSl_sok (fun p hp=>?_)) (Nat.zero_le _) ⟨H.bel.trans (p5.bel.mono H.sz),Nat.le_trans H.sz (Nat.le_trans (Nat.le_refl _) p5.bel.size),rfl,fun k t r hk=>?_,fun j _ hj=>?_,fun i j hi hj _ hij=>?_⟩ ((@Thr.defers extRel _ _ _ _ p4).trans hd) (fun v hv x2 hx2 gs2=>?_)
   ·simp only[List.mem_cons,List.not_mem_nil,or_false] at hp
    rcases hp with rfl|rfl|rfl
    ·exact t1
    ·exact t2
    ·rw[t8,AV.den,hg]
     rfl
   ·simp only[List.mem_cons,List.not_mem_nil,or_false] at hp
    rcases hp with rfl|rfl|rfl
    ·exact (by decide:0<3)
    ·exact (by decide:1<3)
    ·exact (by decide:2<3)
   ·match k,hk with
    |0,hk=>
     obtain⟨rfl,rfl⟩:34=t∧[Sg.nums 72 h]=r:=by simpa [bsT] using hk
     exact⟨by rw[hdn];exact b1',hh,trivial⟩
    |1,hk=>
     obtain⟨rfl,rfl⟩:34=t∧[Sg.nums 72 (List.replicate 72 0)]=r:=by simpa [bsT] using hk
     exact⟨by rw[hdn];exact b2,⟨rfl,words_zeros 72⟩,trivial⟩
    |2,hk=>
     obtain⟨rfl,rfl⟩:34=t∧[Sg.nums 72 (cR (bR (aR h)))]=r:=by simpa [bsT] using hk
     exact⟨by rw[hdn];exact b8,o8⟩
    |k+3,hk=>simp[bsT] at hk
   ·match j,hj with
    |0,_=>exact Nat.le_refl _
    |1,_=>exact Nat.le_succ _
    |2,_=>exact Nat.le_trans H.sz lo8
   ·have q1:S+1<g:=Nat.lt_of_lt_of_le l1x lo8
    match i,j,hi,hj,hij with
    |0,0,_,_,h=>exact absurd rfl h
    |0,1,_,_,_=>exact (by show S+1≠S;omega)
    |0,2,_,_,_=>exact (by show g≠S;omega)
    |1,0,_,_,_=>exact (by show S≠S+1;omega)
    |1,1,_,_,h=>exact absurd rfl h
    |1,2,_,_,_=>exact (by show g≠S+1;omega)
    |2,0,_,_,_=>exact (by show S≠g;omega)
    |2,1,_,_,_=>exact (by show S+1≠g;omega)
    |2,2,_,_,h=>exact absurd rfl h
   ·have:v=.agg [.nums 72 (lastW h)]:=by simpa using hv
    subst this
    rw[den_nums]
    exact hQ x2 hx2
set_option maxRecDepth 100000 in
set_option maxHeartbeats 4000000 in
theorem last_c {h:List Int}(hh:Nm 72 h)(w:World)(hG:GlobD w):Calls Tryz.prog 52 #[.agg (vals .u64 h)] w fun e w'=>e=.returned (.agg (vals .u64 (lastW h)))∧RowKit.Below w.heap.size w w':=by
 obtain⟨S,hS⟩:∃S,w.heap.size=S:=⟨_,rfl⟩
 refine calls_opq2 (fun act x=>Kn S w [⟨S,34,vals .u64 h⟩,⟨S+1,34,vals .u64 (List.replicate 72 0)⟩,⟨S+2,26,vals .u64 reL⟩,⟨S+3,26,vals .u64 opL⟩,⟨S+4,47,#[.slice (some ⟨S+3,0,none⟩) 1 1]⟩] x∧act.tmps.size=37∧(∀p∈([(1,.ptr 1 0),(2,.val (.pointer (some ⟨S+1,0,none⟩))),(3,.ext (some ⟨S+2,0,none⟩) 2 2 reL),(4,.ptr 0 0)]:List (Nat×AV)),act.tmps[p.1]? = some (p.2.den [S+4,S]))∧act.defers=[]) Tryz.func52 rfl (fun act x h=>?_) (fun R' hR'=>?_)
 ·obtain⟨g1,g2,g3,g4⟩:=h
  exact rest_ok hh hS hG g1 g2 g3 g4 (fun x' hb=>⟨rfl,hS▸hb⟩)
 have HG:Keep _:=⟨hG⟩
 have HH:Keep _:=⟨hh⟩
 clear hG hh
 simp only[Tryz.ntmps52,List.size_toArray,List.length_cons,List.length_nil,Nat.reduceAdd,Nat.reduceSub,Array.replicate_succ,Array.replicate_zero,List.push_toArray,List.append_toArray,List.nil_append,List.cons_append]
 go_wp2
 refine hR' _ _ ⟨?_,rfl,fun p hp=>?_,rfl⟩
 ·exact (((((Kn.nil hS).push _ _ hS).push _ _ (g:=S+1) (by simp[hS])).push _ _ (g:=S+2) (by simp[hS])).push _ _ (g:=S+3) (by simp[hS])).push _ _ (g:=S+4) (by simp[hS])
 ·simp only[List.mem_cons,List.not_mem_nil,or_false] at hp
  rcases hp with rfl|rfl|rfl|rfl<;>rfl
theorem nm_last (a:List Int):Nm 72 (lastW a):=by
 unfold lastW mW
 exact Fp12.Nm.F12 _
theorem lLast:ConG Tryz.prog GlobD 52 [.w 72] G1K.Pre0 (o72 fun a=>.agg [.nums 72 (lastW a)]):=con72 (fun a n=>⟨nm_last a,trivial⟩) (fun _ _=>rfl) (fun a ha w hG=>by
 rw[den_nums]
 exact last_c ha w hG)
end S16H
namespace S16O
open Go Go.RowKit Reg Base Limb Sx Fp Fp2 Fp6 Fp12 Ec Pts Frob SubM S15D S16V Pk S16W SxR S16H
set_option maxHeartbeats 1000000
def T6:List (FuncId×Ent2):=[(52,entG [.w 72] G1K.Pre0 (o72 fun a=>.agg [.nums 72 (lastW a)]))]
theorem T6_ok:TOk2 Tryz.prog GlobD T6:=⟨.conG Tryz.func52 rfl (by decide) lLast,trivial⟩
def T7:List (FuncId×Ent2):=(53,S11R.entPn 72 S11R.g12) :: T6
theorem T7_ok:TOk2 Tryz.prog GlobD T7:=⟨S11R.ePn Tryz.func53 rfl (by decide) (fun n a h=>Fp12.Nm.F12 _) S11O.lFp12,T6_ok⟩
def X7:Cx:=((Cx.of [(28,6),(30,12)] (tb L1)).eqs [(41,12),(43,24)]).more T7
theorem X7_ok:CxOk Tryz.prog X7 GlobD:=((cx_ok (E:=[(28,6),(30,12)]) L1 ⟨⟨G1K.eqF,G1K.gdF⟩,⟨G2K.eqF,G2K.gdF⟩,trivial⟩ (by kernel_rfl)).eqs (EM:=[(41,12),(43,24)]) ⟨⟨G1K.eqG,G1K.gdG⟩,⟨G2K.eqG,G2K.gdG⟩,trivial⟩).more T7_ok
set_option maxRecDepth 100000 in
theorem lFinal:ConG Tryz.prog GlobD 24 [.w 72] G1K.Pre0 (o72 fun a=>.agg [.nums 72 (fiW a)]):=con72 (fun a n=>⟨Fp12.Nm.F12 _,trivial⟩) (fun _ _=>rfl) (fun a ha w hG=>fn_outS (N:=9) X7_ok GlobD.keep Tryz.func24 [] (fun s hs=>by cases hs) (G1K.noSS hG) (args:=[.agg [.nums 72 a]]) (q:=[]) (v:=(.agg [.nums 72 (lastW (hR a))])) (obs:=[S11R.InI 2,S11R.InI 2]) 2 (by kernel_rfl) (hp (by decide) (hp (by decide) trivial)) (fun v hv=>by
      simp only[List.mem_cons,List.not_mem_nil,or_false] at hv
      obtain rfl:=hv
      exact⟨ha,trivial⟩) (by rw[fin_l]) (by first|(simp only[List.map_cons,List.map_nil,G1K.p_den,G2K.p_den,S15D.w_den];rfl)|simp only[List.map_cons,List.map_nil,G1K.p_den,G2K.p_den,S15D.w_den]))
def T5:List (FuncId×Ent2):=[(26,entG [.p 12] G1K.Pre0 (G1K.o1 fun x b=>.bl (inB G1K.K1 (G1K.K1.F.int 4) rN (ptv G1K.K1 x b)))),(27,entG [.p 24] G2K.Pre0 (G2K.o1 fun x b=>.bl (inB G2K.K2 G2K.bb rN (ptv G2K.K2 x b)))),(62,entG [.p 12,.p 24] G1K.Pre0 (S15D.oP fun x b y c=>S15D.lpA x b y c))]
theorem T5_ok:TOk2 Tryz.prog GlobD T5:=⟨.conG Tryz.func26 rfl (by decide) S14O.lIn1,.conG Tryz.func27 rfl (by decide) S14O.lIn2,.conG Tryz.func62 rfl (by decide) S15O.lLoop,trivial⟩
def X5:Cx:=((Cx.of [(28,6),(30,12)] (tb L0)).eqs [(41,12),(43,24)]).more T5
theorem X5_ok:CxOk Tryz.prog X5 GlobD:=((cx_ok (E:=[(28,6),(30,12)]) L0 ⟨⟨G1K.eqF,G1K.gdF⟩,⟨G2K.eqF,G2K.gdF⟩,trivial⟩ (by kernel_rfl)).eqs (EM:=[(41,12),(43,24)]) ⟨⟨G1K.eqG,G1K.gdG⟩,⟨G2K.eqG,G2K.gdG⟩,trivial⟩).more T5_ok
theorem ml_off {x y:List Int}{b c:Bool}(h:both x b y c=false):mlA x b y c=.tup [.agg [.nums 72 (List.replicate 72 0)],.num .i64 140]:=by
 rw[mlA,mlW,if_neg (by rw[h];decide),if_neg (by rw[h];decide)]
theorem ml_on {x y:List Int}{b c:Bool}(h1:inB G1K.K1 (G1K.K1.F.int 4) rN (ptv G1K.K1 x b)=true)(h2:inB G2K.K2 G2K.bb rN (ptv G2K.K2 y c)=true):mlA x b y c=(.tup [.agg [.nums 72 (lpW x b y c)],.num .i64 (if (onB G1K.K1 (G1K.K1.F.int 4) (ptv G1K.K1 x b)&&onB G2K.K2 G2K.bb (ptv G2K.K2 y c))=true then 0 else 120)]):=by
 have h:both x b y c=true:=by rw[both,h1,h2];rfl
 have o1:onB G1K.K1 (G1K.K1.F.int 4) (ptv G1K.K1 x b)=true:=(onB_iff G1K.K1).2 ((inB_iff G1K.K1).1 h1).1
 have o2:onB G2K.K2 G2K.bb (ptv G2K.K2 y c)=true:=(onB_iff G2K.K2).2 ((inB_iff G2K.K2).1 h2).1
 rw[mlA,mlW,if_pos h,if_pos h,if_pos (by rw[o1,o2];rfl)]
set_option maxRecDepth 100000 in
theorem lMil:ConG Tryz.prog GlobD 28 [.p 12,.p 24] G1K.Pre0 (S15D.oP fun x b y c=>S16V.mlA x b y c):=conP mlA_ok (fun _ _ _ _ _=>rfl) (fun x hx b y hy c w hG=>by
 cases h1:inB G1K.K1 (G1K.K1.F.int 4) rN (ptv G1K.K1 x b)
 ·exact fn_outS (N:=9) X5_ok GlobD.keep Tryz.func28 [] (fun s hs=>by cases hs) (G1K.noSS hG) (args:=[.agg [.nums 12 x,.nm (.bl b)],.agg [.nums 24 y,.nm (.bl c)]]) (q:=[false]) (v:=(.tup [.agg [.nums 72 (List.replicate 72 0)],.num .i64 140])) (obs:=[inB G1K.K1 (G1K.K1.F.int 4) rN (ptv G1K.K1 x b)=false]) 1 (by kernel_rfl) (hp (h1) trivial) (fun v hv=>by
   simp only[List.mem_cons,List.not_mem_nil,or_false] at hv
   rcases hv with rfl|rfl
   ·exact⟨hx,trivial,trivial⟩
   ·exact⟨hy,trivial,trivial⟩) (by rw[ml_off (by rw[both,h1];rfl)]) (by first|(simp only[List.map_cons,List.map_nil,G1K.p_den,G2K.p_den,S15D.w_den];rfl)|simp only[List.map_cons,List.map_nil,G1K.p_den,G2K.p_den,S15D.w_den])
 ·cases h2:inB G2K.K2 G2K.bb rN (ptv G2K.K2 y c)
  ·exact fn_outS (N:=9) X5_ok GlobD.keep Tryz.func28 [] (fun s hs=>by cases hs) (G1K.noSS hG) (args:=[.agg [.nums 12 x,.nm (.bl b)],.agg [.nums 24 y,.nm (.bl c)]]) (q:=[true,false]) (v:=(.tup [.agg [.nums 72 (List.replicate 72 0)],.num .i64 140])) (obs:=[inB G1K.K1 (G1K.K1.F.int 4) rN (ptv G1K.K1 x b)=true,inB G2K.K2 G2K.bb rN (ptv G2K.K2 y c)=false]) 1 (by kernel_rfl) (hp (h1) (hp (h2) trivial)) (fun v hv=>by
   simp only[List.mem_cons,List.not_mem_nil,or_false] at hv
   rcases hv with rfl|rfl
   ·exact⟨hx,trivial,trivial⟩
   ·exact⟨hy,trivial,trivial⟩) (by rw[ml_off (by rw[both,h1,h2];rfl)]) (by first|(simp only[List.map_cons,List.map_nil,G1K.p_den,G2K.p_den,S15D.w_den];rfl)|simp only[List.map_cons,List.map_nil,G1K.p_den,G2K.p_den,S15D.w_den])
  ·exact fn_outS (N:=9) X5_ok GlobD.keep Tryz.func28 [] (fun s hs=>by cases hs) (G1K.noSS hG) (args:=[.agg [.nums 12 x,.nm (.bl b)],.agg [.nums 24 y,.nm (.bl c)]]) (q:=[true,true]) (v:=(.tup [.agg [.nums 72 (lpW x b y c)],.num .i64 (if (onB G1K.K1 (G1K.K1.F.int 4) (ptv G1K.K1 x b)&&onB G2K.K2 G2K.bb (ptv G2K.K2 y c))=true then 0 else 120)])) (obs:=[inB G1K.K1 (G1K.K1.F.int 4) rN (ptv G1K.K1 x b)=true,inB G2K.K2 G2K.bb rN (ptv G2K.K2 y c)=true]) 1 (by kernel_rfl) (hp (h1) (hp (h2) trivial)) (fun v hv=>by
   simp only[List.mem_cons,List.not_mem_nil,or_false] at hv
   rcases hv with rfl|rfl
   ·exact⟨hx,trivial,trivial⟩
   ·exact⟨hy,trivial,trivial⟩) (by rw[ml_on h1 h2]) (by first|(simp only[List.map_cons,List.map_nil,G1K.p_den,G2K.p_den,S15D.w_den];rfl)|simp only[List.map_cons,List.map_nil,G1K.p_den,G2K.p_den,S15D.w_den]))
def T8:List (FuncId×Ent2):=[(24,entG [.w 72] G1K.Pre0 (o72 fun a=>.agg [.nums 72 (fiW a)])),(28,entG [.p 12,.p 24] G1K.Pre0 (S15D.oP fun x b y c=>S16V.mlA x b y c))]
theorem T8_ok:TOk2 Tryz.prog GlobD T8:=⟨.conG Tryz.func24 rfl (by decide) lFinal,.conG Tryz.func28 rfl (by decide) lMil,trivial⟩
def X8:Cx:=((Cx.of [(28,6),(30,12)] (tb L1)).eqs [(41,12),(43,24)]).more T8
theorem X8_ok:CxOk Tryz.prog X8 GlobD:=((cx_ok (E:=[(28,6),(30,12)]) L1 ⟨⟨G1K.eqF,G1K.gdF⟩,⟨G2K.eqF,G2K.gdF⟩,trivial⟩ (by kernel_rfl)).eqs (EM:=[(41,12),(43,24)]) ⟨⟨G1K.eqG,G1K.gdG⟩,⟨G2K.eqG,G2K.gdG⟩,trivial⟩).more T8_ok
noncomputable def T9 (q:List Bool):List (FuncId×Ent2):=(11,entQ Tryz.prog 11 X8 9 q) :: T8
theorem T9_ok (q:List Bool):TOk2 Tryz.prog GlobD (T9 q):=⟨.inlineQ X8_ok GlobD.keep Tryz.func11 rfl (by decide),T8_ok⟩
noncomputable def X9 (q:List Bool):Cx:=((Cx.of [(28,6),(30,12)] (tb L0)).eqs [(41,12),(43,24)]).more (T9 q)
theorem X9_ok (q:List Bool):CxOk Tryz.prog (X9 q) GlobD:=((cx_ok (E:=[(28,6),(30,12)]) L0 ⟨⟨G1K.eqF,G1K.gdF⟩,⟨G2K.eqF,G2K.gdF⟩,trivial⟩ (by kernel_rfl)).eqs (EM:=[(41,12),(43,24)]) ⟨⟨G1K.eqG,G1K.gdG⟩,⟨G2K.eqG,G2K.gdG⟩,trivial⟩).more (T9_ok q)
set_option maxRecDepth 100000 in
theorem lPair:ConG Tryz.prog GlobD 13 [.p 12,.p 24] G1K.Pre0 (S15D.oP fun x b y c=>S16V.prA x b y c):=conP prA_ok (fun _ _ _ _ _=>rfl) (fun x hx b y hy c w hG=>by
 cases h:both x b y c
 ·have e:¬(if both x b y c=true then (0:Int) else 140)=0:=by rw[if_neg (by rw[h];decide)];decide
  exact fn_outS (N:=9) (X9_ok [false]) GlobD.keep Tryz.func13 [] (fun s hs=>by cases hs) (G1K.noSS hG) (args:=[.agg [.nums 12 x,.nm (.bl b)],.agg [.nums 24 y,.nm (.bl c)]]) (q:=[]) (v:=(.tup [.agg [.nums 72 (List.replicate 72 0)],.num .i64 (if both x b y c=true then (0:Int) else 140)])) (obs:=[qb false ((if both x b y c=true then (0:Int) else 140)=0)]) 1 (by kernel_rfl) (hp (e) trivial) (fun v hv=>by
   simp only[List.mem_cons,List.not_mem_nil,or_false] at hv
   rcases hv with rfl|rfl
   ·exact⟨hx,trivial,trivial⟩
   ·exact⟨hy,trivial,trivial⟩) (by rw[pr_off h,if_neg (by rw[h];decide)]) (by first|(simp only[List.map_cons,List.map_nil,G1K.p_den,G2K.p_den,S15D.w_den];rfl)|simp only[List.map_cons,List.map_nil,G1K.p_den,G2K.p_den,S15D.w_den])
 ·have e:(if both x b y c=true then (0:Int) else 140)=0:=if_pos h
  exact fn_outS (N:=9) (X9_ok [true]) GlobD.keep Tryz.func13 [] (fun s hs=>by cases hs) (G1K.noSS hG) (args:=[.agg [.nums 12 x,.nm (.bl b)],.agg [.nums 24 y,.nm (.bl c)]]) (q:=[]) (v:=(.tup [.agg [.nums 72 (fiW (mW O72 (mlW x b y c)))],.num .i64 0])) (obs:=[qb true ((if both x b y c=true then (0:Int) else 140)=0)]) 1 (by kernel_rfl) (hp (e) trivial) (fun v hv=>by
   simp only[List.mem_cons,List.not_mem_nil,or_false] at hv
   rcases hv with rfl|rfl
   ·exact⟨hx,trivial,trivial⟩
   ·exact⟨hy,trivial,trivial⟩) (by rw[prA,if_pos h,←fi_one_ml h];rfl) (by first|(simp only[List.map_cons,List.map_nil,G1K.p_den,G2K.p_den,S15D.w_den];rfl)|simp only[List.map_cons,List.map_nil,G1K.p_den,G2K.p_den,S15D.w_den]))
end S16O
namespace Pk
set_option maxRecDepth 100000
open Go Ring Ab Ec Fp Fp2 Fp6 Fp12 Frob
def rK (a:K):K:=((Ord2.red a.1.1,Ord2.red a.1.2.1,Ord2.red a.1.2.2),(Ord2.red a.2.1,Ord2.red a.2.2.1,Ord2.red a.2.2.2))
theorem rK_eq (a:K):E12 (rK a) a:=⟨⟨red_eq _,red_eq _,red_eq _⟩,red_eq _,red_eq _,red_eq _⟩
def mR (a b:K):K:=rK (Fp12.km a b)
theorem mR_eq {a b a' b':K}(h:E12 a a')(k:E12 b b'):E12 (mR a b) (Fp12.km a' b'):=(rK_eq _).trans (Fp12.km_congr h k)
def okS (l x1 y1 x2 y2:G):Bool:=decide (FG.Z (FG.sub (FG.sub y1 y2) (FG.mul l (FG.sub x1 x2))))&&(decide (FG.Z (FG.sub (FG.mul l (FG.add y1 y2)) (FG.add (FG.add (FG.mul x1 x1) (FG.mul x1 x2)) (FG.mul x2 x2))))&&!(decide (FG.Z (FG.sub x1 x2))&&decide (FG.Z (FG.add y1 y2))))
theorem okS_ok {l x1 y1 x2 y2:G}(h:okS l x1 y1 x2 y2=true):Slope FG l x1 y1 x2 y2∧¬Opp FG x1 y1 x2 y2:=by
 simp only[okS,Bool.and_eq_true,Bool.not_eq_true',Bool.and_eq_false_iff,decide_eq_true_eq,decide_eq_false_iff_not] at h
 exact⟨⟨h.1,h.2.1⟩,fun k=>h.2.2.elim (fun e=>e k.1) (fun e=>e k.2)⟩
def nx3 (l x1 x2:G):G:=Ord2.red (Xs FG l x1 x2)
def ny3 (l x1 y1 x3:G):G:=Ord2.red (Ys FG l x1 y1 x3)
theorem sum3 {l x1 y1 x2 y2:G}(h:okS l x1 y1 x2 y2=true):Ec.Sum FG (some (x1,y1)) (some (x2,y2)) (some (nx3 l x1 x2,ny3 l x1 y1 (nx3 l x1 x2))):=
 .sl (okS_ok h).2 (okS_ok h).1 (FG.symm (Ord2.hred _)) (FG.symm (Ord2.hred _))
def okK (f:K):Bool:=decide (f.1.1.1%PP=f.1.1.1)&&(decide (f.1.1.2%PP=f.1.1.2)&&(decide (f.1.2.1.1%PP=f.1.2.1.1)&&(decide (f.1.2.1.2%PP=f.1.2.1.2)&&(decide (f.1.2.2.1%PP=f.1.2.2.1)&&(decide (f.1.2.2.2%PP=f.1.2.2.2)&&(decide (f.2.1.1%PP=f.2.1.1)&&(decide (f.2.1.2%PP=f.2.1.2)&&(decide (f.2.2.1.1%PP=f.2.2.1.1)&&(decide (f.2.2.1.2%PP=f.2.2.1.2)&&(decide (f.2.2.2.1%PP=f.2.2.2.1)&&decide (f.2.2.2.2%PP=f.2.2.2.2)))))))))))
def run (X Y:Int)(bx by_:G):List (G×Option G)→K→G→G→Option K
 |[],f,_,_=>some f
 |(l,none) :: r,f,x,y=>if (okK f&&okS l x y x y)=true then run X Y bx by_ r (mR (mR f f) (LK l x y X Y)) (nx3 l x x) (ny3 l x y (nx3 l x x)) else none
 |(l,some m) :: r,f,x,y=>if (okK f&&okS l x y x y)=true then (if okS m (nx3 l x x) (ny3 l x y (nx3 l x x)) bx by_=true then run X Y bx by_ r (mR (mR (mR f f) (LK l x y X Y)) (LK m (nx3 l x x) (ny3 l x y (nx3 l x x)) X Y)) (nx3 m (nx3 l x x) bx) (ny3 m (nx3 l x x) (ny3 l x y (nx3 l x x)) (nx3 m (nx3 l x x) bx)) else none) else none
def cnt:List (G×Option G)→Nat→Nat
 |[],n=>n
 |(_,none) :: r,n=>cnt r (n+n)
 |(_,some _) :: r,n=>cnt r (n+n+1)
section
variable {X Y:Int} (hx:X%PP≠0) (hy:Y%PP≠0) (hP:On FK (FK.int 4) (e2 (X,0)) (e2 (Y,0)))
theorem g2r:Nat.gcd 2 52435875175126190479447740508185965837690552500527637822603658699938581184513=1:=by decide +kernel
include hy
theorem ok_cl {l x1 y1 x2 y2:G}(h:okS l x1 y1 x2 y2=true)(a:OnP FG (4,4) (some (x1,y1)))(e:OnP FG (4,4) (some (x2,y2))):cl FK NN (LK l x1 y1 X Y)=hq NN X Y (mk FG _ a) (mk FG _ e):=by
 refine hv_un FK (ug FK) (cl_cls FK NN) ?_ (hq_of hy a e)
 have e3:=lk_cl (N:=NN) (N':=_) (l:=l) (x:=x1) (y:=y1) (X:=X) rfl NN_r g2r hy
 rw[e3]
 exact .sl (fun k=>(okS_ok h).2 ((ut_opp FG hm2 s s_ne).2 k)) (ut_slope FG hm2 s (okS_ok h).1) (lin_ne hy l x1 y1)
theorem mR_cl {a b:K}(ha:¬FK.Z a)(hb:¬FK.Z b):¬FK.Z (mR a b)∧cl FK NN (mR a b)=(ug FK).add (cl FK NN a) (cl FK NN b):=by
 have e:FK.eq (mR a b) (FK.mul a b):=fk_eq.2 (rK_eq _)
 exact⟨fun h=>mul_ne FK ha hb (FK.Z_of e h),by rw[(cl_cls FK NN).eq e,(cl_cls FK NN).mul ha hb]⟩
include hx hP
theorem run_cl {u v:G}(q0:OnP FG (4,4) (some (u,v))){F:K}:∀{d:List (G×Option G)} {f:K} {x y:G} {n:Nat} (a:OnP FG (4,4) (some (x,y))),mk FG _ a=E2g.nx n (mk FG _ q0)→¬FK.Z f→cl FK NN f=chn E2g (ug FK) (hq NN X Y) n (mk FG _ q0)→run X Y u v d f x y=some F →
  ¬FK.Z F∧cl FK NN F=chn E2g (ug FK) (hq NN X Y) (cnt d n) (mk FG _ q0)
 |[],f,x,y,n,a,h1,h2,h3,hr=>by
  obtain rfl:=Option.some.inj hr
  exact⟨h2,h3⟩
 |(l,o) :: r,f,x,y,n,a,h1,h2,h3,hr=>by
  have dbl:okS l x y x y=true→∃a2:OnP FG (4,4) (some (nx3 l x x,ny3 l x y (nx3 l x x))),mk FG _ a2=E2g.nx (n+n) (mk FG _ q0)∧¬FK.Z (mR (mR f f) (LK l x y X Y))∧cl FK NN (mR (mR f f) (LK l x y X Y))=chn E2g (ug FK) (hq NN X Y) (n+n) (mk FG _ q0):=fun h=>by
   have a2:=sum_on FG a a (sum3 h)
   refine⟨a2,?_,?_⟩
   ·rw[nx_add,←h1]
    exact (add_mk FG (a:=a) (e:=a) (c:=a2) (sum3 h)).symm
   ·have s1:=ok_cl (X:=X) hy h a a
    rw[h1] at s1
    obtain⟨u1,u2⟩:=mR_cl hy h2 h2
    obtain⟨f1,f2⟩:=mR_cl hy u1 (lk_ne (l:=l) (x:=x) (y:=y) (X:=X) hy)
    rw[u2,h3,s1] at f2
    have c2:=chn_add E2g (ug FK) (h:=hq NN X Y) (fun p=>hq_0 hy p) (fun p q=>hq_c hy p q) (fun p q r=>hq_h (N':=_) rfl hx hy hP p q r) n (mk FG _ q0) n
    exact⟨f1,f2.trans c2.symm⟩
  cases o with
  |none=>
   unfold run at hr
   split at hr
   ·rename_i h
    obtain⟨a2,m2,f1,f2⟩:=dbl (by simp only[Bool.and_eq_true] at h;exact h.2)
    exact run_cl q0 (n:=n+n) a2 m2 f1 f2 hr
   ·cases hr
  |some m=>
   unfold run at hr
   split at hr
   ·rename_i h
    obtain⟨a2,m2,f1,f2⟩:=dbl (by simp only[Bool.and_eq_true] at h;exact h.2)
    split at hr
    ·rename_i k
     have a3:=sum_on FG a2 q0 (sum3 k)
     have s2:=ok_cl (X:=X) hy k a2 q0
     rw[m2] at s2
     obtain⟨g1,g2⟩:=mR_cl hy f1 (lk_ne (l:=m) (x:=nx3 l x x) (y:=ny3 l x y (nx3 l x x)) (X:=X) hy)
     rw[f2,s2] at g2
     refine run_cl q0 (n:=n+n+1) a3 ?_ g1 g2 hr
     have e:=add_mk FG (a:=a2) (e:=q0) (c:=a3) (sum3 k)
     rw[m2] at e
     exact e.symm
    ·cases hr
   ·cases hr
end
def frR (a:K):K:=rK ((gc (Ord2.red a.1.1),Ord2.red (gm (gc a.1.2.1) (0,4002409555221667392624310435006688643935503118305586438271171395842971157480381377015405980053539358417135540939436)),Ord2.red (gm (gc a.1.2.2) (4002409555221667392624310435006688643935503118305586438271171395842971157480381377015405980053539358417135540939437,0))),(Ord2.red (gm (gc a.2.1) (3850754370037169011952147076051364057158807420970682438676050522613628423219637725072182697113062777891589506424760,151655185184498381465642749684540099398075398968325446656007613510403227271200139370504932015952886146304766135027)),Ord2.red (gm (gc a.2.2.1) (1028732146235106349975324479215795277384839936929757896155643118032610843298655225875571310552543014690878354869257,1028732146235106349975324479215795277384839936929757896155643118032610843298655225875571310552543014690878354869257)),Ord2.red (gm (gc a.2.2.2) (877076961050607968509681729531255177986764537961432449499635504522207616027455086505066378536590128544573588734230,3125332594171059424908108096204648978570118281977575435832422631601824034463382777937621250592425535493320683825557))))
theorem gam_lit:E2 gam (3850754370037169011952147076051364057158807420970682438676050522613628423219637725072182697113062777891589506424760,151655185184498381465642749684540099398075398968325446656007613510403227271200139370504932015952886146304766135027):=(gpf_ok (1,1) 380 tt (by decide +kernel)).symm.trans (by show _∧_;decide +kernel)
theorem gam_n (n:Nat):E2 (gp gam n) (gp (3850754370037169011952147076051364057158807420970682438676050522613628423219637725072182697113062777891589506424760,151655185184498381465642749684540099398075398968325446656007613510403227271200139370504932015952886146304766135027) n):=gp_congr gam_lit n
theorem frR_eq (a:K):E12 (frR a) (Frob.ph a):=by
 refine (rK_eq _).trans (E12.trans ?_ (ph_fr a).symm)
 have g (n:Nat) (w:G) (h:E2 w (gp (3850754370037169011952147076051364057158807420970682438676050522613628423219637725072182697113062777891589506424760,151655185184498381465642749684540099398075398968325446656007613510403227271200139370504932015952886146304766135027) n)) (z:G):E2 (Ord2.red (gm (gc z) w)) (gm (gc z) (gp gam n)):=(red_eq _).trans (gm_congr E2.rfl (h.trans (gam_n n).symm))
 exact⟨⟨gc_congr (red_eq _),g 2 _ (by show _∧_;decide +kernel) _,g 4 _ (by show _∧_;decide +kernel) _⟩,g 1 _ (by show _∧_;decide +kernel) _,g 3 _ (by show _∧_;decide +kernel) _,g 5 _ (by show _∧_;decide +kernel) _⟩
def kpR:Nat→K→Nat→K
 |0,_,_=>k1
 |f+1,b,n=>if n=0 then k1 else if n%2=1 then mR (mR (kpR f b (n/2)) (kpR f b (n/2))) b else mR (kpR f b (n/2)) (kpR f b (n/2))
theorem kpR_ok (b:K):∀f n,n<2^f→E12 (kpR f b n) (Fp12.kp b n)
 |0,n,h=>by
  obtain rfl:n=0:=by omega
  exact E12.rfl
 |f+1,n,h=>by
  unfold kpR
  by_cases h0:n=0
  ·rw[if_pos h0]
   subst h0
   exact E12.rfl
  ·rw[if_neg h0]
   have ih:=kpR_ok b f (n/2) (by rw[Nat.pow_succ] at h;omega)
   have h2:E12 (mR (kpR f b (n/2)) (kpR f b (n/2))) (Fp12.kp b (n/2+n/2)):=by
    rw[kp_add]
    exact mR_eq ih ih
   by_cases hd:n%2=1
   ·rw[if_pos hd]
    have e1:Fp12.kp b n=Fp12.km (Fp12.kp b (n/2+n/2)) b:=by
     conv=>lhs;rw[show n=n/2+n/2+1 by omega]
     rfl
    rw[e1]
    exact mR_eq h2 E12.rfl
   ·rw[if_neg hd]
    have e1:Fp12.kp b n=Fp12.kp b (n/2+n/2):=by
     conv=>lhs;rw[show n=n/2+n/2 by omega]
    rw[e1]
    exact h2
def lsR (a:K):K:=rK (Fp12.kc (kpR 64 a xx))
def hR (f i:K):K:=mR (frR (frR (mR (Fp12.kc f) i))) (mR (Fp12.kc f) i)
def bR (a:K):K:=mR (lsR a) (frR a)
def cR (b:K):K:=mR (mR (lsR (lsR b)) (frR (frR b))) (Fp12.kc b)
def finR (f i:K):K:=mR (cR (bR (kpR 127 (hR f i) x3))) (hR f i)
theorem lsR_eq {a b:K}(h:E12 a b):E12 (lsR a) (lsK b):=(rK_eq _).trans <| Fp12.kc_congr ((kpR_ok a 64 xx (by decide +kernel)).trans (kp_congr h xx))
theorem frR_c {a b:K}(h:E12 a b):E12 (frR a) (Frob.ph b):=(frR_eq a).trans (ph_congr h)
theorem finR_eq {f i:K}(h:E12 i (Fp12.ki f)):E12 (finR f i) (finK f):=by
 have g:=mR_eq (E12.rfl (p:=Fp12.kc f)) h
 have h1:E12 (hR f i) (hK f):=mR_eq (frR_c (frR_c g)) g
 have h2:E12 (kpR 127 (hR f i) x3) (Fp12.kp (hK f) x3):=(kpR_ok _ 127 x3 (by decide +kernel)).trans (kp_congr h1 x3)
 have h3:E12 (bR (kpR 127 (hR f i) x3)) (bK (Fp12.kp (hK f) x3)):=mR_eq (lsR_eq h2) (frR_c h2)
 have h4:E12 (cR (bR (kpR 127 (hR f i) x3))) (cK (bK (Fp12.kp (hK f) x3))):=mR_eq (mR_eq (lsR_eq (lsR_eq h3)) (frR_c (frR_c h3))) (Fp12.kc_congr h3)
 exact mR_eq h4 h1
def x0_:Int:=3685416753713387016781088315183077757961620795782546409894578378688607592378376318836054947676345821548104185464507
def y0_:Int:=1339506544944476473020471379941921221584933875938349620426543736416511423956333506472724655353366534992391756441569
def dd:List (G×Option G):=[((3332861143247501252331813356350180290120410449433266709578959859012632855668058597588311837045174983880847490166441,3516835588938255501384233873790750418022269115436832732619708066978573403439322037195960057048468096398901266407270),some (3189596540030649039210095012179962536879863174769706510404754980944451585751266623566316842163013971035925555596939,580214565589815709051526780480716613387032385643896639236992400453316698644585507760300331204980096169520193780951)),((835054165972735690735869444519384738334801451954355879620440187592048863251652865010757053254899940799360780660622,555142427958551797775714860016806413547569925891195578716122061702030876843929942740921223089649544971155378437064),none),((66282772145972952687249891670166914227707873393770627591040006437953926325221236660570674876140361828743944120893,267749903485706736292119693786236889685270373072431997125887093903971556404785429056352638207407551059702955972425),some (1373654580883985535664857649879157749870736491129998772997953754676272631933888785347303694928529982338307006840583,3132309387881346984658517051682319282605814402877875392405652632236786320342638410198279020955277831152704908331135)),((1129723295392853571516013315654256049849269870008886127854455100819257795184689317256823387010739423098617771087875,3081945992084619973465532855104758304295072920225267728575004195828215035340392354900888493845342473998391455154583),none),((287790361477781973831957117604734891753008614607369954939364340379970611597379763748055733200690235429073181373586,1198659424898486456630442159591271248566493184056769238670946354722400541131339156641727589543051551068547221866249),none),((2293632049115617235982856040839178643521032714122670668990183812560547630609073686166796175570533671639768554517933,2445023039238630452748326796302055600633057924628866562861504543292174268376550325297172375635174454330881129948852),some (3193425049041839249022257947001607574125266314169376068589888502503341846154301108502609048242039729565556305213453,2350724718932516373877582458264691302155052213927915004506280696782582766580786016722068804869983759758280597157454)),((3380061675462461625406767578267154475701196520815922466047784079847897220579452257941453661154249445393527848041051,2501668806032205367148724736080790878479687375595314633883064083803357094295650929286019287824086093923402142937730),none),((2318601599841370864238325548379753573146196822653947040376726073096261164302114090593886575526222979376068507706802,1282850744430475304567422617808544812045656899993556526216142764195586909094833599042437985287909741145058482554236),none),((3626630487490878749106864672261082345108597814090470674356107352160180279446574544450581952942765508620243174403617,268443032063551976629766394744587349553053699586853263621543652854673589451796078718083019485944235350415729160254),none),((3374729667121391035060612885728638580950440182424857206220598058476704328028992370646455604174109469049162859816797,2361935547756063585824568708420090387925532742103074755960789406917457818103796777344862700588808662576012800881422),none),((352113325015497061955841655323238720110134118721004054054170882469967372737326331479727075863452043677760046495773,1592848339282779496452253565788600538738520361699108330923958639466884871262824303333581433963127153225606852121416),none),((36466409209144380980903701800002896915039940989418701946617403053381578738815163594000331120309011264704482988631,220821967333837273739775797809425927314227676770693272817491281515273269474197418852290862681552425888294658214144),none),((1485884564331616278859959653110951309934185853197152616473133383435019012440703766105396029828668614275263023060778,1164131830781183851167527923247578546760196964625623160580312873496788733326022695799012407469790386008248262028889),none),((2982062635302212704072103527710239664136304249229604035253653859170282213219209258834096595175438113316581617665036,1967176514647900102563586736257414222931239596097267091259544218399175789221743832384889734640632268443292624058077),none),((3161447040478922134951544812578359333132025179254591409341629854665511363953243700006541157553098810085245273311486,2423935108382078215380762389001082365761727665274708907616207100107616479785982887815772311627658314604319236289966),some (2071750587408325157043779609730554505053935030777030484062804437723726121805278571734766909377350030597621539869314,2369705794018167345260414114229424261175387636228364527705582089955734813862703679190563508181355464175728276056737)),((2650181032624226232279881669630193657842278366005610255923285263930691796693963248958633082680623123228501506184919,2330017544150555244075653794635841222886241365159700504737504871316327955532711199816620186898446171172431010500229),none),((531388585889799054143044401468230281071985679380292825822599227106561347273797169195279570922216937565747094436664,1183362229600768914050245298981759171198159155733052235200482646046632099085170522719541308232184943236795689702078),none),((3803997154585659590606717676853784540934403835228223211127520092292119685848904277433552993978130959229195099571120,2766871433464272719482520634791958711453575792448863103619917860950828866781095359266256883768204354833873476749484),none),((459416940739610156858722590130252626556993547067828891468931582462044764917680940549590323636435629746675858086773,417881601731572777810103911338800232317520072659045342643460075917620224886836225800950589942376696404244817365496),none),((2573904035363252668454001240655449135777739851395611178589709397693127704433683420116763070723902420750244425012759,3746939986416573339473978386491066023135540855482577539935942747931239289635078205067477171288684778487989007393613),none),((2840596035678566560969304802009685938645375919958256821763076035679421410207682405764601769771253777727117001179569,1977865997702913375192549800552896946414303477037242021863149111910899665438587844620134612553968473400569301387416),none),((338471407591257044826944295851798470044083722384314399870794585284422000030932507292940185947908763362672088938285,2835055863338130817505552633670147072260411538786467824298931728804180355358326726389378210264535685074110402167741),none),((580261818855283641663615756087107475399156605855653314738585052680606392293004294309768945881279287742853379220204,3991071628015464512592918466945704103752545344950751326775318898890023377846304891372559239590480817759642670658205),none),((389411585029621033139843653321308662851082147517922426692439587416218259461400918394623002890904075821080343198155,2123992928430894078367262640718800654798889447566999776568331744780849895806566981099155763436471740071127657110213),none),((2266744698331460083248536621336379977743556334627582530083689112179174052311724112667893527785162826124092786156853,3744421797532507940513074184451519003728415103952490285154376614592679115128663325695327255311955103265580414470065),none),((2600889097237419613474310017317763556240441380740888157827302640677257321026194903389329758627930784752054318616520,200778370369180058572699429596624550490726384965420633873137861592734820635154363913012151255215514854339429191240),none),((2616203128849945962534528625512391775069133049481019163448900389159611490008374480125823701868847164791163475769062,3897150876888538726896435085332316361380642382561506367699811149165689715060983143495594816173088577200417296375379),none),((3359032856681507756859011774009237133512139297598371408971578633730296360400037017979132579688516003376296563056972,3729257424740720216568863549128427619950905341903437421378904810696796924649319776773566096056523402070243760214282),none),((1647015463749622457137964226375944218201408132293699119920370676037410413624695411924534100215700469405763849168349,2487863726652067973860430909810341772598771497223956080239921406255406534552168459766304127655453578667203554416394),none),((1345324669267022994671605046919372362192929996213480783711502643751526374834468927176559912975264145779646018394605,1051542232763767517171101191695502141911738020612841435771956766008319329592083355387694314592598140471375910422911),none),((870346325620749722803898689145981591967915401444940676764855477130444037769727118109578025634688144261941196455126,2727036387697602657044177711142286979339264918306206730390547747732023425886931479800767082896075647389570160275435),none),((3916356114978849339049735831477824025055774622425465463534172569138033913094758274059464947574433086013128718554212,771774744111942505464724947463866236822536345041079448393837155930798301303843330224764492913054774840358409769373),none),((3438803453259400305085522092907183115513300232913761531751941789136141042407506847709277201767319714466929045038998,2554699044777504386623216269245850698217769041784920556094765112667776677150304703591844611499541246944319598204623),none),((3449304747021468956780690030537655698697088029653822580424050549311320668987793566406375668605613297807327489556134,1998454263502221745619423040602182194843787834706874689669179255948189508855097685121790460788783927909510139025433),none),((2224664381504000294075033706689439899405010238083861585000674179541164338667634659912905973516279054263849003848129,2961121798693388529721876760836687450910112497153111682953396910042389457653649912915197485410536882528255682739885),none),((3849472377858554857518781728123424029713912910229505584802711227721101614651363451079521566263761955988336328181365,3104813272595357488355320156499017491216871400444023512949844352950947073732354351124541631758855653535034546732655),none),((381843048515507588709689586247276842687192911113241366555500056416899013616789919784177222035274340848653960633560,3414583989117840442984372558177139317022059169083162716466198863905630943272900663344812713277115245537614223382094),none),((3022854514553981248683468756018159553619276735932038402844022090060718420996263272812630027492035963371979470355933,2919081043216297606895642916668885350473685017335271309356186143586100829657984381192136423325347168727253523223645),none),((979103616178379827041013985553506690283680187339001213417984108902857995447348982262024077802737337471681342036182,3791063974443165863139271757917823735183246594874297696182444169465018807546120000942640174282597046527292969064405),none),((477900656980906198307994227972789789464738038682352270229475232023363375941146832079903065832288164816910702407346,3848300456621756480418408230873007527613126020085750362428312149860684908683952370395623587917851961718090718026151),none),((3094394576422775803227077497527968837175485606345696105252799880379669359468996470717556387113399636867136516114194,3801770384620383209416015201900532804034843013886239440914308534328805806862644456746466271966768853619380129727944),none),((1641948206375307587034872419793086690020395585090693610422013674488941072492848558821495358555849817292287159482946,3055067617292525509295342299715133164820886523997848922813863577914239950763985643193452789751263758881963542566446),none),((2429759401659087221738328762125413598318490106087521650230001153056591550970603882293224004911373792066289502961736,1383429045330215512368780470756741596613575742158563861200366833346314426215575458367249749659859010667730530783435),none),((880761145135388113229850635315578948337642486317216648146997826463109992860293202109207307792167765006268928302399,1574789197533450325916231653402116963515094915217838455980273082566320244586275980380696202508701121803559415195405),none),((1485184318664116458567356415667573691733820223454010665688434191691307834351522188400065360999504241332341861181328,1685931599442927882641995426077686481837529028093609643757096211644625701498682940434823996633943374545673020701765),none),((2131397065342940168541194320677238367699297298368021232296197797219777948620232709514704754400884482400297852084344,2101249370153538417626335658543094322477435485737259738477151054875587461299075988632195711333434592090702392271624),none),((2253795768227128782791876368099959405464041821451452375644645693873222633857720671532378363598528763954748052521949,880041514352450760996837904450114502568432028828895985927483514519988459639763092877231863131205557456509400684526),some (2656449097763842748591874089526180885733060351152359824440555251650990019850595010419913277842497790312123442049272,1162994539896157597205489641965602281331048696265969197068399478140141936459839181135193237072295115617067459627870)),((1546160829834119996155264711092863322500413422745988521030991538050266069369694196201706213498804859129949442814843,2959396655034069252843078370163358404850258425871662673432910893252177408985006714248635559227977714185928935163215),none),((2418501943276540990448447667065652699000966554816295461393865381349754461898082733723654457422018735296561096204528,2522365800489019485889687234066050532449705635332201420563895895319183176849637920878555321714116723375656493851907),none),((390926557089605589396934705901628499856764594617945548322178595365410062260634610488770649054700595969130225224735,1656239340358588833312927013957624501138783393106366012342195947095893465861039669685347899179132403809674286124436),none),((2827306120252551729952546346999373168128788031878944255061262675405120642548218897228634625840481825854053970765621,1848532775503557830698259577155521524855546545343090739104834508576476609988723274902070242513378980955657060886522),none),((3713830046304130177385572648889332130444584478200549050885708632700001812323968445931047903433593290701260016203282,9476035499068160037725903603185774744063770475135838439187253107587697436045541422231572784330265833408698173364),none),((3328360423578746676644496827460269031126697331554788386080484804719400638129530062914172914428955889704876365655716,1016367863576189514724196479991457116597424586006593129095163797210865939837258399510534158896705199056967650045327),none),((3098429470081940309758120578351982432330406620889701680112012167789427288659552935841440405499145604223289828537577,2654582016586359158077378569705261491832028922140468720308752444435121613061114701185900727975880732202868968791950),none),((2551121047282992176597125633983902712894941160966667548967919517071572489571054854055165886856032705380812551970730,3222317710378913348360477178716470431255997990495759219477258041640084761700273555294853167769237599603736759894822),none),((894150035496411771256924432866918172614951673027280066637700774783015252809233601761210052304570665317145520375934,1256096754288286754698738162047025620597078777025305018588185660626654259480017014659069250617272474099741796840190),none),((3004007843644636591917966809187812251895014584604182132459441865033294509807222142147020294627305033859983902150599,888829166949872281443981607732065407441540163831378947089679008714080293496076162132552976675663670851454392149831),none),((1160938544783235613450534871348929655009895817168399075870585616983018113026874598391458375397744895515386115560171,3305842660718254854775099745982137087253969483809836778853535383685225799203658039184372873011391040957084534304373),none),((1375687333320120867967294694189409791059189257745571321906225589850416125305494211639558921617219013983484691908180,1103893654270188029512720367188009031730553072313899621838285838303700242336980870094656776608420113878648512907626),none),((80807174005797413733458199303257609840372898330290537610676018274992629467950258118399002827145121285200489087860,1478707191081135434222728246163658077349537228930535393124771301350953737416516182640456234108619131476168440566152),none),((2321951042632599821521155119355484943307835479891856832949159621516233143239898728635387765261438623719332682166202,2968463219381830832012919630900278480194680091371598444279811633472026611869391605880036544848491383541662757205482),none),((436960595964292593219369975287324033586721146996409768015783414427547968083207319315068123998558745874851471893574,656657763587056073677952361566430797374268140536488933295695029592168175365918252010232209041178953806577613266839),none),((981016188357399796637010460654889484642283246680775457057890543261337754212644818700628099343052345080194395941189,1227699790923042902823616358068675957377678417636580018223897644241598823793843784281059987628518333259565748809153),none)]
def FF:K:=(((1126298756972278913675118852462063019817507323379274565204392629208516942980365194048746809762280995967724481862554,557997227867161071967746721038941569699062150871660061913886323823906666199709266192019643312680968142411980522869),(1005185477641389276387028669503635180955738897055161631037185245866196567571365218364048079039369722438983148586435,565620051496697864951816032420694346730931902852274828680338133985237934026769605449010730922471830834169791260282),(1210654050140494964976134305805418149907864737247165956186187135263707285564756456027834148014162170544262663370993,2585358361260449419068737390922127093180191597829138334560782031294860668314053336955092342205209220345177745616009)),((828279406838333299218368255872705789013983544477380975165116482556108388652601989279630623455965214437483153889319,1425155437363928326183516691137472730806058274660264303249840729925336667086242461337100653964350336266951260405809),(1714355102755002425926710742271493555231712747266917203736626907078751739803836818044860241807999616885384952779210,1761719974655798766506561835723304364371834915962101608602490920965088349571427836298154810912647255863402840474802),(2276776529832973507167324816720310265381294954540446207012155597541673090017359028594022897445386248589381174158571,3944701910493243056945139892035363656099427196850599106168560282254140426354631465620493084164108261825236907210694)))
def II:K:=(((1985946179338187520078320078661386721822497983383154820439352909862958567690446949808474454262131279125598299731752,3202387146762110875660364138193831887176038831110515620065527234710753195204611155500841708549802296406777919400751),(349386545614372238325633864564241179125574523653663997982259531135903446935425128623168290100499875726348860383776,1561040231271028873175911964563603856480494316189950643364668275678137311163827881501448477476087066583883971949712),(374653014423694325986293628485335374071362805275163072015014376768384556970043087087513284365526010212302640904911,3342787354141408376059919208932981070375206509271902176858988728431233326360407902532615641798291579438779629342460)),((484841090587694864827790509855519064974459060540924306818584599324496081872044541856162742658815250983731428642459,3419227645233713998936334635154874226779802853349795966144113714476992050437572803939312139198165487320414388435120),(3029705610642650601225816833408845727805359453730628958790318256231110528072825371054343851780215222580389592726084,529102373896530770130760045129552352107363661169186464763321084988030594936132848993038169640674184706229613775893),(2024636652724610802900681476178199770321448569074391798817254704534381521779014046379710004267776202374911251348172,3883510180666647950426942228571624788675601119154769925426588864078442268864413499382501006220586089936834650748867)))
theorem cnt_dd:cnt dd 1=xx:=by decide +kernel
theorem run_dd:run x0_ y0_ bx by_ dd k1 bx by_=some FF:=by decide +kernel
theorem inv_F:E12 (Fp12.km FF II) k1:=by
 show ((_∧_)∧(_∧_)∧_∧_)∧(_∧_)∧(_∧_)∧_∧_
 decide +kernel
def HH:K:=(((1510107722572828261550456151093864086691603914687768733547089522940763855394581829056943774158245330102175234867365,808088717004703826527845002367721048328742280592989028558030142710212828338665719435559947605712112865726189666705),(3710514574182005371926233043859060107788439815410187352828615120303774202962806625846108553355796224478762282615718,3718410119742133333192092795470106941040113391850829632607903082329109300254219700624284948054717451211425800147146),(3258996093706043078483052074983766734841692758717147460252044539419829763475289249153099003976736977297613956120486,2368694829310213597069917632356869514055569781787290568526433824371764704323762446873487997487613368223346360443403)),((3177389838166547988929497881508025700968226015359749221200512850836430703383443981817153671617820312592980219284232,2767172474714988544598537734895722293197025099139961345694219569576936827249087867044843195902291803052912862175164),(1238027588249478560174813603358146697490846111410079044900103500054103154213423362827079201594310630153926809193326,52148381463599364247826908168170890559085110347534405674078009064918650834560455927620787088976378936373282034152),(2740462481651398364377714671179388167047265857828315875867686126732015048637568000324164764447424424344532807891954,2785336695799836089091031901134715664908536062675451393095360804373896191372055872755512595495580744104308877146736)))
def AA:K:=(((3727150175738056038437321238698697731781696080828773757040465011490166181611631337200778236356031642695439974349577,1839616876754881781575858437310641937202581969126240033381844989596092734646398823766831267435784899908572145045229),(1580184008049100904643447925191051042267566823155155928888485936743655907143247475057389383953654826599755381962794,1005949275355438696672991010234449474573361999171252316254608330350763691274836406122448075879672385123810043437110),(1585883970529978240440447542531357286798319535283777953821222332988572154537685743080024088316898147945266006734229,1199950435371321038801444568252619754865232185458154947547888299091533290374719175887487243483924298314521692640896)),((3462729232576522277114482745011391649640821526862930899000404411681228338322014391193735883585181095568909256541595,3671461809302139572396854795084433915474851286917060486967568947596492203274604023198412249918596944456823729733006),(1162020792627859309562902813001692076615945425625573946256094056155469988163742097630593960074965211779081715571545,2731322077871718532952911691311915346717931251420522850121687812779958604109410844955981347661440889227229395084781),(2657236643293197838591694135283711963020631542059762219121266984098055242068499384329038163761199322388684114509915,2723150333470219077528716393781364897391963624146712534866623428309670595434554605067041290418413196853451807022091)))
def LA:K:=(((98106732922247232046294826107804893606305139741859558001246681532726008229110186069559361626155778899354839290029,2411243288242059420409506076039276428512266365926037552111752313440190731179225607997767635017270349439125996541834),(2683305819022892796578784263010312016630281780315918502717907372576263986315038237375049427928424388897634981744248,1870984871590677877346426025150611738918673294100338707497423226557823273417581946975760616334842831725692553781629),(903171389235868883618496292449982554898075432727674087719684362304278145783033445620564310952930377480405516675348,1819359316961982648696825768698582274299360242409634863041377482942933471064999032389391165236518591424861661659287)),((457111985964339394215082602979823100535751250453477664959867604692228216990684070412327237746464656400878374138801,502984723173621339954754264046803050075774572219914713748582398159965021764554578891183923100504711802602552665285),(2640050477330814279885157441741131018999714396598562331099342031892294696094537543469746068160999411027057098227449,2071409662492255450081680890260136948544391128508396357468185123426989978172823109733930793773695755500081522451880),(1960995731015872851914120175578467298837249548514409779124305159220363476158331129914137406356779751074802695718210,2246652698136281584724567586591973504853788313445268011455423953644425428075236802067160117569429819651226986381160)))
def BB:K:=(((2401374825597450984127428083886778337644341190388984269675656905526889902455464871488112779953122061980914084015627,2002573687219449662830204240587858250317599430313095799709320566820374703996084385141861121356633254802253977005442),(3028279613350765026686766544182751254971050611826720636750466900672147934953470256070613978883010391439840233039588,113563191712000362484023995569751002965941426771432656414436981090548153168153165436169568691878515546864934063345),(15926619643239591426244004989463640041964077289053150867841914989714656759647379537174094756804348567524660996161,1242039391770747613095191879614623161493229154269781009074784183548557566148691418098416833958574980512020957096597)),((2624938253357378619542582448899771809559032393956533814596953956037158574789749461771199867315636037665663910806776,5759152766910366384048279974751154233056410471493250686601226919105601100190152910403788548413242115791177060788),(3960931979730573538384433467679714581688861693707874917231579389182972413340808426003960796084440352830474972414713,2463495591026820086440130777253097526795312234136661681495301427310378810933954330661028233966309596431069131386801),(3577231768142256009885595924582790487963277840665494488665150113656523967965328220263872478124762453111787634124940,211565493142604120129967254013156863459693198671753722084425499182865307241775052196093249660525347234263914526417)))
def LB:K:=(((1667042345708070419051561625519587936806034409531841266916663139149953915205998567404362858522772230372082086094582,3437817373131021689205664549780155164026124757413870440185591124697775710462235751290191498842729723379319900740864),(659938351063045713926716963141256514447739931325349089274962832456851031048424782085835912511548513071289416037160,1341428926685649574799879320318749353156815187271088507422303000753062905433258307523270708501978032101916009285180),(3689343633790114316388231993709004216488319168813859576060002225143274376296668090363750101674050814005887551589089,2001315625713703806156278750684520731550948356193894726325791348006222001483819132773543298947537351937972353650638)),((481216225444322718561558488115314876606906210238678728932867832389518710512213195318367094975813752249100878257220,1778834673223820708882458954526353049170808384078535194644831731357808336722832738569241134476033964292728397544953),(3601263170187299039142445999154583152635569289440529331090812297804125171480875456318885032207544016349728771679617,2430629910346950372191591246609581955075300475900246855024908579766680775506292273679230786327128731190283386148395),(1640097916102042003386927967765177937077945952159730592908187555607938043869534479950929296109606219484738568004719,728755275437950015357954111362561367923506359825613896330377006130440457008008692837086256192504474521012420072089)))
def LL:K:=(((589055896229357724898813026054869815825554603540858908788846270893194342128751991900312984932966447265589736569909,320427958109657041869379692559908404793796619625774746885991155990607055058040384097267113815331010298168116306256),(2744403133323501671841198434832856269771829887670677899843169656323643382192377007201428600564486593249659009907030,2577236299869553128161237059298146471014100777491865977984750362778165253841129007455936177074401637407700772649511),(195699993267395131758873990524811073173159498239134340944798222534633870826741189623341201375634256998172026835738,3170011443495801230657759963163855202807592978700577774985215654542021048213919951223480085387080773715964850322860)),((3727691105368049718684836400325119300615919545523160380314069706196231424740190484221474040784527069176747008774781,1036003615492653464289408095919900435912365541573918201187303498695255827215054809509246555030237318342452579019759),(3840183041942084389312047799370393442082554331806595381904903263726130334949100600814710708998912031617679787278728,1013608469041824383750820601535660971228711012059937400867926835438512591015882686540805913085085693831372851784307),(1441317173861878547541004037251974189091182274103515747743264395085541502389502898436380472347172712027398747683844,2502765659998763520829106889087503318779631555411748837878377844030680771239454585513887134528817111039649104163374)))
theorem s1:hR FF II=HH:=by decide +kernel
theorem s2_:kpR 127 HH x3=AA:=by decide +kernel
theorem s3:lsR AA=LA:=by decide +kernel
theorem s4:mR LA (frR AA)=BB:=by decide +kernel
theorem s5:lsR BB=LB:=by decide +kernel
theorem s6:lsR LB=LL:=by decide +kernel
theorem s7:(mR (mR (mR LL (frR (frR BB))) (Fp12.kc BB)) HH).1.1.1≠1:=by decide +kernel
theorem fin_ne:(finR FF II).1.1.1%PP≠1:=by
 have e:finR FF II=mR (mR (mR LL (frR (frR BB))) (Fp12.kc BB)) HH:=by
  rw[finR,s1,s2_,bR,s3,s4,cR,s5,s6]
 rw[e]
 exact fun h=>s7 ((Int.emod_emod _ _).symm.trans h)
theorem on_P0:OnP FI 4 (some (x0_,y0_)):=by
 show FI.Z _
 decide +kernel
theorem x0_ne:x0_%PP≠0:=by decide +kernel
theorem y0_ne:y0_%PP≠0:=by decide +kernel
theorem nd:ev (mk FG (some (bx,by_)) on_b) (some (x0_,y0_))≠(ug FK).O:=fun h=>by
 have h0:chn E2g (ug FK) (hq NN x0_ y0_) xx (mk FG _ on_b)=(ug FK).O:=h
 have hk:cl FK NN k1=chn E2g (ug FK) (hq NN x0_ y0_) 1 (mk FG _ on_b):=by
  show _=(ug FK).add (ug FK).O (hq NN x0_ y0_ E2g.O _)
  rw[hq_0 y0_ne,(ug FK).zero]
  exact cl_one (N':=_) rfl
 obtain⟨hF,hc⟩:=run_cl x0_ne y0_ne (on_K on_P0) on_b (n:=1) on_b (nx_one E2g _).symm (one_ne FK) hk run_dd
 rw[cnt_dd,h0,cl_of FK hF,uk_kp hF] at hc
 have e1:E12 (Fp12.kp FF NN) k1:=fk_eq.1 (eq_uk FK (h:=kp_ne hF NN) (k:=one_ne FK) hc)
 have hi:E12 II (Fp12.ki FF):=by
  have a1:E12 (Fp12.km (Fp12.km FF II) (Fp12.ki FF)) (Fp12.km k1 (Fp12.ki FF)):=Fp12.km_congr inv_F E12.rfl
  have a2:Fp12.km (Fp12.km FF II) (Fp12.ki FF)=Fp12.km II (Fp12.km FF (Fp12.ki FF)):=by
   rw[Fp12.km_comm (p:=FF) (q:=II),Fp12.km_assoc]
  rw[a2,Fp12.km_one'] at a1
  have a3:E12 (Fp12.km II (Fp12.km FF (Fp12.ki FF))) (Fp12.km II k1):=Fp12.km_congr E12.rfl (km_ki hF)
  rw[Fp12.km_one] at a3
  exact a3.symm.trans a1
 have e2:=((finR_eq hi).trans (fin_kp hF)).trans e1
 exact fin_ne (e2.1.1.1.trans (by decide +kernel))
end Pk
namespace S16N
set_option maxRecDepth 100000
open Go Reg Base Ring Ab Ec Fp Fp2 Fp6 Fp12 Frob Pk Pts Limb SubM S14D S15D S16M S16V
theorem kill1 {A:Pt Int}(h:inB G1K.K1 (G1K.K1.F.int 4) rN A=true):∃a:OnP FI 4 A,E1g.nx 52435875175126190479447740508185965837690552500527637822603658699938581184513 (mk FI A a)=E1g.O:=by
 obtain⟨h1,h2⟩:=(inB_iff G1K.K1).1 h
 exact⟨h1,(tor_nx FI Ord1.hb h1).1 h2⟩
theorem kill2 {A:Pt Fp2.G}(h:inB G2K.K2 G2K.bb rN A=true):∃a:OnP FG (4,4) A,E2g.nx 52435875175126190479447740508185965837690552500527637822603658699938581184513 (mk FG A a)=E2g.O:=by
 obtain⟨h1,h2⟩:=(inB_iff G2K.K2).1 h
 exact⟨h1,(tor_nx FG Ord2.hb h1).1 h2⟩
section
variable {x y:List Int} {b c:Bool} {P:Pt Int} {Q:Pt Fp2.G}
theorem pc (hP:inB G1K.K1 (G1K.K1.F.int 4) rN P=true)(e:OnP FG (4,4) Q)(h1:EqP FI (ptv G1K.K1 x b) P)(h2:EqP FG (ptv G2K.K2 y c) Q):cw (lpW x b y c)∧(ug FK).add (cc (lpW x b y c)) (ev (mk FG Q e) P)=(ug FK).O:=by
 have hX:inB G1K.K1 (G1K.K1.F.int 4) rN (ptv G1K.K1 x b)=true:=(inB_eq G1K.K1 h1).trans hP
 obtain⟨a,ha⟩:=kill1 hX
 have e2:OnP FG (4,4) (ptv G2K.K2 y c):=onP_eq FG (eqP_symm FG h2) e
 obtain⟨k1,k2⟩:=lp_cl a ha e2
 refine⟨k1,?_⟩
 rw[ev_eq h1,mk_eq FG (h:=e2) (k:=e) h2] at k2
 exact k2
end
theorem both_t {x y:List Int}{b c:Bool}(h:inB G1K.K1 (G1K.K1.F.int 4) rN (ptv G1K.K1 x b)=true)(k:inB G2K.K2 G2K.bb rN (ptv G2K.K2 y c)=true):both x b y c=true:=by rw[both,h,k];rfl
theorem prW_on {x y:List Int}{b c:Bool}(h:both x b y c=true):prW x b y c=fiW (lpW x b y c):=if_pos h
section
variable {γ:Type} (A:Ab γ)
theorem inv_eq' {a b e:γ}(h:A.add a e=A.O)(k:A.add b e=A.O):a=b:=A.cancel_r (h.trans k.symm)
theorem inv_nx {a e:γ}(h:A.add a e=A.O)(n:Nat):A.add (A.nx n a) (A.nx n e)=A.O:=by rw[←nx_sum,h,nx_O]
theorem inv_ad {a b e f:γ}(h:A.add a e=A.O)(k:A.add b f=A.O):A.add (A.add a b) (A.add e f)=A.O:=by rw[A.swap,h,k,A.zero]
end
abbrev B1:List Int:=S12R.BL
abbrev B2:List Int:=S13R.BL
theorem p0_:ptv G1K.K1 B1 false=some (x0_,y0_):=b1
theorem q0_:ptv G2K.K2 B2 false=some (bx,by_):=b2
theorem in_inf:inB G1K.K1 (G1K.K1.F.int 4) rN (ptv G1K.K1 [0,0,0,0,0,0,0,0,0,0,0,0] true)=true:=by rw[ptv_t];exact in_none G1K.K1
theorem inf_one:prW [0,0,0,0,0,0,0,0,0,0,0,0] true B2 false=O72:=by
 rw[prW_on (both_t in_inf in2)]
 obtain⟨h1,h2⟩:=pc (x:=[0,0,0,0,0,0,0,0,0,0,0,0]) (b:=true) (P:=none) (in_none G1K.K1) on_b (by rw[ptv_t];exact eqP_refl FI _) (by rw[q0_];exact eqP_refl FG _)
 rw[show ev (mk FG _ on_b) none=(ug FK).O from rfl,(ug FK).zero] at h2
 exact fi_one h1 h2
theorem base_cl:cw (lpW B1 false B2 false)∧(ug FK).add (cc (lpW B1 false B2 false)) (ev (mk FG _ on_b) (some (x0_,y0_)))=(ug FK).O:=
 pc (by rw[←p0_];exact in1) on_b (by rw[p0_];exact eqP_refl FI _) (by rw[q0_];exact eqP_refl FG _)
theorem base_w:prW B1 false B2 false=fiW (lpW B1 false B2 false):=prW_on (both_t in1 in2)
theorem base_ne1:¬prW B1 false B2 false=O72:=fun h=>by
 rw[base_w] at h
 obtain⟨h1,h2⟩:=base_cl
 obtain⟨k,hk⟩:=fi_uk h1
 have e:E12 (v12 (fiW (lpW B1 false B2 false))) k1:=by
  rw[h,v12_O72]
  exact E12.rfl
 have hO:cc (lpW B1 false B2 false)=(ug FK).O:=hk.symm.trans (uk_eq FK (k:=one_ne FK) (fk_eq.2 e))
 rw[hO,(ug FK).zero'] at h2
 exact nd h2
theorem base_ne0:¬prW B1 false B2 false=List.replicate 72 0:=by
 rw[base_w]
 exact fi_ne base_cl.1
theorem off_both:both [0,0,0,0,0,0,0,0,0,0,0,0] false B2 false=false:=by
 rw[both,inB_off G1K.K1 (by decide +kernel),Bool.false_and]
end S16N
namespace S16L
open Go Go.RowKit Reg Base Limb Sx Fp Fp2 Fp6 Fp12 Ec Pts Frob SubM S15D S16V Pk S16W S14D S16N
set_option maxHeartbeats 1000000
set_option maxRecDepth 100000 in
theorem lPow12:ConG Tryz.prog GlobD 19 [.w 72,.sl] G1K.Pre0 (oWS fun a m=>.agg [.nums 72 (F12 (Fp12.kp (v12 a) m))]):=conPow S10P.lPow
def L00:List (Fact Tryz.prog GlobD):=S10.qOne.fact (.con Tryz.func12 rfl (by decide) S10.qOne) ::
 S10.lMul.fact (.con Tryz.func14 rfl (by decide) S10.lMul) ::
 S10.lReduce.fact (.con Tryz.func25 rfl (by decide) S10.lReduce) ::
 []
def TN:List (FuncId×Ent2):=[]
theorem TN_ok:TOk2 Tryz.prog GlobD TN:=trivial
def XN:Cx:=((Cx.of [(28,6),(30,12),(34,72)] (tb L00)).eqs [(41,12),(43,24)]).more TN
theorem XN_ok:CxOk Tryz.prog XN GlobD:=((cx_ok (E:=[(28,6),(30,12),(34,72)]) L00 ⟨⟨G1K.eqF,G1K.gdF⟩,⟨G2K.eqF,G2K.gdF⟩,⟨eqokk,gdk⟩,trivial⟩ (by kernel_rfl)).eqs (EM:=[(41,12),(43,24)]) ⟨⟨G1K.eqG,G1K.gdG⟩,⟨G2K.eqG,G2K.gdG⟩,trivial⟩).more TN_ok
def L0:List (Fact Tryz.prog GlobD):=⟨23,entI 23 XN 9,.inline XN_ok GlobD.keep Tryz.func23 rfl (by decide)⟩ ::
 L00
def TL0:List (FuncId×Ent2):=[(58,entG [.p 12] G1K.Pre0 (G1K.o1 fun x b=>G1K.PA (negP G1K.K1.F (ptv G1K.K1 x b)))),(21,entG [.p 12,.p 12] G1K.Pre0 (G1K.o2 fun x b y c=>G1K.PA (addP G1K.K1.F (ptv G1K.K1 x b) (ptv G1K.K1 y c)))),(15,entG [.sl,.p 12] G1K.Pre0 (S12R.oM S12R.mulA)),(16,entG [] G1K.Pre0 (S12R.o0 S12R.BP)),(22,entG [.p 24] G2K.Pre0 (G2K.o1 fun x b=>G2K.PA (negP G2K.K2.F (ptv G2K.K2 x b)))),(115,entG [.p 24,.p 24] G2K.Pre0 (G2K.o2 fun x b y c=>G2K.PA (addP G2K.K2.F (ptv G2K.K2 x b) (ptv G2K.K2 y c)))),(17,entG [.sl,.p 24] G2K.Pre0 (S13R.oM S13R.mulA)),(18,entG [] G2K.Pre0 (S13R.o0 S13R.BP)),(26,entG [.p 12] G1K.Pre0 (G1K.o1 fun x b=>.bl (inB G1K.K1 (G1K.K1.F.int 4) rN (ptv G1K.K1 x b)))),(27,entG [.p 24] G2K.Pre0 (G2K.o1 fun x b=>.bl (inB G2K.K2 G2K.bb rN (ptv G2K.K2 x b)))),(24,entG [.w 72] G1K.Pre0 (o72 fun a=>.agg [.nums 72 (fiW a)])),(13,entG [.p 12,.p 24] G1K.Pre0 (S15D.oP fun x b y c=>S16V.prA x b y c)),(19,entG [.w 72,.sl] G1K.Pre0 (oWS fun a m=>.agg [.nums 72 (F12 (Fp12.kp (v12 a) m))]))]
theorem TL0_ok:TOk2 Tryz.prog GlobD TL0:=⟨.conG Tryz.func58 rfl (by decide) S12O.lNeg,.conG Tryz.func21 rfl (by decide) S12O.lAdd,.conG Tryz.func15 rfl (by decide) S12O.lMul,.conG Tryz.func16 rfl (by decide) S12O.lBase,.conG Tryz.func22 rfl (by decide) S13O.lNeg,.conG Tryz.func115 rfl (by decide) S13O.lAdd,.conG Tryz.func17 rfl (by decide) S13O.lMul,.conG Tryz.func18 rfl (by decide) S13O.lBase,.conG Tryz.func26 rfl (by decide) S14O.lIn1,.conG Tryz.func27 rfl (by decide) S14O.lIn2,.conG Tryz.func24 rfl (by decide) S16O.lFinal,.conG Tryz.func13 rfl (by decide) S16O.lPair,.conG Tryz.func19 rfl (by decide) lPow12,trivial⟩
def LJ:List (Fact Tryz.prog GlobD):=⟨29,entI 29 XN 9,.inline XN_ok GlobD.keep Tryz.func29 rfl (by decide)⟩ ::
 L0
def TJ:List (FuncId×Ent2):=[(24,entG [.w 72] G1K.Pre0 (o72 fun a=>.agg [.nums 72 (fiW a)])),(28,entG [.p 12,.p 24] G1K.Pre0 (S15D.oP fun x b y c=>S16V.mlA x b y c))]
theorem TJ_ok:TOk2 Tryz.prog GlobD TJ:=⟨.conG Tryz.func24 rfl (by decide) S16O.lFinal,.conG Tryz.func28 rfl (by decide) S16O.lMil,trivial⟩
def XJ:Cx:=((Cx.of [(28,6),(30,12),(34,72)] (tb LJ)).eqs [(41,12),(43,24)]).more TJ
theorem XJ_ok:CxOk Tryz.prog XJ GlobD:=((cx_ok (E:=[(28,6),(30,12),(34,72)]) LJ ⟨⟨G1K.eqF,G1K.gdF⟩,⟨G2K.eqF,G2K.gdF⟩,⟨eqokk,gdk⟩,trivial⟩ (by kernel_rfl)).eqs (EM:=[(41,12),(43,24)]) ⟨⟨G1K.eqG,G1K.gdG⟩,⟨G2K.eqG,G2K.gdG⟩,trivial⟩).more TJ_ok
noncomputable def TP (q:List Bool):List (FuncId×Ent2):=(11,entQ Tryz.prog 11 XJ 9 q) :: TL0
theorem TP_ok (q:List Bool):TOk2 Tryz.prog GlobD (TP q):=⟨.inlineQ XJ_ok GlobD.keep Tryz.func11 rfl (by decide),TL0_ok⟩
noncomputable def XL (q:List Bool):Cx:=((Cx.of [(28,6),(30,12),(34,72)] (tb L0)).eqs [(41,12),(43,24)]).more (TP q)
theorem XL_ok (q:List Bool):CxOk Tryz.prog (XL q) GlobD:=((cx_ok (E:=[(28,6),(30,12),(34,72)]) L0 ⟨⟨G1K.eqF,G1K.gdF⟩,⟨G2K.eqF,G2K.gdF⟩,⟨eqokk,gdk⟩,trivial⟩ (by kernel_rfl)).eqs (EM:=[(41,12),(43,24)]) ⟨⟨G1K.eqG,G1K.gdG⟩,⟨G2K.eqG,G2K.gdG⟩,trivial⟩).more (TP_ok q)
set_option maxRecDepth 100000 in
theorem awake:ConG Tryz.prog GlobD 9 [] G1K.Pre0 (S12R.o0 (.val (.bool true))):=S12R.con0 (fun n=>trivial) (fun gs=>rfl) (fun w hG=>fn_outS (N:=9) (XL_ok []) GlobD.keep Tryz.func9 [] (fun s hs=>by cases hs) (G1K.noSS hG) (args:=[]) (q:=[true,true,true,true,false,false,true]) (v:=(.bl true)) (obs:=[qb true (prW [0,0,0,0,0,0,0,0,0,0,0,0] true S13R.BL false=O72),qb true ((if both [0,0,0,0,0,0,0,0,0,0,0,0] true S13R.BL false=true then (0:Int) else 140)=0),qb true (fiW O72=O72),qb true ((if both [0,0,0,0,0,0,0,0,0,0,0,0] false S13R.BL false=true then (0:Int) else 140)=140),qb false (prW S12R.BL false S13R.BL false=O72),qb false (prW S12R.BL false S13R.BL false=List.replicate 72 0),qb true ((if both S12R.BL false S13R.BL false=true then (0:Int) else 140)=0)]) 1 (by kernel_rfl) (hp (inf_one) (hp (if_pos (both_t in_inf in2)) (hp (fi_o72) (hp (if_neg (by rw[off_both];decide)) (hp (base_ne1) (hp (base_ne0) (hp (if_pos (both_t in1 in2)) trivial))))))) (fun v hv=>by cases hv) rfl rfl)
def TA:List (FuncId×Ent2):=[(9,entG [] G1K.Pre0 (S12R.o0 (.val (.bool true)))),(58,entG [.p 12] G1K.Pre0 (G1K.o1 fun x b=>G1K.PA (negP G1K.K1.F (ptv G1K.K1 x b)))),(21,entG [.p 12,.p 12] G1K.Pre0 (G1K.o2 fun x b y c=>G1K.PA (addP G1K.K1.F (ptv G1K.K1 x b) (ptv G1K.K1 y c)))),(15,entG [.sl,.p 12] G1K.Pre0 (S12R.oM S12R.mulA)),(16,entG [] G1K.Pre0 (S12R.o0 S12R.BP)),(22,entG [.p 24] G2K.Pre0 (G2K.o1 fun x b=>G2K.PA (negP G2K.K2.F (ptv G2K.K2 x b)))),(115,entG [.p 24,.p 24] G2K.Pre0 (G2K.o2 fun x b y c=>G2K.PA (addP G2K.K2.F (ptv G2K.K2 x b) (ptv G2K.K2 y c)))),(17,entG [.sl,.p 24] G2K.Pre0 (S13R.oM S13R.mulA)),(18,entG [] G2K.Pre0 (S13R.o0 S13R.BP)),(26,entG [.p 12] G1K.Pre0 (G1K.o1 fun x b=>.bl (inB G1K.K1 (G1K.K1.F.int 4) rN (ptv G1K.K1 x b)))),(27,entG [.p 24] G2K.Pre0 (G2K.o1 fun x b=>.bl (inB G2K.K2 G2K.bb rN (ptv G2K.K2 x b)))),(24,entG [.w 72] G1K.Pre0 (o72 fun a=>.agg [.nums 72 (fiW a)])),(13,entG [.p 12,.p 24] G1K.Pre0 (S15D.oP fun x b y c=>S16V.prA x b y c)),(19,entG [.w 72,.sl] G1K.Pre0 (oWS fun a m=>.agg [.nums 72 (F12 (Fp12.kp (v12 a) m))]))]
theorem TA_ok:TOk2 Tryz.prog GlobD TA:=⟨.conG Tryz.func9 rfl (by decide) awake,.conG Tryz.func58 rfl (by decide) S12O.lNeg,.conG Tryz.func21 rfl (by decide) S12O.lAdd,.conG Tryz.func15 rfl (by decide) S12O.lMul,.conG Tryz.func16 rfl (by decide) S12O.lBase,.conG Tryz.func22 rfl (by decide) S13O.lNeg,.conG Tryz.func115 rfl (by decide) S13O.lAdd,.conG Tryz.func17 rfl (by decide) S13O.lMul,.conG Tryz.func18 rfl (by decide) S13O.lBase,.conG Tryz.func26 rfl (by decide) S14O.lIn1,.conG Tryz.func27 rfl (by decide) S14O.lIn2,.conG Tryz.func24 rfl (by decide) S16O.lFinal,.conG Tryz.func13 rfl (by decide) S16O.lPair,.conG Tryz.func19 rfl (by decide) lPow12,trivial⟩
def XA:Cx:=((Cx.of [(28,6),(30,12),(34,72)] (tb L0)).eqs [(41,12),(43,24)]).more TA
theorem XA_ok:CxOk Tryz.prog XA GlobD:=((cx_ok (E:=[(28,6),(30,12),(34,72)]) L0 ⟨⟨G1K.eqF,G1K.gdF⟩,⟨G2K.eqF,G2K.gdF⟩,⟨eqokk,gdk⟩,trivial⟩ (by kernel_rfl)).eqs (EM:=[(41,12),(43,24)]) ⟨⟨G1K.eqG,G1K.gdG⟩,⟨G2K.eqG,G2K.gdG⟩,trivial⟩).more TA_ok
def XI:Cx:=XA.made [(20,SxR.entMul)]
theorem XI_ok:CxOk Tryz.prog XI GlobD:=XA_ok.made (T3:=[(20,SxR.entMul)]) ⟨SxR.eMul,trivial⟩
theorem kw_v {k:List Int}(hk:Nm 12 k):v12 (k++List.replicate 24 0++List.replicate 36 0)=((v2 k,(0,0),(0,0)),((0,0),(0,0),(0,0))):=by
 have e:v12 (k++List.replicate 24 0++List.replicate 36 0)=((v2 k,v2 (List.replicate 12 (0:Int)),v2 (List.replicate 12 (0:Int))),(v2 (List.replicate 12 (0:Int)),v2 (List.replicate 12 (0:Int)),v2 (List.replicate 12 (0:Int)))):=by
  have hl:=hk.len
  match k,hl with
  |[_,_,_,_,_,_,_,_,_,_,_,_],_=>rfl
 rw[e,S15N.zv]
theorem kw_fix {k:List Int}(hk:Nm 12 k):E12 (Fp12.kc (v12 (k++List.replicate 24 0++List.replicate 36 0))) (v12 (k++List.replicate 24 0++List.replicate 36 0)):=by
 rw[kw_v hk]
 exact E12.rfl
theorem kw_one {k:List Int}(hk:Nm 12 k)(h:¬F12 (v12 (k++List.replicate 24 0++List.replicate 36 0))=List.replicate 72 (0:Int)):fiW (k++List.replicate 24 0++List.replicate 36 0)=O72:=by
 have h1:cw (k++List.replicate 24 0++List.replicate 36 0):=fun z=>h ((Fz _).2 z)
 exact fi_one h1 (cl_fix (N:=NN) (N':=_) rfl h1 (kw_fix hk))
theorem kw_zero {k:List Int}(h:F12 (v12 (k++List.replicate 24 0++List.replicate 36 0))=List.replicate 72 (0:Int)):fiW (k++List.replicate 24 0++List.replicate 36 0)=List.replicate 72 (0:Int):=fi_zero ((Fz _).1 h)
theorem fo_r {f:List Int}(h:¬F12 (v12 f)=List.replicate 72 (0:Int)):F12 (Fp12.kp (v12 (fiW f)) (Limb.num S14D.rL).toNat)=O72:=by
 rw[S14D.r_num]
 exact fi_r (fun z=>h ((Fz _).2 z))
theorem fo_ne {f:List Int}(h:¬F12 (v12 f)=List.replicate 72 (0:Int)):¬fiW f=List.replicate 72 (0:Int):=fi_ne (fun z=>h ((Fz _).2 z))
set_option maxRecDepth 100000 in
theorem orders (f:List Int)(hf:Nm 72 f)(g:List Int)(hg:Nm 72 g)(k:List Int)(hk:Nm 12 k)(w:World)(hG:GlobD w):Calls Tryz.prog 7 #[.agg (vals .u64 f),.agg (vals .u64 g),.agg (vals .u64 k)] w fun e w'=>e=.returned (.bool true)∧RowKit.Below w.heap.size w w':=by
 by_cases z:F12 (v12 f)=List.replicate 72 (0:Int)<;>by_cases y:F12 (v12 (k++List.replicate 24 0++List.replicate 36 0))=List.replicate 72 (0:Int)
 ·exact fn_outS (N:=9) XA_ok GlobD.keep Tryz.func7 [] (fun s hs=>by cases hs) (G1K.noSS hG) (args:=[.agg [.nums 72 f],.agg [.nums 72 g],.agg [.nums 12 k]]) (q:=[true,true,true,true,true]) (v:=(.bl true)) (obs:=[qb true (F12 (v12 f)=List.replicate 72 0),qb true (fiW f=List.replicate 72 0),qb true (F12 (v12 (k++List.replicate 24 0++List.replicate 36 0))=List.replicate 72 0),qb true (fiW (F12 (Fp12.km (v12 f) (v12 g)))=F12 (Fp12.km (v12 (fiW f)) (v12 (fiW g)))),qb true (fiW (k++List.replicate 24 0++List.replicate 36 0)=List.replicate 72 0)]) 1 (by kernel_rfl) (hp (z) (hp ((fi_zero ((Fz _).1 z))) (hp (y) (hp (fo_mul f g) (hp (kw_zero y) trivial))))) (fun v hv=>by
   simp only[List.mem_cons,List.not_mem_nil,or_false] at hv
   rcases hv with rfl|rfl|rfl
   ·exact⟨hf,trivial⟩
   ·exact⟨hg,trivial⟩
   ·exact⟨hk,trivial⟩) rfl (by first|(simp only[List.map_cons,List.map_nil,G1K.p_den,G2K.p_den,S15D.w_den];rfl)|simp only[List.map_cons,List.map_nil,G1K.p_den,G2K.p_den,S15D.w_den])
 ·exact fn_outS (N:=9) XA_ok GlobD.keep Tryz.func7 [] (fun s hs=>by cases hs) (G1K.noSS hG) (args:=[.agg [.nums 72 f],.agg [.nums 72 g],.agg [.nums 12 k]]) (q:=[true,true,false,true,true]) (v:=(.bl true)) (obs:=[qb true (F12 (v12 f)=List.replicate 72 0),qb true (fiW f=List.replicate 72 0),qb false (F12 (v12 (k++List.replicate 24 0++List.replicate 36 0))=List.replicate 72 0),qb true (fiW (F12 (Fp12.km (v12 f) (v12 g)))=F12 (Fp12.km (v12 (fiW f)) (v12 (fiW g)))),qb true (fiW (k++List.replicate 24 0++List.replicate 36 0)=O72)]) 1 (by kernel_rfl) (hp (z) (hp ((fi_zero ((Fz _).1 z))) (hp (y) (hp (fo_mul f g) (hp (kw_one hk y) trivial))))) (fun v hv=>by
   simp only[List.mem_cons,List.not_mem_nil,or_false] at hv
   rcases hv with rfl|rfl|rfl
   ·exact⟨hf,trivial⟩
   ·exact⟨hg,trivial⟩
   ·exact⟨hk,trivial⟩) rfl (by first|(simp only[List.map_cons,List.map_nil,G1K.p_den,G2K.p_den,S15D.w_den];rfl)|simp only[List.map_cons,List.map_nil,G1K.p_den,G2K.p_den,S15D.w_den])
 ·exact fn_outS (N:=9) XA_ok GlobD.keep Tryz.func7 [] (fun s hs=>by cases hs) (G1K.noSS hG) (args:=[.agg [.nums 72 f],.agg [.nums 72 g],.agg [.nums 12 k]]) (q:=[false,false,true,true,true,true]) (v:=(.bl true)) (obs:=[qb false (F12 (v12 f)=List.replicate 72 0),qb false (fiW f=List.replicate 72 0),4≤10000,qb true (F12 (Fp12.kp (v12 (fiW f)) (Limb.num S14D.rL).toNat)=O72),qb true (F12 (v12 (k++List.replicate 24 0++List.replicate 36 0))=List.replicate 72 0),qb true (fiW (F12 (Fp12.km (v12 f) (v12 g)))=F12 (Fp12.km (v12 (fiW f)) (v12 (fiW g)))),qb true (fiW (k++List.replicate 24 0++List.replicate 36 0)=List.replicate 72 0)]) 1 (by kernel_rfl) (hp (z) (hp (fo_ne z) (hp (by decide) (hp (fo_r z) (hp (y) (hp (fo_mul f g) (hp (kw_zero y) trivial))))))) (fun v hv=>by
   simp only[List.mem_cons,List.not_mem_nil,or_false] at hv
   rcases hv with rfl|rfl|rfl
   ·exact⟨hf,trivial⟩
   ·exact⟨hg,trivial⟩
   ·exact⟨hk,trivial⟩) rfl (by first|(simp only[List.map_cons,List.map_nil,G1K.p_den,G2K.p_den,S15D.w_den];rfl)|simp only[List.map_cons,List.map_nil,G1K.p_den,G2K.p_den,S15D.w_den])
 ·exact fn_outS (N:=9) XA_ok GlobD.keep Tryz.func7 [] (fun s hs=>by cases hs) (G1K.noSS hG) (args:=[.agg [.nums 72 f],.agg [.nums 72 g],.agg [.nums 12 k]]) (q:=[false,false,true,false,true,true]) (v:=(.bl true)) (obs:=[qb false (F12 (v12 f)=List.replicate 72 0),qb false (fiW f=List.replicate 72 0),4≤10000,qb true (F12 (Fp12.kp (v12 (fiW f)) (Limb.num S14D.rL).toNat)=O72),qb false (F12 (v12 (k++List.replicate 24 0++List.replicate 36 0))=List.replicate 72 0),qb true (fiW (F12 (Fp12.km (v12 f) (v12 g)))=F12 (Fp12.km (v12 (fiW f)) (v12 (fiW g)))),qb true (fiW (k++List.replicate 24 0++List.replicate 36 0)=O72)]) 1 (by kernel_rfl) (hp (z) (hp (fo_ne z) (hp (by decide) (hp (fo_r z) (hp (y) (hp (fo_mul f g) (hp (kw_one hk y) trivial))))))) (fun v hv=>by
   simp only[List.mem_cons,List.not_mem_nil,or_false] at hv
   rcases hv with rfl|rfl|rfl
   ·exact⟨hf,trivial⟩
   ·exact⟨hg,trivial⟩
   ·exact⟨hk,trivial⟩) rfl (by first|(simp only[List.map_cons,List.map_nil,G1K.p_den,G2K.p_den,S15D.w_den];rfl)|simp only[List.map_cons,List.map_nil,G1K.p_den,G2K.p_den,S15D.w_den])
theorem lin {A:Pt Int}{Q:Pt Fp2.G}{m n:Nat}(hA:Mult FI m (some (x0_,y0_):Pt Int) A)(hQ:Mult FG n (some (bx,by_):Pt Fp2.G) Q){x y:List Int}{b c:Bool}(h1:EqP FI (ptv G1K.K1 x b) A)(h2:EqP FG (ptv G2K.K2 y c) Q)(i1:inB G1K.K1 (G1K.K1.F.int 4) rN A=true)(i2:inB G2K.K2 G2K.bb rN Q=true):both x b y c=true∧cw (lpW x b y c)∧cc (lpW x b y c)=(ug FK).nx (m*n) (cc (lpW S16N.B1 false S16N.B2 false)):=by
 have oq:OnP FG (4,4) Q:=((inB_iff G2K.K2).1 i2).1
 have hb:=both_t ((inB_eq G1K.K1 h1).trans i1) ((inB_eq G2K.K2 h2).trans i2)
 obtain⟨k1,k2⟩:=pc i1 oq h1 h2
 obtain⟨a,ha⟩:=kill1 (A:=(some (x0_,y0_):Pt Int)) (by rw[←p0_];exact in1)
 have e1:mk FG Q oq=E2g.nx n (mk FG _ on_b):=(nx_mk FG Ord2.hb hQ).symm
 rw[e1,ev_np a ha (fr_nx b_fr n) hA,ev_nq a ha b_fr n,←Go.Proofs.YtfjiinaekcibhaaGreatDoor.Ab.nx_mul] at k2
 exact⟨hb,k1,inv_eq' (ug FK) k2 (inv_nx (ug FK) base_cl.2 (m*n))⟩
theorem m_a (a:Int):Mult FI (num [a]).toNat (some (x0_,y0_):Pt Int) (mulO G1K.K1 (G1K.K1.F.int 4) (num [a]).toNat (ptv G1K.K1 S12R.BL false)):=by
 have h:=mo_mult G1K.K1 on_b1 (num [a]).toNat
 have e:ptv G1K.K1 S12R.BL false=(some (x0_,y0_):Pt Int):=p0_
 exact (congrArg (fun X=>Mult FI (num [a]).toNat X (mulO G1K.K1 (G1K.K1.F.int 4) (num [a]).toNat (ptv G1K.K1 S12R.BL false))) e).mp h
theorem m_c (a:Int):Mult FG (num [a]).toNat (some (bx,by_):Pt Fp2.G) (mulO G2K.K2 G2K.bb (num [a]).toNat (ptv G2K.K2 S13R.BL false)):=by
 have h:=mo_mult G2K.K2 on_b2 (num [a]).toNat
 have e:ptv G2K.K2 S13R.BL false=(some (bx,by_):Pt Fp2.G):=q0_
 exact (congrArg (fun X=>Mult FG (num [a]).toNat X (mulO G2K.K2 G2K.bb (num [a]).toNat (ptv G2K.K2 S13R.BL false))) e).mp h
theorem i_a (a:Int):inB G1K.K1 (G1K.K1.F.int 4) rN (mulO G1K.K1 (G1K.K1.F.int 4) (num [a]).toNat (ptv G1K.K1 S12R.BL false))=true:=in_mo G1K.K1 ne1 in1 _
theorem i_c (a:Int):inB G2K.K2 G2K.bb rN (mulO G2K.K2 G2K.bb (num [a]).toNat (ptv G2K.K2 S13R.BL false))=true:=in_mo G2K.K2 ne2 in2 _
theorem lin_e (a b:Int):both (ptW G1K.K1 (mulO G1K.K1 (G1K.K1.F.int 4) (num [a]).toNat (ptv G1K.K1 S12R.BL false))) (ptB (mulO G1K.K1 (G1K.K1.F.int 4) (num [a]).toNat (ptv G1K.K1 S12R.BL false))) (ptW G2K.K2 (mulO G2K.K2 G2K.bb (num [b]).toNat (ptv G2K.K2 S13R.BL false))) (ptB (mulO G2K.K2 G2K.bb (num [b]).toNat (ptv G2K.K2 S13R.BL false)))=true∧cw (lpW (ptW G1K.K1 (mulO G1K.K1 (G1K.K1.F.int 4) (num [a]).toNat (ptv G1K.K1 S12R.BL false))) (ptB (mulO G1K.K1 (G1K.K1.F.int 4) (num [a]).toNat (ptv G1K.K1 S12R.BL false))) (ptW G2K.K2 (mulO G2K.K2 G2K.bb (num [b]).toNat (ptv G2K.K2 S13R.BL false))) (ptB (mulO G2K.K2 G2K.bb (num [b]).toNat (ptv G2K.K2 S13R.BL false))))∧cc (lpW (ptW G1K.K1 (mulO G1K.K1 (G1K.K1.F.int 4) (num [a]).toNat (ptv G1K.K1 S12R.BL false))) (ptB (mulO G1K.K1 (G1K.K1.F.int 4) (num [a]).toNat (ptv G1K.K1 S12R.BL false))) (ptW G2K.K2 (mulO G2K.K2 G2K.bb (num [b]).toNat (ptv G2K.K2 S13R.BL false))) (ptB (mulO G2K.K2 G2K.bb (num [b]).toNat (ptv G2K.K2 S13R.BL false))))=(ug FK).nx ((num [a]).toNat*(num [b]).toNat) (cc (lpW S16N.B1 false S16N.B2 false)):=
 lin (m_a a) (m_c b) (ptv_out G1K.K1 _) (ptv_out G2K.K2 _) (i_a a) (i_c b)
theorem mab (a b:Int)(ha:0≤a∧a<18446744073709551616)(hb:0≤b∧b<18446744073709551616):(num (wd 2 (num [a]*num [b]))).toNat=(num [a]).toNat*(num [b]).toNat:=by
 have h1:num [a]=a:=by rw[num_cons,num_nil];omega
 have h2:num [b]=b:=by rw[num_cons,num_nil];omega
 have h3:(0:Int)≤a*b:=Int.mul_nonneg ha.1 hb.1
 have h4:a*b<wp 2:=by
  rw[show wp 2=18446744073709551616*18446744073709551616 by decide +kernel]
  exact Int.lt_of_le_of_lt (Int.mul_le_mul_of_nonneg_right (Int.le_of_lt ha.2) hb.1) (Int.mul_lt_mul_of_pos_left hb.2 (by decide))
 rw[h1,h2,num_wd_of h3 h4,Int.toNat_mul ha.1 hb.1]
theorem lin_w (a b:Int)(ha:0≤a∧a<18446744073709551616)(hb:0≤b∧b<18446744073709551616):prW (ptW G1K.K1 (mulO G1K.K1 (G1K.K1.F.int 4) (num [a]).toNat (ptv G1K.K1 S12R.BL false))) (ptB (mulO G1K.K1 (G1K.K1.F.int 4) (num [a]).toNat (ptv G1K.K1 S12R.BL false))) (ptW G2K.K2 (mulO G2K.K2 G2K.bb (num [b]).toNat (ptv G2K.K2 S13R.BL false))) (ptB (mulO G2K.K2 G2K.bb (num [b]).toNat (ptv G2K.K2 S13R.BL false)))=F12 (Fp12.kp (v12 (prW S12R.BL false S13R.BL false)) (num (wd 2 (num [a]*num [b]))).toNat):=by
 obtain⟨h1,h2,h3⟩:=lin_e a b
 rw[mab a b ha hb,prW_on h1,base_w]
 exact fi_pow base_cl.1 h2 h3
set_option maxRecDepth 100000 in
theorem linear (a:Int)(ha:0≤a∧a<18446744073709551616)(b:Int)(hb:0≤b∧b<18446744073709551616)(w:World)(hG:GlobD w):Calls Tryz.prog 5 #[.int .u64 a,.int .u64 b] w fun e w'=>e=.returned (.bool true)∧RowKit.Below w.heap.size w w':=by
 exact fn_outS (N:=9) XI_ok GlobD.keep Tryz.func5 [] (fun s hs=>by cases hs) (G1K.noSS hG) (args:=[.num .u64 a,.num .u64 b]) (q:=[true,true,true]) (v:=(.bl true)) (obs:=[1≤10000,1≤10000,qb true ((if both (ptW G1K.K1 (mulO G1K.K1 (G1K.K1.F.int 4) (num [a]).toNat (ptv G1K.K1 S12R.BL false))) (ptB (mulO G1K.K1 (G1K.K1.F.int 4) (num [a]).toNat (ptv G1K.K1 S12R.BL false))) (ptW G2K.K2 (mulO G2K.K2 G2K.bb (num [b]).toNat (ptv G2K.K2 S13R.BL false))) (ptB (mulO G2K.K2 G2K.bb (num [b]).toNat (ptv G2K.K2 S13R.BL false)))=true then (0:Int) else 140)=0),qb true ((if both S12R.BL false S13R.BL false=true then (0:Int) else 140)=0),2≤10000,qb true (prW (ptW G1K.K1 (mulO G1K.K1 (G1K.K1.F.int 4) (num [a]).toNat (ptv G1K.K1 S12R.BL false))) (ptB (mulO G1K.K1 (G1K.K1.F.int 4) (num [a]).toNat (ptv G1K.K1 S12R.BL false))) (ptW G2K.K2 (mulO G2K.K2 G2K.bb (num [b]).toNat (ptv G2K.K2 S13R.BL false))) (ptB (mulO G2K.K2 G2K.bb (num [b]).toNat (ptv G2K.K2 S13R.BL false)))=F12 (Fp12.kp (v12 (prW S12R.BL false S13R.BL false)) (num (wd 2 (num [a]*num [b]))).toNat)),2≤10000,qb true (prW (ptW G1K.K1 (mulO G1K.K1 (G1K.K1.F.int 4) (num [a]).toNat (ptv G1K.K1 S12R.BL false))) (ptB (mulO G1K.K1 (G1K.K1.F.int 4) (num [a]).toNat (ptv G1K.K1 S12R.BL false))) (ptW G2K.K2 (mulO G2K.K2 G2K.bb (num [b]).toNat (ptv G2K.K2 S13R.BL false))) (ptB (mulO G2K.K2 G2K.bb (num [b]).toNat (ptv G2K.K2 S13R.BL false)))=F12 (Fp12.kp (v12 (prW S12R.BL false S13R.BL false)) (num (wd 2 (num [a]*num [b]))).toNat))]) 2 (by kernel_rfl) (hp (by decide) (hp (by decide) (hp (if_pos (lin_e a b).1) (hp (if_pos (both_t in1 in2)) (hp (by decide) (hp (lin_w a b ha hb) (hp (by decide) (hp (lin_w a b ha hb) trivial)))))))) (fun v hv=>by
   simp only[List.mem_cons,List.not_mem_nil,or_false] at hv
   rcases hv with rfl|rfl
   ·exact ha
   ·exact hb) rfl (by first|(simp only[List.map_cons,List.map_nil,G1K.p_den,G2K.p_den,S15D.w_den];rfl)|simp only[List.map_cons,List.map_nil,G1K.p_den,G2K.p_den,S15D.w_den])
theorem ev0 {A:Pt Int}(a:OnP FI 4 A)(hA:E1g.nx 52435875175126190479447740508185965837690552500527637822603658699938581184513 (mk FI A a)=E1g.O):ev E2g.O A=(ug FK).O:=by
 have h:=ev_nq a hA (q:=E2g.O) (fr_O xx) 0
 exact h
theorem neg_nx {q:EG FG (4,4)}{n:Nat}(hn:0<n)(h:E2g.nx n q=E2g.O):E2g.neg q=E2g.nx (n-1) q:=by
 have e:=Go.Proofs.YtfjiinaekcibhaaGreatDoor.Ab.nx_neg E2g hn h 1
 rw[Go.Proofs.YtfjiinaekcibhaaGreatDoor.Ab.nx_one,Nat.mul_one] at e
 exact (E2g.neg_of e).symm
theorem fr_neg {q:EG FG (4,4)}(hq:Fr xx q)(h:E2g.nx 52435875175126190479447740508185965837690552500527637822603658699938581184513 q=E2g.O):Fr xx (E2g.neg q):=by
 rw[neg_nx (n:=52435875175126190479447740508185965837690552500527637822603658699938581184513) (by decide +kernel) h]
 exact fr_nx hq _
theorem q_c (c:Int):∃e:OnP FG (4,4) (mulO G2K.K2 G2K.bb (num [c]).toNat (ptv G2K.K2 S13R.BL false)),Fr xx (mk FG _ e)∧E2g.nx 52435875175126190479447740508185965837690552500527637822603658699938581184513 (mk FG _ e)=E2g.O:=by
 obtain⟨e,he⟩:=kill2 (i_c c)
 refine⟨e,?_,he⟩
 rw[show mk FG _ e=E2g.nx (num [c]).toNat (mk FG _ on_b) from (nx_mk FG Ord2.hb (m_c c)).symm]
 exact fr_nx b_fr _
theorem x_cl (a c:Int)(e:OnP FG (4,4) (mulO G2K.K2 G2K.bb (num [c]).toNat (ptv G2K.K2 S13R.BL false))):cw (lpW (ptW G1K.K1 (mulO G1K.K1 (G1K.K1.F.int 4) (num [a]).toNat (ptv G1K.K1 S12R.BL false))) (ptB (mulO G1K.K1 (G1K.K1.F.int 4) (num [a]).toNat (ptv G1K.K1 S12R.BL false))) (ptW G2K.K2 (mulO G2K.K2 G2K.bb (num [c]).toNat (ptv G2K.K2 S13R.BL false))) (ptB (mulO G2K.K2 G2K.bb (num [c]).toNat (ptv G2K.K2 S13R.BL false))))∧(ug FK).add (cc (lpW (ptW G1K.K1 (mulO G1K.K1 (G1K.K1.F.int 4) (num [a]).toNat (ptv G1K.K1 S12R.BL false))) (ptB (mulO G1K.K1 (G1K.K1.F.int 4) (num [a]).toNat (ptv G1K.K1 S12R.BL false))) (ptW G2K.K2 (mulO G2K.K2 G2K.bb (num [c]).toNat (ptv G2K.K2 S13R.BL false))) (ptB (mulO G2K.K2 G2K.bb (num [c]).toNat (ptv G2K.K2 S13R.BL false))))) (ev (mk FG _ e) (mulO G1K.K1 (G1K.K1.F.int 4) (num [a]).toNat (ptv G1K.K1 S12R.BL false)))=(ug FK).O:=pc (i_a a) e (ptv_out G1K.K1 _) (ptv_out G2K.K2 _)
theorem i_s (a b:Int):inB G1K.K1 (G1K.K1.F.int 4) rN (ptv G1K.K1 (ptW G1K.K1 (addP G1K.K1.F (ptv G1K.K1 (ptW G1K.K1 (mulO G1K.K1 (G1K.K1.F.int 4) (num [a]).toNat (ptv G1K.K1 S12R.BL false))) (ptB (mulO G1K.K1 (G1K.K1.F.int 4) (num [a]).toNat (ptv G1K.K1 S12R.BL false)))) (ptv G1K.K1 (ptW G1K.K1 (mulO G1K.K1 (G1K.K1.F.int 4) (num [b]).toNat (ptv G1K.K1 S12R.BL false))) (ptB (mulO G1K.K1 (G1K.K1.F.int 4) (num [b]).toNat (ptv G1K.K1 S12R.BL false)))))) (ptB (addP G1K.K1.F (ptv G1K.K1 (ptW G1K.K1 (mulO G1K.K1 (G1K.K1.F.int 4) (num [a]).toNat (ptv G1K.K1 S12R.BL false))) (ptB (mulO G1K.K1 (G1K.K1.F.int 4) (num [a]).toNat (ptv G1K.K1 S12R.BL false)))) (ptv G1K.K1 (ptW G1K.K1 (mulO G1K.K1 (G1K.K1.F.int 4) (num [b]).toNat (ptv G1K.K1 S12R.BL false))) (ptB (mulO G1K.K1 (G1K.K1.F.int 4) (num [b]).toNat (ptv G1K.K1 S12R.BL false)))))))=true:=in_add_v G1K.K1 ne1 (i_a a) (i_a b)
theorem i_n (c:Int):inB G2K.K2 G2K.bb rN (ptv G2K.K2 (ptW G2K.K2 (negP G2K.K2.F (ptv G2K.K2 (ptW G2K.K2 (mulO G2K.K2 G2K.bb (num [c]).toNat (ptv G2K.K2 S13R.BL false))) (ptB (mulO G2K.K2 G2K.bb (num [c]).toNat (ptv G2K.K2 S13R.BL false)))))) (ptB (negP G2K.K2.F (ptv G2K.K2 (ptW G2K.K2 (mulO G2K.K2 G2K.bb (num [c]).toNat (ptv G2K.K2 S13R.BL false))) (ptB (mulO G2K.K2 G2K.bb (num [c]).toNat (ptv G2K.K2 S13R.BL false)))))))=true:=in_neg_v G2K.K2 (i_c c)
theorem i_v (a:Int):inB G1K.K1 (G1K.K1.F.int 4) rN (ptv G1K.K1 (ptW G1K.K1 (mulO G1K.K1 (G1K.K1.F.int 4) (num [a]).toNat (ptv G1K.K1 S12R.BL false))) (ptB (mulO G1K.K1 (G1K.K1.F.int 4) (num [a]).toNat (ptv G1K.K1 S12R.BL false))))=true:=(inB_eq G1K.K1 (ptv_out G1K.K1 _)).trans (i_a a)
theorem i_w (c:Int):inB G2K.K2 G2K.bb rN (ptv G2K.K2 (ptW G2K.K2 (mulO G2K.K2 G2K.bb (num [c]).toNat (ptv G2K.K2 S13R.BL false))) (ptB (mulO G2K.K2 G2K.bb (num [c]).toNat (ptv G2K.K2 S13R.BL false))))=true:=(inB_eq G2K.K2 (ptv_out G2K.K2 _)).trans (i_c c)
theorem s_eq (a b:Int):EqP FI (ptv G1K.K1 (ptW G1K.K1 (addP G1K.K1.F (ptv G1K.K1 (ptW G1K.K1 (mulO G1K.K1 (G1K.K1.F.int 4) (num [a]).toNat (ptv G1K.K1 S12R.BL false))) (ptB (mulO G1K.K1 (G1K.K1.F.int 4) (num [a]).toNat (ptv G1K.K1 S12R.BL false)))) (ptv G1K.K1 (ptW G1K.K1 (mulO G1K.K1 (G1K.K1.F.int 4) (num [b]).toNat (ptv G1K.K1 S12R.BL false))) (ptB (mulO G1K.K1 (G1K.K1.F.int 4) (num [b]).toNat (ptv G1K.K1 S12R.BL false)))))) (ptB (addP G1K.K1.F (ptv G1K.K1 (ptW G1K.K1 (mulO G1K.K1 (G1K.K1.F.int 4) (num [a]).toNat (ptv G1K.K1 S12R.BL false))) (ptB (mulO G1K.K1 (G1K.K1.F.int 4) (num [a]).toNat (ptv G1K.K1 S12R.BL false)))) (ptv G1K.K1 (ptW G1K.K1 (mulO G1K.K1 (G1K.K1.F.int 4) (num [b]).toNat (ptv G1K.K1 S12R.BL false))) (ptB (mulO G1K.K1 (G1K.K1.F.int 4) (num [b]).toNat (ptv G1K.K1 S12R.BL false))))))) (addP FI (mulO G1K.K1 (G1K.K1.F.int 4) (num [a]).toNat (ptv G1K.K1 S12R.BL false)) (mulO G1K.K1 (G1K.K1.F.int 4) (num [b]).toNat (ptv G1K.K1 S12R.BL false))):=eqP_trans FI (ptv_out G1K.K1 _) (add_v G1K.K1 (eqP_refl FI _) (eqP_refl FI _))
theorem n_eq (c:Int):EqP FG (ptv G2K.K2 (ptW G2K.K2 (negP G2K.K2.F (ptv G2K.K2 (ptW G2K.K2 (mulO G2K.K2 G2K.bb (num [c]).toNat (ptv G2K.K2 S13R.BL false))) (ptB (mulO G2K.K2 G2K.bb (num [c]).toNat (ptv G2K.K2 S13R.BL false)))))) (ptB (negP G2K.K2.F (ptv G2K.K2 (ptW G2K.K2 (mulO G2K.K2 G2K.bb (num [c]).toNat (ptv G2K.K2 S13R.BL false))) (ptB (mulO G2K.K2 G2K.bb (num [c]).toNat (ptv G2K.K2 S13R.BL false))))))) (negP FG (mulO G2K.K2 G2K.bb (num [c]).toNat (ptv G2K.K2 S13R.BL false))):=eqP_trans FG (ptv_out G2K.K2 _) (neg_v G2K.K2 _)
theorem sum_w (a b c:Int):prW (ptW G1K.K1 (addP G1K.K1.F (ptv G1K.K1 (ptW G1K.K1 (mulO G1K.K1 (G1K.K1.F.int 4) (num [a]).toNat (ptv G1K.K1 S12R.BL false))) (ptB (mulO G1K.K1 (G1K.K1.F.int 4) (num [a]).toNat (ptv G1K.K1 S12R.BL false)))) (ptv G1K.K1 (ptW G1K.K1 (mulO G1K.K1 (G1K.K1.F.int 4) (num [b]).toNat (ptv G1K.K1 S12R.BL false))) (ptB (mulO G1K.K1 (G1K.K1.F.int 4) (num [b]).toNat (ptv G1K.K1 S12R.BL false)))))) (ptB (addP G1K.K1.F (ptv G1K.K1 (ptW G1K.K1 (mulO G1K.K1 (G1K.K1.F.int 4) (num [a]).toNat (ptv G1K.K1 S12R.BL false))) (ptB (mulO G1K.K1 (G1K.K1.F.int 4) (num [a]).toNat (ptv G1K.K1 S12R.BL false)))) (ptv G1K.K1 (ptW G1K.K1 (mulO G1K.K1 (G1K.K1.F.int 4) (num [b]).toNat (ptv G1K.K1 S12R.BL false))) (ptB (mulO G1K.K1 (G1K.K1.F.int 4) (num [b]).toNat (ptv G1K.K1 S12R.BL false)))))) (ptW G2K.K2 (mulO G2K.K2 G2K.bb (num [c]).toNat (ptv G2K.K2 S13R.BL false))) (ptB (mulO G2K.K2 G2K.bb (num [c]).toNat (ptv G2K.K2 S13R.BL false)))=F12 (Fp12.km (v12 (prW (ptW G1K.K1 (mulO G1K.K1 (G1K.K1.F.int 4) (num [a]).toNat (ptv G1K.K1 S12R.BL false))) (ptB (mulO G1K.K1 (G1K.K1.F.int 4) (num [a]).toNat (ptv G1K.K1 S12R.BL false))) (ptW G2K.K2 (mulO G2K.K2 G2K.bb (num [c]).toNat (ptv G2K.K2 S13R.BL false))) (ptB (mulO G2K.K2 G2K.bb (num [c]).toNat (ptv G2K.K2 S13R.BL false))))) (v12 (prW (ptW G1K.K1 (mulO G1K.K1 (G1K.K1.F.int 4) (num [b]).toNat (ptv G1K.K1 S12R.BL false))) (ptB (mulO G1K.K1 (G1K.K1.F.int 4) (num [b]).toNat (ptv G1K.K1 S12R.BL false))) (ptW G2K.K2 (mulO G2K.K2 G2K.bb (num [c]).toNat (ptv G2K.K2 S13R.BL false))) (ptB (mulO G2K.K2 G2K.bb (num [c]).toNat (ptv G2K.K2 S13R.BL false)))))):=by
 obtain⟨e,hf,hr⟩:=q_c c
 obtain⟨a1,h1⟩:=kill1 (i_a a)
 obtain⟨a2,h2⟩:=kill1 (i_a b)
 have hS:=add_sum FI a1 a2
 have i3:inB G1K.K1 (G1K.K1.F.int 4) rN (addP FI (mulO G1K.K1 (G1K.K1.F.int 4) (num [a]).toNat (ptv G1K.K1 S12R.BL false)) (mulO G1K.K1 (G1K.K1.F.int 4) (num [b]).toNat (ptv G1K.K1 S12R.BL false)))=true:=(inB_eq G1K.K1 (s_eq a b)).symm.trans (i_s a b)
 obtain⟨k1,k2⟩:=x_cl a c e
 obtain⟨k3,k4⟩:=x_cl b c e
 obtain⟨k5,k6⟩:=pc i3 e (s_eq a b) (ptv_out G2K.K2 (mulO G2K.K2 G2K.bb (num [c]).toNat (ptv G2K.K2 S13R.BL false)))
 rw[ev_add hf a1 a2 h1 h2 hS] at k6
 rw[prW_on (both_t (i_s a b) (i_w c)),prW_on (both_t (i_v a) (i_w c)),prW_on (both_t (i_v b) (i_w c))]
 exact fi_mul k1 k3 k5 (inv_eq' (ug FK) k6 (inv_ad (ug FK) k2 k4))
theorem inv_w (a c:Int):F12 (Fp12.km (v12 (prW (ptW G1K.K1 (mulO G1K.K1 (G1K.K1.F.int 4) (num [a]).toNat (ptv G1K.K1 S12R.BL false))) (ptB (mulO G1K.K1 (G1K.K1.F.int 4) (num [a]).toNat (ptv G1K.K1 S12R.BL false))) (ptW G2K.K2 (mulO G2K.K2 G2K.bb (num [c]).toNat (ptv G2K.K2 S13R.BL false))) (ptB (mulO G2K.K2 G2K.bb (num [c]).toNat (ptv G2K.K2 S13R.BL false))))) (v12 (prW (ptW G1K.K1 (mulO G1K.K1 (G1K.K1.F.int 4) (num [a]).toNat (ptv G1K.K1 S12R.BL false))) (ptB (mulO G1K.K1 (G1K.K1.F.int 4) (num [a]).toNat (ptv G1K.K1 S12R.BL false))) (ptW G2K.K2 (negP G2K.K2.F (ptv G2K.K2 (ptW G2K.K2 (mulO G2K.K2 G2K.bb (num [c]).toNat (ptv G2K.K2 S13R.BL false))) (ptB (mulO G2K.K2 G2K.bb (num [c]).toNat (ptv G2K.K2 S13R.BL false)))))) (ptB (negP G2K.K2.F (ptv G2K.K2 (ptW G2K.K2 (mulO G2K.K2 G2K.bb (num [c]).toNat (ptv G2K.K2 S13R.BL false))) (ptB (mulO G2K.K2 G2K.bb (num [c]).toNat (ptv G2K.K2 S13R.BL false)))))))))=O72:=by
 obtain⟨e,hf,hr⟩:=q_c c
 obtain⟨a1,h1⟩:=kill1 (i_a a)
 obtain⟨k1,k2⟩:=x_cl a c e
 have i3:inB G2K.K2 G2K.bb rN (negP FG (mulO G2K.K2 G2K.bb (num [c]).toNat (ptv G2K.K2 S13R.BL false)))=true:=(inB_eq G2K.K2 (n_eq c)).symm.trans (i_n c)
 obtain⟨k3,k4⟩:=pc (i_a a) (onP_neg FG e) (ptv_out G1K.K1 (mulO G1K.K1 (G1K.K1.F.int 4) (num [a]).toNat (ptv G1K.K1 S12R.BL false))) (n_eq c)
 have h3:ev (E2g.add (mk FG _ e) (E2g.neg (mk FG _ e))) (mulO G1K.K1 (G1K.K1.F.int 4) (num [a]).toNat (ptv G1K.K1 S12R.BL false))=(ug FK).O:=by
  rw[E2g.inv]
  exact ev0 a1 h1
 rw[ev_q a1 h1 hf (fr_neg hf hr)] at h3
 have h4:=inv_ad (ug FK) k2 k4
 have h5:(ug FK).add (ev (mk FG _ e) (mulO G1K.K1 (G1K.K1.F.int 4) (num [a]).toNat (ptv G1K.K1 S12R.BL false))) (ev (mk FG _ (onP_neg FG e)) (mulO G1K.K1 (G1K.K1.F.int 4) (num [a]).toNat (ptv G1K.K1 S12R.BL false)))=(ug FK).O:=h3
 rw[h5,(ug FK).zero] at h4
 rw[prW_on (both_t (i_v a) (i_w c)),prW_on (both_t (i_v a) (i_n c))]
 exact fi_inv k1 k3 h4
set_option maxRecDepth 100000 in
theorem sums (a:Int)(ha:0≤a∧a<18446744073709551616)(b:Int)(hb:0≤b∧b<18446744073709551616)(c:Int)(hc:0≤c∧c<18446744073709551616)(w:World)(hG:GlobD w):Calls Tryz.prog 6 #[.int .u64 a,.int .u64 b,.int .u64 c] w fun e w'=>e=.returned (.bool true)∧RowKit.Below w.heap.size w w':=by
 exact fn_outS (N:=9) XA_ok GlobD.keep Tryz.func6 [] (fun s hs=>by cases hs) (G1K.noSS hG) (args:=[.num .u64 a,.num .u64 b,.num .u64 c]) (q:=[true,true,true,true,true,true]) (v:=(.bl true)) (obs:=[1≤10000,1≤10000,1≤10000,qb true ((if both (ptW G1K.K1 (mulO G1K.K1 (G1K.K1.F.int 4) (num [a]).toNat (ptv G1K.K1 S12R.BL false))) (ptB (mulO G1K.K1 (G1K.K1.F.int 4) (num [a]).toNat (ptv G1K.K1 S12R.BL false))) (ptW G2K.K2 (mulO G2K.K2 G2K.bb (num [c]).toNat (ptv G2K.K2 S13R.BL false))) (ptB (mulO G2K.K2 G2K.bb (num [c]).toNat (ptv G2K.K2 S13R.BL false)))=true then (0:Int) else 140)=0),qb true ((if both (ptW G1K.K1 (mulO G1K.K1 (G1K.K1.F.int 4) (num [b]).toNat (ptv G1K.K1 S12R.BL false))) (ptB (mulO G1K.K1 (G1K.K1.F.int 4) (num [b]).toNat (ptv G1K.K1 S12R.BL false))) (ptW G2K.K2 (mulO G2K.K2 G2K.bb (num [c]).toNat (ptv G2K.K2 S13R.BL false))) (ptB (mulO G2K.K2 G2K.bb (num [c]).toNat (ptv G2K.K2 S13R.BL false)))=true then (0:Int) else 140)=0),qb true ((if both (ptW G1K.K1 (addP G1K.K1.F (ptv G1K.K1 (ptW G1K.K1 (mulO G1K.K1 (G1K.K1.F.int 4) (num [a]).toNat (ptv G1K.K1 S12R.BL false))) (ptB (mulO G1K.K1 (G1K.K1.F.int 4) (num [a]).toNat (ptv G1K.K1 S12R.BL false)))) (ptv G1K.K1 (ptW G1K.K1 (mulO G1K.K1 (G1K.K1.F.int 4) (num [b]).toNat (ptv G1K.K1 S12R.BL false))) (ptB (mulO G1K.K1 (G1K.K1.F.int 4) (num [b]).toNat (ptv G1K.K1 S12R.BL false)))))) (ptB (addP G1K.K1.F (ptv G1K.K1 (ptW G1K.K1 (mulO G1K.K1 (G1K.K1.F.int 4) (num [a]).toNat (ptv G1K.K1 S12R.BL false))) (ptB (mulO G1K.K1 (G1K.K1.F.int 4) (num [a]).toNat (ptv G1K.K1 S12R.BL false)))) (ptv G1K.K1 (ptW G1K.K1 (mulO G1K.K1 (G1K.K1.F.int 4) (num [b]).toNat (ptv G1K.K1 S12R.BL false))) (ptB (mulO G1K.K1 (G1K.K1.F.int 4) (num [b]).toNat (ptv G1K.K1 S12R.BL false)))))) (ptW G2K.K2 (mulO G2K.K2 G2K.bb (num [c]).toNat (ptv G2K.K2 S13R.BL false))) (ptB (mulO G2K.K2 G2K.bb (num [c]).toNat (ptv G2K.K2 S13R.BL false)))=true then (0:Int) else 140)=0),qb true ((if both (ptW G1K.K1 (mulO G1K.K1 (G1K.K1.F.int 4) (num [a]).toNat (ptv G1K.K1 S12R.BL false))) (ptB (mulO G1K.K1 (G1K.K1.F.int 4) (num [a]).toNat (ptv G1K.K1 S12R.BL false))) (ptW G2K.K2 (negP G2K.K2.F (ptv G2K.K2 (ptW G2K.K2 (mulO G2K.K2 G2K.bb (num [c]).toNat (ptv G2K.K2 S13R.BL false))) (ptB (mulO G2K.K2 G2K.bb (num [c]).toNat (ptv G2K.K2 S13R.BL false)))))) (ptB (negP G2K.K2.F (ptv G2K.K2 (ptW G2K.K2 (mulO G2K.K2 G2K.bb (num [c]).toNat (ptv G2K.K2 S13R.BL false))) (ptB (mulO G2K.K2 G2K.bb (num [c]).toNat (ptv G2K.K2 S13R.BL false))))))=true then (0:Int) else 140)=0),qb true (prW (ptW G1K.K1 (addP G1K.K1.F (ptv G1K.K1 (ptW G1K.K1 (mulO G1K.K1 (G1K.K1.F.int 4) (num [a]).toNat (ptv G1K.K1 S12R.BL false))) (ptB (mulO G1K.K1 (G1K.K1.F.int 4) (num [a]).toNat (ptv G1K.K1 S12R.BL false)))) (ptv G1K.K1 (ptW G1K.K1 (mulO G1K.K1 (G1K.K1.F.int 4) (num [b]).toNat (ptv G1K.K1 S12R.BL false))) (ptB (mulO G1K.K1 (G1K.K1.F.int 4) (num [b]).toNat (ptv G1K.K1 S12R.BL false)))))) (ptB (addP G1K.K1.F (ptv G1K.K1 (ptW G1K.K1 (mulO G1K.K1 (G1K.K1.F.int 4) (num [a]).toNat (ptv G1K.K1 S12R.BL false))) (ptB (mulO G1K.K1 (G1K.K1.F.int 4) (num [a]).toNat (ptv G1K.K1 S12R.BL false)))) (ptv G1K.K1 (ptW G1K.K1 (mulO G1K.K1 (G1K.K1.F.int 4) (num [b]).toNat (ptv G1K.K1 S12R.BL false))) (ptB (mulO G1K.K1 (G1K.K1.F.int 4) (num [b]).toNat (ptv G1K.K1 S12R.BL false)))))) (ptW G2K.K2 (mulO G2K.K2 G2K.bb (num [c]).toNat (ptv G2K.K2 S13R.BL false))) (ptB (mulO G2K.K2 G2K.bb (num [c]).toNat (ptv G2K.K2 S13R.BL false)))=F12 (Fp12.km (v12 (prW (ptW G1K.K1 (mulO G1K.K1 (G1K.K1.F.int 4) (num [a]).toNat (ptv G1K.K1 S12R.BL false))) (ptB (mulO G1K.K1 (G1K.K1.F.int 4) (num [a]).toNat (ptv G1K.K1 S12R.BL false))) (ptW G2K.K2 (mulO G2K.K2 G2K.bb (num [c]).toNat (ptv G2K.K2 S13R.BL false))) (ptB (mulO G2K.K2 G2K.bb (num [c]).toNat (ptv G2K.K2 S13R.BL false))))) (v12 (prW (ptW G1K.K1 (mulO G1K.K1 (G1K.K1.F.int 4) (num [b]).toNat (ptv G1K.K1 S12R.BL false))) (ptB (mulO G1K.K1 (G1K.K1.F.int 4) (num [b]).toNat (ptv G1K.K1 S12R.BL false))) (ptW G2K.K2 (mulO G2K.K2 G2K.bb (num [c]).toNat (ptv G2K.K2 S13R.BL false))) (ptB (mulO G2K.K2 G2K.bb (num [c]).toNat (ptv G2K.K2 S13R.BL false))))))),qb true (F12 (Fp12.km (v12 (prW (ptW G1K.K1 (mulO G1K.K1 (G1K.K1.F.int 4) (num [a]).toNat (ptv G1K.K1 S12R.BL false))) (ptB (mulO G1K.K1 (G1K.K1.F.int 4) (num [a]).toNat (ptv G1K.K1 S12R.BL false))) (ptW G2K.K2 (mulO G2K.K2 G2K.bb (num [c]).toNat (ptv G2K.K2 S13R.BL false))) (ptB (mulO G2K.K2 G2K.bb (num [c]).toNat (ptv G2K.K2 S13R.BL false))))) (v12 (prW (ptW G1K.K1 (mulO G1K.K1 (G1K.K1.F.int 4) (num [a]).toNat (ptv G1K.K1 S12R.BL false))) (ptB (mulO G1K.K1 (G1K.K1.F.int 4) (num [a]).toNat (ptv G1K.K1 S12R.BL false))) (ptW G2K.K2 (negP G2K.K2.F (ptv G2K.K2 (ptW G2K.K2 (mulO G2K.K2 G2K.bb (num [c]).toNat (ptv G2K.K2 S13R.BL false))) (ptB (mulO G2K.K2 G2K.bb (num [c]).toNat (ptv G2K.K2 S13R.BL false)))))) (ptB (negP G2K.K2.F (ptv G2K.K2 (ptW G2K.K2 (mulO G2K.K2 G2K.bb (num [c]).toNat (ptv G2K.K2 S13R.BL false))) (ptB (mulO G2K.K2 G2K.bb (num [c]).toNat (ptv G2K.K2 S13R.BL false)))))))))=O72)]) 1 (by kernel_rfl) (hp (by decide) (hp (by decide) (hp (by decide) (hp (if_pos (both_t (i_v a) (i_w c))) (hp (if_pos (both_t (i_v b) (i_w c))) (hp (if_pos (both_t (i_s a b) (i_w c))) (hp (if_pos (both_t (i_v a) (i_n c))) (hp (sum_w a b c) (hp (inv_w a c) trivial))))))))) (fun v hv=>by
   simp only[List.mem_cons,List.not_mem_nil,or_false] at hv
   rcases hv with rfl|rfl|rfl
   ·exact ha
   ·exact hb
   ·exact hc) rfl (by first|(simp only[List.map_cons,List.map_nil,G1K.p_den,G2K.p_den,S15D.w_den];rfl)|simp only[List.map_cons,List.map_nil,G1K.p_den,G2K.p_den,S15D.w_den])
end S16L
end Go.Proofs.YtfjiinaekcibhaaGreatDoor
