/-
  Own text.
-/
import Derived.Test.YtjamcbjghffboaaGreatDoorMOrd
import Derived.Test.YtjamcbjghffboaaGreatDoorMK
import Derived.Test.YtjamcbjghffboaaGreatDoorMReg
import Derived.Test.YtjamcbjghffboaaGreatDoorMFw1
import Derived.Test.YtjamcbjghffboaaGreatDoorMS15
import Derived.Test.YtjamcbjghffboaaGreatDoorMSy
set_option linter.unusedVariables false
set_option linter.unusedSimpArgs false
set_option maxRecDepth 100000
namespace Go.Proofs.YtjamcbjghffboaaGreatDoor
namespace Frob
set_option maxRecDepth 100000
open Go Go.RowKit Reg Base Limb Fp Fp2 Fp6 Fp12
def rdg (a:G):G:=(a.1%PP,a.2%PP)
theorem rdg_eq (a:G):E2 (rdg a) a:=⟨Int.emod_emod _ _,Int.emod_emod _ _⟩
def gpw:Nat->G->Nat->G
 |0,_,_=>(1,0)
 |f+1,b,n=>if n=0 then (1,0) else if n%2=1 then rdg (gm (rdg (gm (gpw f b (n/2)) (gpw f b (n/2)))) b) else rdg (gm (gpw f b (n/2)) (gpw f b (n/2)))
theorem gpw_ok (b:G):∀f n,n<2^f->E2 (gpw f b n) (gp b n)
 |0,n,h=>by
  obtain rfl:n=0:=by omega
  exact E2.rfl
 |f+1,n,h=>by
  unfold gpw
  by_cases h0:n=0
  ·rw[if_pos h0]
   subst h0
   exact E2.rfl
  ·rw[if_neg h0]
   have ih:=gpw_ok b f (n/2) (by rw[Nat.pow_succ] at h;omega)
   have h2:E2 (rdg (gm (gpw f b (n/2)) (gpw f b (n/2)))) (gp b (n/2+n/2)):=by
    rw[gp_add]
    exact (rdg_eq _).trans (gm_congr ih ih)
   by_cases hd:n%2=1
   ·rw[if_pos hd]
    have e1:gp b n=gm (gp b (n/2+n/2)) b:=by
     conv=>lhs;rw[show n=n/2+n/2+1 by omega]
     rfl
    rw[e1]
    exact (rdg_eq _).trans (gm_congr h2 E2.rfl)
   ·rw[if_neg hd]
    have e1:gp b n=gp b (n/2+n/2):=by
     conv=>lhs;rw[show n=n/2+n/2 by omega]
    rw[e1]
    exact h2
def gw1:List Int:=[10162220747404304312,17761815663483519293,8873291758750579140,1141103941765652303,13993175198059990303,1802798568193066599,3240210268673559283,2895069921743240898,17009126888523054175,6098234018649060207,9865672654120263608,71000049454473266]
def gw2:List Int:=[0,0,0,0,0,0,10087218740379822764,4653388206581612541,9907120269317136283,12253596935368579796,17006226088849104517,1873798617647539865]
def gw3:List Int:=[14416168624775744521,17178867732698629620,8644499054833844677,5204293836692734814,7508032112903159806,481619096434065419,14416168624775744521,17178867732698629620,8644499054833844677,5204293836692734814,7508032112903159806,481619096434065419]
def gw4:List Int:=[10087218740379822765,4653388206581612541,9907120269317136283,12253596935368579796,17006226088849104517,1873798617647539865,0,0,0,0,0,0]
def gw5:List Int:=[11175958356102185238,14283797810955388722,10082116240020342118,17552803891753226222,16089103532492447813,410619046979592152,2226472659975678357,6373087774271371469,15800302407253291197,8133278142371037904,7769744319687806097,1463179570667947713]
theorem gw1_ok:E2 (v2 gw1) gam:=E2.trans ⟨by decide +kernel,by decide +kernel⟩ (gpw_ok (1,1) 380 tt (by decide +kernel))
theorem gw1_pow (k:Nat):E2 (gp (v2 gw1) k) (gp gam k):=gp_congr gw1_ok k
theorem gw2_ok:E2 (v2 gw2) (gp gam 2):=E2.trans ⟨by decide +kernel,by decide +kernel⟩ (gw1_pow 2)
theorem gw3_ok:E2 (v2 gw3) (gp gam 3):=E2.trans ⟨by decide +kernel,by decide +kernel⟩ (gw1_pow 3)
theorem gw4_ok:E2 (v2 gw4) (gp gam 4):=E2.trans ⟨by decide +kernel,by decide +kernel⟩ (gw1_pow 4)
theorem gw5_ok:E2 (v2 gw5) (gp gam 5):=E2.trans ⟨by decide +kernel,by decide +kernel⟩ (gw1_pow 5)
theorem gw1_ok':E2 (v2 gw1) (gp gam 1):=E2.trans ⟨by decide +kernel,by decide +kernel⟩ (gw1_pow 1)
end Frob
namespace Frob
open Go Go.RowKit Reg Base
end Frob
namespace Frob
open Go Go.RowKit Reg Base Limb Fp Fp2 Fp6 Fp12
end Frob
namespace Frob
set_option maxRecDepth 100000
open Go Go.RowKit Reg Base Limb Fp Fp2 Fp6 Fp12
def sN (m:Nat):Int:=num (seg (6*m) 6 bsL)
def cG (i:Nat):G:=v2 (seg (12*i) 12 bfL)
theorem cG_ok:∀i,i<6->E2 (cG i) (gp gam i)
 |0,_=>(show cG 0=(1,0) by decide +kernel)▸E2.rfl
 |1,_=>(show v2 gw1=cG 1 by decide +kernel)▸gw1_ok'
 |2,_=>(show v2 gw2=cG 2 by decide +kernel)▸gw2_ok
 |3,_=>(show v2 gw3=cG 3 by decide +kernel)▸gw3_ok
 |4,_=>(show v2 gw4=cG 4 by decide +kernel)▸gw4_ok
 |5,_=>(show v2 gw5=cG 5 by decide +kernel)▸gw5_ok
 |n+6,h=>absurd h (by omega)
theorem s1_ok:sN 1%PP=nn%PP:=by
 rw[<-gam_norm,<-gnorm_congr gw1_ok]
 decide +kernel
theorem pow_m {x y:Int}(h:x%PP=y%PP):∀n:Nat,x^n%PP=y^n%PP
 |0=>by rw[Int.pow_zero,Int.pow_zero]
 |n+1=>by rw[Int.pow_succ,Int.pow_succ,Int.mul_emod,pow_m h n,h,<-Int.mul_emod]
theorem tab_s:∀m,m<6->∀i,i<6->(sN m*sN 1^i)%PP=sN ((m+i)%6)%PP:=by decide +kernel
def mp (f:Nat->G->G)(a:K):K:=((f 0 a.1.1,f 2 a.1.2.1,f 4 a.1.2.2),(f 1 a.2.1,f 3 a.2.2.1,f 5 a.2.2.2))
theorem mp_eq {f h:Nat->G->G}(e:∀i,i<6->∀g,E2 (f i g) (h i g))(a:K):E12 (mp f a) (mp h a):=
 ⟨⟨e 0 (by decide) _,e 2 (by decide) _,e 4 (by decide) _⟩,e 1 (by decide) _,e 3 (by decide) _,e 5 (by decide) _⟩
theorem ph_mp (a:K):E12 (ph a) (mp (fun i g=>gm (gc g) (gp gam i)) a):=by
 have h:=ph_fr a
 rw[fr] at h
 refine h.trans ⟨⟨?_,E2.rfl,E2.rfl⟩,E6.rfl⟩
 show E2 (gc a.1.1) (gm (gc a.1.1) (1,0))
 rw[gm_one]
 exact E2.rfl
theorem id_two (g x:G):gm (gc (gm (gc g) x)) x=gk g (gnorm x):=by
 apply Prod.ext
 ·simp only[gm,gc,gk,gnorm];grind
 ·simp only[gm,gc,gk,gnorm];grind
theorem id_one (g c:G)(s:Int):gm (gc (gk g s)) c=gk (gm (gc g) c) s:=by
 apply Prod.ext
 ·simp only[gm,gc,gk];grind
 ·simp only[gm,gc,gk];grind
theorem gk_gk (g:G)(s t:Int):gk (gk g s) t=gk g (s*t):=Prod.ext (Int.mul_assoc _ _ _) (Int.mul_assoc _ _ _)
theorem two_mp (a:K):E12 (pn 2 a) (mp (fun i g=>gk g (nn^i)) a):=by
 show E12 (ph (ph a)) _
 refine ((ph_congr (ph_mp a)).trans (ph_mp _)).trans ?_
 refine mp_eq (f:=fun i g=>gm (gc (gm (gc g) (gp gam i))) (gp gam i)) (fun i _ g=>?_) a
 show E2 (gm (gc (gm (gc g) (gp gam i))) (gp gam i)) (gk g (nn^i))
 rw[id_two,Fp2r.gnorm_gp,gam_norm]
 exact E2.rfl
theorem even_mp (a:K):∀j,E12 (pn (2*j) a) (mp (fun i g=>gk g (sN (j*i%6))) a)
 |0=>by
  refine (?_:E12 a (mp (fun i g=>gk g 1) a)).trans (mp_eq (fun i _ g=>?_) a)
  ·have e:∀g:G,gk g 1=g:=fun g=>Prod.ext (Int.mul_one _) (Int.mul_one _)
   simp only[mp,e]
   exact E12.rfl
  ·rw[Nat.zero_mul,Nat.zero_mod,show sN 0=1 by decide +kernel]
   exact E2.rfl
 |j+1=>by
  rw[show 2*(j+1)=2*j+2 by omega,pn_plus]
  refine ((pn_congr (even_mp a j) 2).trans (two_mp _)).trans ?_
  refine mp_eq (f:=fun i g=>gk (gk g (sN (j*i%6))) (nn^i)) (fun i hi g=>?_) a
  show E2 (gk (gk g (sN (j*i%6))) (nn^i)) (gk g (sN ((j+1)*i%6)))
  rw[gk_gk]
  refine gk_congr E2.rfl ?_
  have h:=tab_s (j*i%6) (by omega) i hi
  rw[show ((j*i%6)+i)%6=(j+1)*i%6 by rw[Nat.succ_mul];omega] at h
  rw[<-h,Int.mul_emod,<-pow_m s1_ok i,<-Int.mul_emod]
theorem odd_mp (a:K)(j:Nat):E12 (pn (2*j+1) a) (mp (fun i g=>gk (gm (gc g) (cG i)) (sN (j*i%6))) a):=by
 show E12 (ph (pn (2*j) a)) _
 refine ((ph_congr (even_mp a j)).trans (ph_mp _)).trans ?_
 refine mp_eq (f:=fun i g=>gm (gc (gk g (sN (j*i%6)))) (gp gam i)) (fun i hi g=>?_) a
 show E2 (gm (gc (gk g (sN (j*i%6)))) (gp gam i)) (gk (gm (gc g) (cG i)) (sN (j*i%6)))
 rw[id_one]
 exact gk_congr (gm_congr E2.rfl (cG_ok i hi).symm) rfl
theorem seg_seg {o n i m:Nat}(h:i+m<=n)(a:List Int):seg i m (seg o n a)=seg (o+i) m a:=by
 rw[seg,seg,seg,List.drop_take,List.drop_drop,List.take_take,Nat.min_eq_left (by omega)]
def pe (j i off:Nat)(a:List Int):List Int:=F2 (gk (v2 (F2 (v2 (seg off 12 a)))) (num (seg (6*(j*i%6)) 6 bsL)))
def po (j i off:Nat)(a:List Int):List Int:=F2 (gk (v2 (F2 (gm (v2 (F2 (gc (v2 (seg off 12 a))))) (v2 (seg (12*i) 12 bfL))))) (num (seg (6*(j*i%6)) 6 bsL)))
def all (f:Nat->Nat->List Int):List Int:=f 0 0++f 2 12++f 4 24++f 1 36++f 3 48++f 5 60
theorem pe_eq (j i off:Nat)(a:List Int):pe j i off a=F2 (gk (v2 (seg off 12 a)) (sN (j*i%6))):=F2_eq (gk_congr (v2_F2 _) rfl)
theorem po_eq (j i off:Nat)(a:List Int):po j i off a=F2 (gk (gm (gc (v2 (seg off 12 a))) (cG i)) (sN (j*i%6))):=
 F2_eq (gk_congr ((v2_F2 _).trans (gm_congr (v2_F2 _) E2.rfl)) rfl)
theorem F12_mp (f:Nat->G->G)(a:List Int):F12 (mp f (v12 a))=all fun i off=>F2 (f i (v2 (seg off 12 a))):=by
 simp only[F12,F6,mp,all,v12,v6,List.append_assoc,seg_seg (show 0+12<=36 by decide),seg_seg (show 12+12<=36 by decide),seg_seg (show 24+12<=36 by decide)]
theorem even12 (a:List Int)(j:Nat):all (fun i off=>pe j i off a)=F12 (pn (2*j) (v12 a)):=by
 rw[F12_eq (even_mp (v12 a) j),F12_mp]
 simp only[pe_eq]
theorem odd12 (a:List Int)(j:Nat):all (fun i off=>po j i off a)=F12 (pn (2*j+1) (v12 a)):=by
 rw[F12_eq (odd_mp (v12 a) j),F12_mp]
 simp only[po_eq]
end Frob
namespace S10P
open Go Go.RowKit Reg Base Limb Sx Fp Fp2 Fp6 Fp12
def Dp (A:Option Addr)(n:Nat)(l:List Int):Option Addr->Nat->List Int->Prop:=fun A' n' l'=>A'=A/\n'=n/\l'=l
abbrev XP (A:Option Addr)(n:Nat)(l:List Int)(H:List (Nat×Ev)):Cx:=S10.X3.sym (Dp A n l) H
def GP (A:Option Addr)(n:Nat)(l:List Int)(B:Nat)(u:World):Prop:=(GlobD u/\B<=u.heap.size)/\Rd u B A n .u64 l
theorem XP_ok {A:Option Addr}{n:Nat}{l:List Int}{B:Nat}(hw:Words l)(H:List (Nat×Ev)):CxB Tryz.prog (XP A n l H) (GP A n l B):=
 S10.X3_ok.toCxB.sym (fun u h=>h.1.1) (fun A' n' l' h=>by
  obtain⟨rfl,rfl,rfl⟩:=h
  exact⟨hw,B,fun u hu=>⟨hu.1.2,hu.2⟩⟩) H
theorem GP.keep {A:Option Addr}{n:Nat}{l:List Int}{B:Nat}{w u:World}(h:GP A n l B w)(hb:RowKit.Below w.heap.size w u):GP A n l B u:=⟨⟨h.1.1.keep hb,Nat.le_trans h.1.2 hb.size⟩,h.2.keep hb h.1.2⟩
def Z72:List Int:=List.replicate 72 0
def tab (a:List Int)(i:Nat):List Int:=tbl (fun j=>F12 (kp (v12 a) j)) (i+1)++List.replicate ((15-i)*72) 0
def b4 (a T:List Int):List Bk:=[(30,[.nums 72 a]),(30,[.nums 72 Z72]),(30,[.nums 72 O72]),(79,[.nums 1152 T])]
section
variable (a T o:List Int) (A:Option Addr) (n c:Nat) (l:List Int)
def p1 (i:Nat):St:=⟨mkSl 73 [(1,.ext A n c l),(2,.ptr 0 0),(4,.ptr 1 0),(5,.ptr 2 0),(6,.ptr 3 0),(19,.num .i64 i)],b4 a T⟩
def p1e:St:=⟨mkSl 73 [(1,.ext A n c l),(2,.ptr 0 0),(4,.ptr 1 0),(5,.ptr 2 0),(6,.ptr 3 0)],b4 a T⟩
def p2 (i:Nat):St:=⟨mkSl 73 [(1,.ext A n c l),(4,.ptr 1 0),(5,.ptr 2 0),(6,.ptr 3 0),(8,.ptr 4 0),(34,.num .i64 ((n:Int)*16)),(35,.num .i64 i)],b4 a T++[(30,[.nums 72 o])]⟩
def p2e:St:=⟨mkSl 73 [(4,.ptr 1 0),(8,.ptr 4 0)],b4 a T++[(30,[.nums 72 o])]⟩
end
theorem len_p (a:List Int)(j:Nat):((fun j=>F12 (kp (v12 a) j)) j).length=72:=(Fp12.Nm.F12 _).len
section
variable {a T o o':List Int} {A:Option Addr} {n c:Nat} {l:List Int} {B S:Nat} {w:World}
theorem does (hw:Words l)(hG:∀u,RowKit.Below S w u->GP A n l B u)(c:Code):Does Tryz.prog S 0 w c (evalC Tryz.prog (XP A n l []) 0 9 c):=code_ok (XP_ok hw []) hG c (fun _ _ _ h=>by rw[hooked_nil] at h;cases h)
theorem rnd1 {i:Nat}{T':List Int}(hi:i<15)(ht1:upd (0+((i:Int)+1).toNat*72) 72 (F12 (km (v12 (seg (0+(i:Int).toNat*72) 72 T)) (v12 a))) T=T')(hw:Words l)(hG:∀u,RowKit.Below S w u->GP A n l B u):Goes Tryz.prog S 0 w (lpc Tryz.f37 0) (p1 a T A n c l i) .nrm (p1 a T' A n c l (i+1)):=
 (does hw hG _).goes [true] (ps:=[A=A/\n=n/\c=c/\l=l,(i:Int)+1=((i+1:Nat):Int),a=a,Z72=Z72,O72=O72,upd (0+((i:Int)+1).toNat*72) 72 (F12 (km (v12 (seg (0+(i:Int).toNat*72) 72 T)) (v12 a))) T=T',qb true ((i:Int)<15),IntKind.i64.wrap ((i:Int)+1)=(i:Int)+1,0<=(i:Int)/\(i:Int)<((16:Nat):Int),0+(i:Int).toNat*72+72<=1152,0<=(i:Int)+1/\(i:Int)+1<((16:Nat):Int),0+((i:Int)+1).toNat*72+72<=1152,IntKind.i64.wrap ((i:Int)+1)=(i:Int)+1]) (by kernel_rfl) (hp (⟨rfl,rfl,rfl,rfl⟩) (hp (by omega) (hp (rfl) (hp (rfl) (hp (rfl) (hp (ht1) (hp (by show (i:Int)<15;omega) (hp (IntWalk.i64_in _ (by omega)) (hp (by omega) (hp (by omega) (hp (by omega) (hp (by omega) (hp (IntWalk.i64_in _ (by omega)) trivial))))))))))))) (by kernel_rfl)
theorem end1 (hw:Words l)(hG:∀u,RowKit.Below S w u->GP A n l B u):Goes Tryz.prog S 0 w (lpc Tryz.f37 0) (p1 a T A n c l 15) (.ext 0) (p1e a T A n c l):=
 (does hw hG _).goes [false] (ps:=[A=A/\n=n/\c=c/\l=l,a=a,Z72=Z72,O72=O72,T=T,qb false (((15:Nat):Int)<15)]) (by kernel_rfl) (hp (⟨rfl,rfl,rfl,rfl⟩) (hp (rfl) (hp (rfl) (hp (rfl) (hp (rfl) (hp (by show ¬(((15:Nat):Int)<15);omega) trivial)))))) (by kernel_rfl)
theorem tab_more {i:Nat}(hi:i<15):upd (0+((i:Int)+1).toNat*72) 72 (F12 (km (v12 (seg (0+(i:Int).toNat*72) 72 (tab a i))) (v12 a))) (tab a i)=tab a (i+1):=by
 rw[show 0+((i:Int)+1).toNat*72=(i+1)*72 by omega,show 0+(i:Int).toNat*72=i*72 by omega,tab,seg_tbl (len_p a) _ (by omega),kp_more,show 15-i=14-i+1 by omega]
 rw[upd_tbl (len_p a) (f:=fun j=>F12 (kp (v12 a) j)) (n:=i+1),tab,show 15-(i+1)=14-i by omega]
theorem loop1 (hw:Words l)(hG:∀u,RowKit.Below S w u->GP A n l B u):Goes Tryz.prog S 0 w (.block 0 (.loop (lpc Tryz.f37 0))) (p1 a (tab a 0) A n c l 0) .nrm (p1e a (tab a 15) A n c l):=
 .loop (n:=15) (fun i=>p1 a (tab a i) A n c l i) (fun i hi=>rnd1 hi (tab_more hi) hw hG) (end1 hw hG)
abbrev wi (n i:Nat):Int:=(n:Int)-1-(i:Int)/16
abbrev si (i:Nat):Int:=(15-(i:Int)%16)*4
abbrev dg (n:Nat)(l:List Int)(i:Nat):Int:=nth l ((wi n i).toNat*1)/2^(si i).toNat
theorem dg_in (hw:Words l)(i:Nat):0<=dg n l i/\dg n l i<18446744073709551616:=by
 have h:=hw ((wi n i).toNat*1)
 have h2:dg n l i<=nth l ((wi n i).toNat*1):=Int.ediv_le_self _ h.1
 exact⟨Int.ediv_nonneg h.1 (Int.le_of_lt (Int.pow_pos (by decide))),by omega⟩
def ex_ (n:Nat)(l:List Int)(i:Nat):Nat:=(num l/tp (4*(16*n-i))).toNat
theorem ex_0 (hw:Words l)(hl:l.length=n):ex_ n l 0=0:=by
 have hb:=num_bounds hw
 rw[hl] at hb
 rw[ex_,show 4*(16*n-0)=64*n by omega,tp_wp,Int.ediv_eq_zero_of_lt hb.1 hb.2]
 rfl
theorem ex_n:ex_ n l (n*16)=(num l).toNat:=by rw[ex_,show 4*(16*n-n*16)=0 by omega,tp_zero,Int.ediv_one]
theorem ex_more {i:Nat}(hi:i<n*16)(hw:Words l)(hl:l.length=n):ex_ n l (i+1)=16*ex_ n l i+(dg n l i%16).toNat:=by
 have h:=digit4 hw (i:=n-1-i/16) (s:=4*(15-i%16)) (by omega) (by omega)
 rw[show 64*(n-1-i/16)+4*(15-i%16)=4*(16*n-(i+1)) by omega,show 64*(n-1-i/16)+(4*(15-i%16)+4)=4*(16*n-i) by omega] at h
 have e:dg n l i=nth l (n-1-i/16)/2^(4*(15-i%16)):=by
  show nth l ((wi n i).toNat*1)/2^(si i).toNat=_
  rw[show (wi n i).toNat*1=n-1-i/16 by simp only[wi];omega,show (si i).toNat=4*(15-i%16) by simp only[si];omega]
 rw[<-e] at h
 have h0:0<=num l/tp (4*(16*n-i)):=Int.ediv_nonneg (num_bounds hw).1 (Int.le_of_lt (tp_pos _))
 have h1:=Int.emod_nonneg (dg n l i) (show (16:Int)≠0 by decide)
 rw[ex_,ex_,h]
 omega
abbrev sq1 (o:List Int):List Int:=F12 (km (v12 o) (v12 o))
abbrev sq4 (o:List Int):List Int:=sq1 (sq1 (sq1 (sq1 o)))
theorem rnd2tt {i:Nat}(hi:i<n*16)(hn:n<=10000)(hdg:rng .u64 (dg n l i))(h1:qb true (o=O72))(h2:qb true (dg n l i%16=0))(hrow:o=o')(hw:Words l)(hG:∀u,RowKit.Below S w u->GP A n l B u):Goes Tryz.prog S 0 w (lpc Tryz.f37 2) (p2 a T o A n c l i) .nrm (p2 a T o' A n c l (i+1)):=
 (does hw hG _).goes [true,true,true] (ps:=[A=A/\n=n/\c=c/\l=l,(n:Int)*16=(n:Int)*16,(i:Int)+1=((i+1:Nat):Int),a=a,Z72=Z72,O72=O72,T=T,o=o',qb true ((i:Int)<(n:Int)*16),qb true (o=O72),IntKind.i64.wrap ((n:Int)-1)=(n:Int)-1,0<=(i:Int)/\(0:Int)<16,IntKind.i64.wrap ((i:Int)/16)=(i:Int)/16,IntKind.i64.wrap (wi n i)=wi n i,0<=wi n i/\wi n i<(n:Int),Dp A n l A (n*1) l/\0<1,(wi n i).toNat*1<n*1,Dp A n l A (n*1) l/\0<n*1,0<=(i:Int)/\(0:Int)<16,True,IntKind.i64.wrap (15-(i:Int)%16)=15-(i:Int)%16,IntKind.i64.wrap (si i)=si i,0<=si i/\si i<((64:Nat):Int),rng .u64 (dg n l i),0<=dg n l i/\(0:Int)<16,rng .u64 (dg n l i%16),qb true (dg n l i%16=0),IntKind.i64.wrap ((i:Int)+1)=(i:Int)+1]) (by kernel_rfl) (hp (⟨rfl,rfl,rfl,rfl⟩) (hp (rfl) (hp (by omega) (hp (rfl) (hp (rfl) (hp (rfl) (hp (rfl) (hp (hrow) (hp (by show (i:Int)<(n:Int)*16;omega) (hp (h1) (hp (IntWalk.i64_in _ (by omega)) (hp (by omega) (hp (IntWalk.i64_in _ (by omega)) (hp (IntWalk.i64_in _ (by simp only[wi];omega)) (hp (by simp only[wi];omega) (hp (⟨⟨rfl,Nat.mul_one _,rfl⟩,by decide⟩) (hp (by simp only[wi];omega) (hp (⟨⟨rfl,Nat.mul_one _,rfl⟩,by omega⟩) (hp (by omega) (hp (trivial) (hp (IntWalk.i64_in _ (by omega)) (hp (IntWalk.i64_in _ (by simp only[si];omega)) (hp (by simp only[si];omega) (hp (hdg) (hp (⟨hdg.1,by decide⟩) (hp (⟨Int.emod_nonneg _ (by decide),by have:=Int.emod_lt_of_pos (dg n l i) (show (0:Int)<16 by decide);omega⟩) (hp (h2) (hp (IntWalk.i64_in _ (by omega)) trivial)))))))))))))))))))))))))))) (by kernel_rfl)
theorem rnd2tf {i:Nat}(hi:i<n*16)(hn:n<=10000)(hdg:rng .u64 (dg n l i))(h1:qb true (o=O72))(h2:qb false (dg n l i%16=0))(hrow:F12 (km (v12 o) (v12 (seg (0+(dg n l i%16).toNat*72) 72 T)))=o')(hw:Words l)(hG:∀u,RowKit.Below S w u->GP A n l B u):Goes Tryz.prog S 0 w (lpc Tryz.f37 2) (p2 a T o A n c l i) .nrm (p2 a T o' A n c l (i+1)):=
 (does hw hG _).goes [true,true,false] (ps:=[A=A/\n=n/\c=c/\l=l,(n:Int)*16=(n:Int)*16,(i:Int)+1=((i+1:Nat):Int),a=a,Z72=Z72,O72=O72,T=T,F12 (km (v12 o) (v12 (seg (0+(dg n l i%16).toNat*72) 72 T)))=o',qb true ((i:Int)<(n:Int)*16),qb true (o=O72),IntKind.i64.wrap ((n:Int)-1)=(n:Int)-1,0<=(i:Int)/\(0:Int)<16,IntKind.i64.wrap ((i:Int)/16)=(i:Int)/16,IntKind.i64.wrap (wi n i)=wi n i,0<=wi n i/\wi n i<(n:Int),Dp A n l A (n*1) l/\0<1,(wi n i).toNat*1<n*1,Dp A n l A (n*1) l/\0<n*1,0<=(i:Int)/\(0:Int)<16,True,IntKind.i64.wrap (15-(i:Int)%16)=15-(i:Int)%16,IntKind.i64.wrap (si i)=si i,0<=si i/\si i<((64:Nat):Int),rng .u64 (dg n l i),0<=dg n l i/\(0:Int)<16,rng .u64 (dg n l i%16),qb false (dg n l i%16=0),0<=dg n l i%16/\dg n l i%16<((16:Nat):Int),0+(dg n l i%16).toNat*72+72<=1152,IntKind.i64.wrap ((i:Int)+1)=(i:Int)+1]) (by kernel_rfl) (hp (⟨rfl,rfl,rfl,rfl⟩) (hp (rfl) (hp (by omega) (hp (rfl) (hp (rfl) (hp (rfl) (hp (rfl) (hp (hrow) (hp (by show (i:Int)<(n:Int)*16;omega) (hp (h1) (hp (IntWalk.i64_in _ (by omega)) (hp (by omega) (hp (IntWalk.i64_in _ (by omega)) (hp (IntWalk.i64_in _ (by simp only[wi];omega)) (hp (by simp only[wi];omega) (hp (⟨⟨rfl,Nat.mul_one _,rfl⟩,by decide⟩) (hp (by simp only[wi];omega) (hp (⟨⟨rfl,Nat.mul_one _,rfl⟩,by omega⟩) (hp (by omega) (hp (trivial) (hp (IntWalk.i64_in _ (by omega)) (hp (IntWalk.i64_in _ (by simp only[si];omega)) (hp (by simp only[si];omega) (hp (hdg) (hp (⟨hdg.1,by decide⟩) (hp (⟨Int.emod_nonneg _ (by decide),by have:=Int.emod_lt_of_pos (dg n l i) (show (0:Int)<16 by decide);omega⟩) (hp (h2) (hp (⟨Int.emod_nonneg _ (by decide),Int.emod_lt_of_pos _ (by decide)⟩) (hp (by have:=Int.emod_nonneg (dg n l i) (show (16:Int)≠0 by decide);have:=Int.emod_lt_of_pos (dg n l i) (show (0:Int)<16 by decide);omega) (hp (IntWalk.i64_in _ (by omega)) trivial)))))))))))))))))))))))))))))) (by kernel_rfl)
theorem rnd2ft {i:Nat}(hi:i<n*16)(hn:n<=10000)(hdg:rng .u64 (dg n l i))(h1:qb false (o=O72))(h2:qb true (dg n l i%16=0))(hrow:sq4 o=o')(hw:Words l)(hG:∀u,RowKit.Below S w u->GP A n l B u):Goes Tryz.prog S 0 w (lpc Tryz.f37 2) (p2 a T o A n c l i) .nrm (p2 a T o' A n c l (i+1)):=
 (does hw hG _).goes [true,false,true] (ps:=[A=A/\n=n/\c=c/\l=l,(n:Int)*16=(n:Int)*16,(i:Int)+1=((i+1:Nat):Int),a=a,Z72=Z72,O72=O72,T=T,sq4 o=o',qb true ((i:Int)<(n:Int)*16),qb false (o=O72),IntKind.i64.wrap ((n:Int)-1)=(n:Int)-1,0<=(i:Int)/\(0:Int)<16,IntKind.i64.wrap ((i:Int)/16)=(i:Int)/16,IntKind.i64.wrap (wi n i)=wi n i,0<=wi n i/\wi n i<(n:Int),Dp A n l A (n*1) l/\0<1,(wi n i).toNat*1<n*1,Dp A n l A (n*1) l/\0<n*1,0<=(i:Int)/\(0:Int)<16,True,IntKind.i64.wrap (15-(i:Int)%16)=15-(i:Int)%16,IntKind.i64.wrap (si i)=si i,0<=si i/\si i<((64:Nat):Int),rng .u64 (dg n l i),0<=dg n l i/\(0:Int)<16,rng .u64 (dg n l i%16),qb true (dg n l i%16=0),IntKind.i64.wrap ((i:Int)+1)=(i:Int)+1]) (by kernel_rfl) (hp (⟨rfl,rfl,rfl,rfl⟩) (hp (rfl) (hp (by omega) (hp (rfl) (hp (rfl) (hp (rfl) (hp (rfl) (hp (hrow) (hp (by show (i:Int)<(n:Int)*16;omega) (hp (h1) (hp (IntWalk.i64_in _ (by omega)) (hp (by omega) (hp (IntWalk.i64_in _ (by omega)) (hp (IntWalk.i64_in _ (by simp only[wi];omega)) (hp (by simp only[wi];omega) (hp (⟨⟨rfl,Nat.mul_one _,rfl⟩,by decide⟩) (hp (by simp only[wi];omega) (hp (⟨⟨rfl,Nat.mul_one _,rfl⟩,by omega⟩) (hp (by omega) (hp (trivial) (hp (IntWalk.i64_in _ (by omega)) (hp (IntWalk.i64_in _ (by simp only[si];omega)) (hp (by simp only[si];omega) (hp (hdg) (hp (⟨hdg.1,by decide⟩) (hp (⟨Int.emod_nonneg _ (by decide),by have:=Int.emod_lt_of_pos (dg n l i) (show (0:Int)<16 by decide);omega⟩) (hp (h2) (hp (IntWalk.i64_in _ (by omega)) trivial)))))))))))))))))))))))))))) (by kernel_rfl)
theorem rnd2ff {i:Nat}(hi:i<n*16)(hn:n<=10000)(hdg:rng .u64 (dg n l i))(h1:qb false (o=O72))(h2:qb false (dg n l i%16=0))(hrow:F12 (km (v12 (sq4 o)) (v12 (seg (0+(dg n l i%16).toNat*72) 72 T)))=o')(hw:Words l)(hG:∀u,RowKit.Below S w u->GP A n l B u):Goes Tryz.prog S 0 w (lpc Tryz.f37 2) (p2 a T o A n c l i) .nrm (p2 a T o' A n c l (i+1)):=
 (does hw hG _).goes [true,false,false] (ps:=[A=A/\n=n/\c=c/\l=l,(n:Int)*16=(n:Int)*16,(i:Int)+1=((i+1:Nat):Int),a=a,Z72=Z72,O72=O72,T=T,F12 (km (v12 (sq4 o)) (v12 (seg (0+(dg n l i%16).toNat*72) 72 T)))=o',qb true ((i:Int)<(n:Int)*16),qb false (o=O72),IntKind.i64.wrap ((n:Int)-1)=(n:Int)-1,0<=(i:Int)/\(0:Int)<16,IntKind.i64.wrap ((i:Int)/16)=(i:Int)/16,IntKind.i64.wrap (wi n i)=wi n i,0<=wi n i/\wi n i<(n:Int),Dp A n l A (n*1) l/\0<1,(wi n i).toNat*1<n*1,Dp A n l A (n*1) l/\0<n*1,0<=(i:Int)/\(0:Int)<16,True,IntKind.i64.wrap (15-(i:Int)%16)=15-(i:Int)%16,IntKind.i64.wrap (si i)=si i,0<=si i/\si i<((64:Nat):Int),rng .u64 (dg n l i),0<=dg n l i/\(0:Int)<16,rng .u64 (dg n l i%16),qb false (dg n l i%16=0),0<=dg n l i%16/\dg n l i%16<((16:Nat):Int),0+(dg n l i%16).toNat*72+72<=1152,IntKind.i64.wrap ((i:Int)+1)=(i:Int)+1]) (by kernel_rfl) (hp (⟨rfl,rfl,rfl,rfl⟩) (hp (rfl) (hp (by omega) (hp (rfl) (hp (rfl) (hp (rfl) (hp (rfl) (hp (hrow) (hp (by show (i:Int)<(n:Int)*16;omega) (hp (h1) (hp (IntWalk.i64_in _ (by omega)) (hp (by omega) (hp (IntWalk.i64_in _ (by omega)) (hp (IntWalk.i64_in _ (by simp only[wi];omega)) (hp (by simp only[wi];omega) (hp (⟨⟨rfl,Nat.mul_one _,rfl⟩,by decide⟩) (hp (by simp only[wi];omega) (hp (⟨⟨rfl,Nat.mul_one _,rfl⟩,by omega⟩) (hp (by omega) (hp (trivial) (hp (IntWalk.i64_in _ (by omega)) (hp (IntWalk.i64_in _ (by simp only[si];omega)) (hp (by simp only[si];omega) (hp (hdg) (hp (⟨hdg.1,by decide⟩) (hp (⟨Int.emod_nonneg _ (by decide),by have:=Int.emod_lt_of_pos (dg n l i) (show (0:Int)<16 by decide);omega⟩) (hp (h2) (hp (⟨Int.emod_nonneg _ (by decide),Int.emod_lt_of_pos _ (by decide)⟩) (hp (by have:=Int.emod_nonneg (dg n l i) (show (16:Int)≠0 by decide);have:=Int.emod_lt_of_pos (dg n l i) (show (0:Int)<16 by decide);omega) (hp (IntWalk.i64_in _ (by omega)) trivial)))))))))))))))))))))))))))))) (by kernel_rfl)
theorem end2 (hw:Words l)(hG:∀u,RowKit.Below S w u->GP A n l B u):Goes Tryz.prog S 0 w (lpc Tryz.f37 2) (p2 a T o A n c l (n*16)) (.ext 2) (p2e a T o):=
 (does hw hG _).goes [false] (ps:=[a=a,Z72=Z72,O72=O72,T=T,o=o,qb false (((n*16:Nat):Int)<(n:Int)*16)]) (by kernel_rfl) (hp (rfl) (hp (rfl) (hp (rfl) (hp (rfl) (hp (rfl) (hp (by show ¬(((n*16:Nat):Int)<(n:Int)*16);omega) trivial)))))) (by kernel_rfl)
theorem sq4_p (p:K)(x:Nat):sq4 (F12 (kp p x))=F12 (kp p (16*x)):=by
 simp only[sq4,sq1,kp_dbl]
 rw[show 2*(2*(2*(2*x)))=16*x by omega]
theorem rnd2 {i:Nat}(hi:i<n*16)(hn:n<=10000)(hl:l.length=n)(hw:Words l)(hG:∀u,RowKit.Below S w u->GP A n l B u):Goes Tryz.prog S 0 w (lpc Tryz.f37 2) (p2 a (tab a 15) (F12 (kp (v12 a) (ex_ n l i))) A n c l i) .nrm (p2 a (tab a 15) (F12 (kp (v12 a) (ex_ n l (i+1)))) A n c l (i+1)):=by
 have hd:=dg_in (n:=n) hw i
 have hm:=ex_more hi hw hl
 have h0:=Int.emod_nonneg (dg n l i) (show (16:Int)≠0 by decide)
 have h9:=Int.emod_lt_of_pos (dg n l i) (show (0:Int)<16 by decide)
 have hs:seg (0+(dg n l i%16).toNat*72) 72 (tab a 15)=F12 (kp (v12 a) (dg n l i%16).toNat):=by
  rw[Nat.zero_add,tab,seg_tbl (len_p a) _ (by omega)]
 by_cases h1:F12 (kp (v12 a) (ex_ n l i))=O72
 ·have h16:=kp_ones _ h1
  by_cases h2:dg n l i%16=0
  ·refine rnd2tt hi hn hd h1 h2 ?_ hw hG
   rw[hm,h2,h1]
   exact h16.symm
  ·refine rnd2tf hi hn hd h1 h2 ?_ hw hG
   rw[hs,hm,h1,<-h16,kp_digit]
 ·by_cases h2:dg n l i%16=0
  ·refine rnd2ft hi hn hd h1 h2 ?_ hw hG
   rw[sq4_p,hm,h2]
   rfl
  ·refine rnd2ff hi hn hd h1 h2 ?_ hw hG
   rw[sq4_p,hs,kp_digit,hm]
theorem loop2 (hn:n<=10000)(hl:l.length=n)(hw:Words l)(hG:∀u,RowKit.Below S w u->GP A n l B u):Goes Tryz.prog S 0 w (.block 2 (.loop (lpc Tryz.f37 2))) (p2 a (tab a 15) (F12 (kp (v12 a) (ex_ n l 0))) A n c l 0) .nrm (p2e a (tab a 15) (F12 (kp (v12 a) (num l).toNat))):=
 .loop (n:=n*16) (fun i=>p2 a (tab a 15) (F12 (kp (v12 a) (ex_ n l i))) A n c l i) (fun i hi=>rnd2 hi hn hl hw hG) (by rw[ex_n];exact end2 hw hG)
end
theorem tab_0 (a:List Int):O72++List.replicate 1080 0=tab a 0:=by
 show _=([]++F12 k1)++List.replicate (15*72) 0
 rw[F12_one]
 rfl
theorem blk0:blkc Tryz.f37 0=.loop (lpc Tryz.f37 0):=by kernel_rfl
theorem blk2:blkc Tryz.f37 2=.loop (lpc Tryz.f37 2):=by kernel_rfl
theorem lPow (a:List Int)(ha:Nm 72 a)(A:Option Addr)(n c:Nat)(l:List Int)(B:Nat)(w:World)(hG0:GlobD w)(hr:Rd w B A n .u64 l)(hw:Words l)(hB:B<=w.heap.size)(hn:n<=10000):Calls Tryz.prog 37 #[.agg (vals .u64 a),.slice A n c] w fun e w'=>e=.returned (.agg (vals .u64 (F12 (kp (v12 a) (num l).toNat))))/\RowKit.Below w.heap.size w w':=by
 have hG:∀u,RowKit.Below w.heap.size w u->GP A n l B u:=fun u hu=>GP.keep ⟨⟨hG0,hB⟩,hr⟩ hu
 have hk:AllH Tryz.prog w.heap.size 0 w [(0,blkc Tryz.f37 0,hookEv (p1 a (tab a 0) A n c l 0) (p1e a (tab a 15) A n c l)),(2,blkc Tryz.f37 2,hookEv (p2 a (tab a 15) (F12 (kp (v12 a) (ex_ n l 0))) A n c l 0) (p2e a (tab a 15) (F12 (kp (v12 a) (num l).toNat))))]:=
  ⟨by rw[blk0];exact (loop1 hw hG).does (by kernel_rfl),by rw[blk2];exact (loop2 hn hr.len hw hG).does (by kernel_rfl),trivial⟩
 have he:evalF Tryz.prog (XP A n l [(0,hookEv (p1 a (tab a 0) A n c l 0) (p1e a (tab a 15) A n c l)),(2,hookEv (p2 a (tab a 15) (F12 (kp (v12 a) (ex_ n l 0))) A n c l 0) (p2e a (tab a 15) (F12 (kp (v12 a) (num l).toNat))))]) 0 9 Tryz.f37 [W 72 a,.ext A n c l] [] []=some ([.agg [.nums 72 (F12 (kp (v12 a) (num l).toNat))]],[A=A/\n=n/\c=c/\l=l,(0:Int)=((0:Nat):Int),a=a,Z72=Z72,O72=O72,O72++List.replicate 1080 0=tab a 0,IntKind.i64.wrap ((n:Int)*16)=(n:Int)*16,A=A/\n=n/\c=c/\l=l,(n:Int)*16=(n:Int)*16,(0:Int)=((0:Nat):Int),a=a,Z72=Z72,O72=O72,tab a 15=tab a 15,O72=F12 (kp (v12 a) (ex_ n l 0))]):=by kernel_rfl
 have h:=fn_okH (gs:=[]) (w:=w) (XP_ok (B:=B) hw [(0,hookEv (p1 a (tab a 0) A n c l 0) (p1e a (tab a 15) A n c l)),(2,hookEv (p2 a (tab a 15) (F12 (kp (v12 a) (ex_ n l 0))) A n c l 0) (p2e a (tab a 15) (F12 (kp (v12 a) (num l).toNat))))]) (fn_hooks (by kernel_rfl) hk) Tryz.func37 he (hp (⟨rfl,rfl,rfl,rfl⟩) (hp (rfl) (hp (rfl) (hp (rfl) (hp (rfl) (hp (tab_0 a) (hp (IntWalk.i64_in _ (by omega)) (hp (⟨rfl,rfl,rfl,rfl⟩) (hp (rfl) (hp (rfl) (hp (rfl) (hp (rfl) (hp (rfl) (hp (rfl) (hp (by rw[ex_0 hw hr.len];exact F12_one.symm) trivial))))))))))))))) rfl rfl (fun v hv=>by
  rcases List.mem_cons.1 hv with rfl|hv
  ·exact w_ok ha _
  ·rcases List.mem_cons.1 hv with rfl|hv
   ·trivial
   ·cases hv) hG (fun k t r h=>by simp at h)
 simp only[List.map_cons,List.map_nil,w_den] at h
 exact h.mono fun e w' ⟨v,hv,e1,_,e2⟩=>by
  obtain rfl:=List.mem_singleton.1 hv
  exact⟨by rw[e1,w_den],e2⟩
end S10P
namespace S10Q
open Go Go.RowKit Reg Base Limb Sx Fp Fp2 Fp6 Fp12 S10P
def LQ:List (Fact Tryz.prog GlobD):=S10.qOne.fact (.con Tryz.func10 rfl (by decide) S10.qOne) :: S10.L1
def XQ0:Cx:=.of [] (tb LQ)
theorem XQ0_ok:CxOk Tryz.prog XQ0 GlobD:=cx_ok LQ trivial (by kernel_rfl)
abbrev XQ (A:Option Addr)(n:Nat)(l:List Int)(H:List (Nat×Ev)):Cx:=XQ0.sym (Dp A n l) H
theorem XQ_ok {A:Option Addr}{n:Nat}{l:List Int}{B:Nat}(hw:Words l)(H:List (Nat×Ev)):CxB Tryz.prog (XQ A n l H) (GP A n l B):=
 XQ0_ok.toCxB.sym (fun u h=>h.1.1) (fun A' n' l' h=>by
  obtain⟨rfl,rfl,rfl⟩:=h
  exact⟨hw,B,fun u hu=>⟨hu.1.2,hu.2⟩⟩) H
section
variable (a o:List Int) (b:Bool) (A:Option Addr) (n c:Nat) (l:List Int)
def b3:List Bk:=[(30,[.nums 72 a]),(30,[.nums 72 Z72]),(30,[.nums 72 o])]
def q1 (k:Nat):St:=⟨mkSl 36 [(1,.ext A n c l),(2,.ptr 0 0),(4,.ptr 1 0),(5,.ptr 2 0),(6,.val (.bool b)),(7,.num .i64 (64*(n:Int)-1-k))],b3 a o⟩
def q1e:St:=⟨mkSl 36 [(4,.ptr 1 0),(5,.ptr 2 0)],b3 a o⟩
end
section
variable {a o o':List Int} {A:Option Addr} {n c:Nat} {l:List Int} {B S:Nat} {w:World}
theorem does (hw:Words l)(hG:∀u,RowKit.Below S w u->GP A n l B u)(c:Code):Does Tryz.prog S 0 w c (evalC Tryz.prog (XQ A n l []) 0 9 c):=code_ok (XQ_ok hw []) hG c (fun _ _ _ h=>by rw[hooked_nil] at h;cases h)
abbrev ji (n k:Nat):Int:=64*(n:Int)-1-k
abbrev wd_ (n:Nat)(l:List Int)(k:Nat):Int:=nth l ((ji n k/64).toNat*1)/2^(ji n k%64).toNat
theorem wd_in (hw:Words l)(k:Nat):0<=wd_ n l k/\wd_ n l k<=18446744073709551615:=by
 have h:=hw ((ji n k/64).toNat*1)
 have h2:wd_ n l k<=nth l ((ji n k/64).toNat*1):=Int.ediv_le_self _ h.1
 exact⟨Int.ediv_nonneg h.1 (Int.le_of_lt (Int.pow_pos (by decide))),by omega⟩
def ey (n:Nat)(l:List Int)(k:Nat):Nat:=(num l/tp (64*n-k)).toNat
theorem ey_0 (hw:Words l)(hl:l.length=n):ey n l 0=0:=by
 have hb:=num_bounds hw
 rw[hl] at hb
 rw[ey,show 64*n-0=64*n by omega,tp_wp,Int.ediv_eq_zero_of_lt hb.1 hb.2]
 rfl
theorem ey_n:ey n l (64*n)=(num l).toNat:=by rw[ey,Nat.sub_self,tp_zero,Int.ediv_one]
theorem ey_more {k:Nat}(hk:k<64*n)(hw:Words l):ey n l (k+1)=2*ey n l k+(wd_ n l k%2).toNat:=by
 have h:=num_shift (num l) (64*n-(k+1))
 rw[num_bit hw,show 64*n-(k+1)+1=64*n-k by omega] at h
 have e:bitL l (64*n-(k+1))=wd_ n l k%2:=by
  show nth l ((64*n-(k+1))/64)/2^((64*n-(k+1))%64)%2=nth l ((ji n k/64).toNat*1)/2^(ji n k%64).toNat%2
  rw[show (ji n k/64).toNat*1=(64*n-(k+1))/64 by simp only[ji];omega,show (ji n k%64).toNat=(64*n-(k+1))%64 by simp only[ji];omega]
 rw[e] at h
 have h0:0<=num l/tp (64*n-k):=Int.ediv_nonneg (num_bounds hw).1 (Int.le_of_lt (tp_pos _))
 have h1:=Int.emod_nonneg (wd_ n l k) (show (2:Int)≠0 by decide)
 rw[ey,ey,h]
 omega
theorem rndff {k:Nat}(hk:k<64*n)(hn:n<=10000)(h2:qb false (bits .and .u64 (wd_ n l k) 1=1))(hrow:o=o')(hw:Words l)(hG:∀u,RowKit.Below S w u->GP A n l B u):Goes Tryz.prog S 0 w (lpc Tryz.f23 0) (q1 a o false A n c l k) .nrm (q1 a o' false A n c l (k+1)):=by
 have hd:=wd_in (n:=n) hw k
 have hand:=and_one hd.1 hd.2
 exact (does hw hG _).goes [true,false] (ps:=[A=A/\n=n/\c=c/\l=l,AV.val (.bool false)=AV.val (.bool false),64*(n:Int)-1-k-1=64*(n:Int)-1-((k+1:Nat):Int),a=a,Z72=Z72,o=o',qb true (0<=ji n k),0<=ji n k/\(0:Int)<64,IntKind.i64.wrap (ji n k/64)=ji n k/64,0<=ji n k/64/\ji n k/64<(n:Int),Dp A n l A (n*1) l/\0<1,(ji n k/64).toNat*1<n*1,Dp A n l A (n*1) l/\0<n*1,0<=ji n k/\(0:Int)<64,True,IntKind.u64.wrap (ji n k%64)=ji n k%64,rng .u64 (ji n k%64),0<=ji n k%64/\ji n k%64<((64:Nat):Int),rng .u64 (wd_ n l k),rng .u64 (bits .and .u64 (wd_ n l k) 1),qb false (bits .and .u64 (wd_ n l k) 1=1),IntKind.i64.wrap (64*(n:Int)-1-k-1)=64*(n:Int)-1-k-1]) (by kernel_rfl) (hp (⟨rfl,rfl,rfl,rfl⟩) (hp (rfl) (hp (by omega) (hp (rfl) (hp (rfl) (hp (hrow) (hp ((by simp only[ji];omega:0<=ji n k)) (hp (by simp only[ji];omega) (hp (IntWalk.i64_in _ (by simp only[ji];omega)) (hp (by simp only[ji];omega) (hp (⟨⟨rfl,Nat.mul_one _,rfl⟩,by decide⟩) (hp (by simp only[ji];omega) (hp (⟨⟨rfl,Nat.mul_one _,rfl⟩,by omega⟩) (hp (by simp only[ji];omega) (hp (trivial) (hp (IntWalk.u64_in _ (by simp only[ji];omega)) (hp ((by simp only[ji];omega:0<=ji n k%64/\ji n k%64<18446744073709551616)) (hp (by simp only[ji];omega) (hp ((by omega:0<=wd_ n l k/\wd_ n l k<18446744073709551616)) (hp (hand▸(by omega:0<=wd_ n l k%2/\wd_ n l k%2<18446744073709551616)) (hp (h2) (hp (IntWalk.i64_in _ (by omega)) trivial)))))))))))))))))))))) (by kernel_rfl)
theorem rndft {k:Nat}(hk:k<64*n)(hn:n<=10000)(h2:qb true (bits .and .u64 (wd_ n l k) 1=1))(hrow:F12 (km (v12 o) (v12 a))=o')(hw:Words l)(hG:∀u,RowKit.Below S w u->GP A n l B u):Goes Tryz.prog S 0 w (lpc Tryz.f23 0) (q1 a o false A n c l k) .nrm (q1 a o' true A n c l (k+1)):=by
 have hd:=wd_in (n:=n) hw k
 have hand:=and_one hd.1 hd.2
 exact (does hw hG _).goes [true,true] (ps:=[A=A/\n=n/\c=c/\l=l,AV.val (.bool true)=AV.val (.bool true),64*(n:Int)-1-k-1=64*(n:Int)-1-((k+1:Nat):Int),a=a,Z72=Z72,F12 (km (v12 o) (v12 a))=o',qb true (0<=ji n k),0<=ji n k/\(0:Int)<64,IntKind.i64.wrap (ji n k/64)=ji n k/64,0<=ji n k/64/\ji n k/64<(n:Int),Dp A n l A (n*1) l/\0<1,(ji n k/64).toNat*1<n*1,Dp A n l A (n*1) l/\0<n*1,0<=ji n k/\(0:Int)<64,True,IntKind.u64.wrap (ji n k%64)=ji n k%64,rng .u64 (ji n k%64),0<=ji n k%64/\ji n k%64<((64:Nat):Int),rng .u64 (wd_ n l k),rng .u64 (bits .and .u64 (wd_ n l k) 1),qb true (bits .and .u64 (wd_ n l k) 1=1),IntKind.i64.wrap (64*(n:Int)-1-k-1)=64*(n:Int)-1-k-1]) (by kernel_rfl) (hp (⟨rfl,rfl,rfl,rfl⟩) (hp (rfl) (hp (by omega) (hp (rfl) (hp (rfl) (hp (hrow) (hp ((by simp only[ji];omega:0<=ji n k)) (hp (by simp only[ji];omega) (hp (IntWalk.i64_in _ (by simp only[ji];omega)) (hp (by simp only[ji];omega) (hp (⟨⟨rfl,Nat.mul_one _,rfl⟩,by decide⟩) (hp (by simp only[ji];omega) (hp (⟨⟨rfl,Nat.mul_one _,rfl⟩,by omega⟩) (hp (by simp only[ji];omega) (hp (trivial) (hp (IntWalk.u64_in _ (by simp only[ji];omega)) (hp ((by simp only[ji];omega:0<=ji n k%64/\ji n k%64<18446744073709551616)) (hp (by simp only[ji];omega) (hp ((by omega:0<=wd_ n l k/\wd_ n l k<18446744073709551616)) (hp (hand▸(by omega:0<=wd_ n l k%2/\wd_ n l k%2<18446744073709551616)) (hp (h2) (hp (IntWalk.i64_in _ (by omega)) trivial)))))))))))))))))))))) (by kernel_rfl)
theorem rndtf {k:Nat}(hk:k<64*n)(hn:n<=10000)(h2:qb false (bits .and .u64 (wd_ n l k) 1=1))(hrow:F12 (km (v12 o) (v12 o))=o')(hw:Words l)(hG:∀u,RowKit.Below S w u->GP A n l B u):Goes Tryz.prog S 0 w (lpc Tryz.f23 0) (q1 a o true A n c l k) .nrm (q1 a o' true A n c l (k+1)):=by
 have hd:=wd_in (n:=n) hw k
 have hand:=and_one hd.1 hd.2
 exact (does hw hG _).goes [true,false] (ps:=[A=A/\n=n/\c=c/\l=l,AV.val (.bool true)=AV.val (.bool true),64*(n:Int)-1-k-1=64*(n:Int)-1-((k+1:Nat):Int),a=a,Z72=Z72,F12 (km (v12 o) (v12 o))=o',qb true (0<=ji n k),0<=ji n k/\(0:Int)<64,IntKind.i64.wrap (ji n k/64)=ji n k/64,0<=ji n k/64/\ji n k/64<(n:Int),Dp A n l A (n*1) l/\0<1,(ji n k/64).toNat*1<n*1,Dp A n l A (n*1) l/\0<n*1,0<=ji n k/\(0:Int)<64,True,IntKind.u64.wrap (ji n k%64)=ji n k%64,rng .u64 (ji n k%64),0<=ji n k%64/\ji n k%64<((64:Nat):Int),rng .u64 (wd_ n l k),rng .u64 (bits .and .u64 (wd_ n l k) 1),qb false (bits .and .u64 (wd_ n l k) 1=1),IntKind.i64.wrap (64*(n:Int)-1-k-1)=64*(n:Int)-1-k-1]) (by kernel_rfl) (hp (⟨rfl,rfl,rfl,rfl⟩) (hp (rfl) (hp (by omega) (hp (rfl) (hp (rfl) (hp (hrow) (hp ((by simp only[ji];omega:0<=ji n k)) (hp (by simp only[ji];omega) (hp (IntWalk.i64_in _ (by simp only[ji];omega)) (hp (by simp only[ji];omega) (hp (⟨⟨rfl,Nat.mul_one _,rfl⟩,by decide⟩) (hp (by simp only[ji];omega) (hp (⟨⟨rfl,Nat.mul_one _,rfl⟩,by omega⟩) (hp (by simp only[ji];omega) (hp (trivial) (hp (IntWalk.u64_in _ (by simp only[ji];omega)) (hp ((by simp only[ji];omega:0<=ji n k%64/\ji n k%64<18446744073709551616)) (hp (by simp only[ji];omega) (hp ((by omega:0<=wd_ n l k/\wd_ n l k<18446744073709551616)) (hp (hand▸(by omega:0<=wd_ n l k%2/\wd_ n l k%2<18446744073709551616)) (hp (h2) (hp (IntWalk.i64_in _ (by omega)) trivial)))))))))))))))))))))) (by kernel_rfl)
theorem rndtt {k:Nat}(hk:k<64*n)(hn:n<=10000)(h2:qb true (bits .and .u64 (wd_ n l k) 1=1))(hrow:F12 (km (v12 (F12 (km (v12 o) (v12 o)))) (v12 a))=o')(hw:Words l)(hG:∀u,RowKit.Below S w u->GP A n l B u):Goes Tryz.prog S 0 w (lpc Tryz.f23 0) (q1 a o true A n c l k) .nrm (q1 a o' true A n c l (k+1)):=by
 have hd:=wd_in (n:=n) hw k
 have hand:=and_one hd.1 hd.2
 exact (does hw hG _).goes [true,true] (ps:=[A=A/\n=n/\c=c/\l=l,AV.val (.bool true)=AV.val (.bool true),64*(n:Int)-1-k-1=64*(n:Int)-1-((k+1:Nat):Int),a=a,Z72=Z72,F12 (km (v12 (F12 (km (v12 o) (v12 o)))) (v12 a))=o',qb true (0<=ji n k),0<=ji n k/\(0:Int)<64,IntKind.i64.wrap (ji n k/64)=ji n k/64,0<=ji n k/64/\ji n k/64<(n:Int),Dp A n l A (n*1) l/\0<1,(ji n k/64).toNat*1<n*1,Dp A n l A (n*1) l/\0<n*1,0<=ji n k/\(0:Int)<64,True,IntKind.u64.wrap (ji n k%64)=ji n k%64,rng .u64 (ji n k%64),0<=ji n k%64/\ji n k%64<((64:Nat):Int),rng .u64 (wd_ n l k),rng .u64 (bits .and .u64 (wd_ n l k) 1),qb true (bits .and .u64 (wd_ n l k) 1=1),IntKind.i64.wrap (64*(n:Int)-1-k-1)=64*(n:Int)-1-k-1]) (by kernel_rfl) (hp (⟨rfl,rfl,rfl,rfl⟩) (hp (rfl) (hp (by omega) (hp (rfl) (hp (rfl) (hp (hrow) (hp ((by simp only[ji];omega:0<=ji n k)) (hp (by simp only[ji];omega) (hp (IntWalk.i64_in _ (by simp only[ji];omega)) (hp (by simp only[ji];omega) (hp (⟨⟨rfl,Nat.mul_one _,rfl⟩,by decide⟩) (hp (by simp only[ji];omega) (hp (⟨⟨rfl,Nat.mul_one _,rfl⟩,by omega⟩) (hp (by simp only[ji];omega) (hp (trivial) (hp (IntWalk.u64_in _ (by simp only[ji];omega)) (hp ((by simp only[ji];omega:0<=ji n k%64/\ji n k%64<18446744073709551616)) (hp (by simp only[ji];omega) (hp ((by omega:0<=wd_ n l k/\wd_ n l k<18446744073709551616)) (hp (hand▸(by omega:0<=wd_ n l k%2/\wd_ n l k%2<18446744073709551616)) (hp (h2) (hp (IntWalk.i64_in _ (by omega)) trivial)))))))))))))))))))))) (by kernel_rfl)
theorem endf (hw:Words l)(hG:∀u,RowKit.Below S w u->GP A n l B u):Goes Tryz.prog S 0 w (lpc Tryz.f23 0) (q1 a o false A n c l (64*n)) (.ext 0) (q1e a o):=
 (does hw hG _).goes [false] (ps:=[a=a,Z72=Z72,o=o,qb false (0<=ji n (64*n))]) (by kernel_rfl) (hp (rfl) (hp (rfl) (hp (rfl) (hp ((by simp only[ji];omega:¬(0<=ji n (64*n)))) trivial)))) (by kernel_rfl)
theorem endt (hw:Words l)(hG:∀u,RowKit.Below S w u->GP A n l B u):Goes Tryz.prog S 0 w (lpc Tryz.f23 0) (q1 a o true A n c l (64*n)) (.ext 0) (q1e a o):=
 (does hw hG _).goes [false] (ps:=[a=a,Z72=Z72,o=o,qb false (0<=ji n (64*n))]) (by kernel_rfl) (hp (rfl) (hp (rfl) (hp (rfl) (hp ((by simp only[ji];omega:¬(0<=ji n (64*n)))) trivial)))) (by kernel_rfl)
def qs (a:List Int)(A:Option Addr)(n c:Nat)(l:List Int)(k:Nat):St:=if ey n l k=0 then q1 a O72 false A n c l k else q1 a (F12 (kp (v12 a) (ey n l k))) true A n c l k
theorem kp_1 (a:List Int):F12 (km (v12 O72) (v12 a))=F12 (kp (v12 a) 1):=by
 have:=kp_more a 0
 rw[show kp (v12 a) 0=k1 from rfl,F12_one] at this
 exact this
theorem loop (hn:n<=10000)(hl:l.length=n)(hw:Words l)(hG:∀u,RowKit.Below S w u->GP A n l B u):Goes Tryz.prog S 0 w (.block 0 (.loop (lpc Tryz.f23 0))) (q1 a O72 false A n c l 0) .nrm (q1e a (F12 (kp (v12 a) (num l).toNat))):=by
 have h0:q1 a O72 false A n c l 0=qs a A n c l 0:=by rw[qs,if_pos (ey_0 hw hl)]
 rw[h0]
 refine .loop (n:=64*n) (qs a A n c l) (fun k hk=>?_) ?_
 ·have hd:=wd_in (n:=n) hw k
  have hand:=and_one hd.1 hd.2
  have hm:=ey_more hk hw
  rw[qs,qs]
  by_cases hx:ey n l k=0
  ·rw[if_pos hx]
   by_cases hb:wd_ n l k%2=1
   ·rw[if_neg (by omega)]
    exact rndft hk hn (by rw[hand];exact hb) (by rw[hm,hx,hb];exact kp_1 a) hw hG
   ·rw[if_pos (by omega)]
    exact rndff hk hn (by rw[hand];exact hb) rfl hw hG
  ·rw[if_neg hx,if_neg (by omega)]
   by_cases hb:wd_ n l k%2=1
   ·exact rndtt hk hn (by rw[hand];exact hb) (by rw[kp_dbl,kp_more,hm,hb];rfl) hw hG
   ·exact rndtf hk hn (by rw[hand];exact hb) (by rw[kp_dbl,hm,show wd_ n l k%2=0 by omega];rfl) hw hG
 ·rw[qs]
  by_cases hx:ey n l (64*n)=0
  ·rw[if_pos hx,<-ey_n (n:=n),hx,show kp (v12 a) 0=k1 from rfl,F12_one]
   exact endf hw hG
  ·rw[if_neg hx,ey_n]
   exact endt hw hG
end
theorem blk0:blkc Tryz.f23 0=.loop (lpc Tryz.f23 0):=by kernel_rfl
theorem qPow (a:List Int)(ha:Nm 72 a)(A:Option Addr)(n c:Nat)(l:List Int)(B:Nat)(w:World)(hG0:GlobD w)(hr:Rd w B A n .u64 l)(hw:Words l)(hB:B<=w.heap.size)(hn:n<=10000):Calls Tryz.prog 23 #[.agg (vals .u64 a),.slice A n c] w fun e w'=>e=.returned (.agg (vals .u64 (F12 (kp (v12 a) (num l).toNat))))/\RowKit.Below w.heap.size w w':=by
 have hG:∀u,RowKit.Below w.heap.size w u->GP A n l B u:=fun u hu=>GP.keep ⟨⟨hG0,hB⟩,hr⟩ hu
 have hk:AllH Tryz.prog w.heap.size 0 w [(0,blkc Tryz.f23 0,hookEv (q1 a O72 false A n c l 0) (q1e a (F12 (kp (v12 a) (num l).toNat))))]:=⟨by rw[blk0];exact (loop hn hr.len hw hG).does (by kernel_rfl),trivial⟩
 have he:evalF Tryz.prog (XQ A n l [(0,hookEv (q1 a O72 false A n c l 0) (q1e a (F12 (kp (v12 a) (num l).toNat))))]) 0 9 Tryz.f23 [W 72 a,.ext A n c l] [] []=some ([.agg [.nums 72 (F12 (kp (v12 a) (num l).toNat))]],[IntKind.i64.wrap (64*(n:Int))=64*(n:Int),IntKind.i64.wrap (64*(n:Int)-1)=64*(n:Int)-1,A=A/\n=n/\c=c/\l=l,AV.val (.bool false)=AV.val (.bool false),64*(n:Int)-1=64*(n:Int)-1-((0:Nat):Int),a=a,Z72=Z72,O72=O72]):=by kernel_rfl
 have h:=fn_okH (gs:=[]) (w:=w) (XQ_ok (B:=B) hw [(0,hookEv (q1 a O72 false A n c l 0) (q1e a (F12 (kp (v12 a) (num l).toNat))))]) (fn_hooks (by kernel_rfl) hk) Tryz.func23 he (hp (IntWalk.i64_in _ (by omega)) (hp (IntWalk.i64_in _ (by omega)) (hp (⟨rfl,rfl,rfl,rfl⟩) (hp (rfl) (hp (by omega) (hp (rfl) (hp (rfl) (hp (rfl) trivial)))))))) rfl rfl (fun v hv=>by
  rcases List.mem_cons.1 hv with rfl|hv
  ·exact w_ok ha _
  ·rcases List.mem_cons.1 hv with rfl|hv
   ·trivial
   ·cases hv) hG (fun k t r h=>by simp at h)
 simp only[List.map_cons,List.map_nil,w_den] at h
 exact h.mono fun e w' ⟨v,hv,e1,_,e2⟩=>by
  obtain rfl:=List.mem_singleton.1 hv
  exact⟨by rw[e1,w_den],e2⟩
end S10Q
namespace S11R
open Go Go.RowKit Reg Base Limb Sx Fp Fp2 Fp6 Fp12 S10P Frob
abbrev InI (n:Int):Prop:=-9223372036854775808<=n/\n<=9223372036854775807
section
variable (a o:List Int) (n:Int)
end
section
variable {a o o':List Int} {n:Int} {S:Nat} {w:World}
end
def entPn (k:Nat)(f:Int->List Int->List Int):Ent2:=fun D R bl args=>match args with
 |[.agg r,x]=>match mg r,numOf x with
  |some (n,xs),some (.i64,j)=>if n=k then some (W k (f j xs),[InI j]) else none
  |_,_=>none
 |_=>none
theorem ePn {F:FuncId}{fn:Func}{k:Nat}{f:Int->List Int->List Int}(hf:Tryz.prog.funcs[F]? = some fn)(hb:fn.body.isNone=false)(hn:(fn.name == "runtime.NumGoroutine")=false)
  (hN:∀n a,Nm k a->Nm k (f n a)) (hc:∀(a:List Int),Nm k a->∀n,InI n->∀w,GlobD w->Calls Tryz.prog F #[.agg (vals .u64 a),.int .i64 n] w fun e w'=>e=.returned (.agg (vals .u64 (f n a)))/\RowKit.Below w.heap.size w w'):EOk2 Tryz.prog GlobD F (entPn k f):=by
 refine⟨enter_of hf hb hn,fun G' D R bl args v ps gs hG' hD hRr he hH ho w hG hB=>?_⟩
 unfold entPn at he
 split at he
 ·rename_i r x
  split at he
  ·rename_i n xs j h1 h2
   split at he
   ·rename_i hk
    subst hk
    injection he with he
    injection he with e1 e2
    subst e1 e2
    obtain⟨d1,m1⟩:=agg_vals (gs:=gs) (ho (.agg r) (by simp)) h1
    refine⟨w_ok (hN _ _ m1) _,?_⟩
    rw[w_den]
    simp only[List.map_cons,List.map_nil,d1,numOf_den h2]
    exact hc xs m1 j hH.1 w (hG' _ hG)
   ·cases he
  ·cases he
 ·cases he
abbrev g12 (n:Int)(a:List Int):List Int:=F12 (pn (n%12).toNat (v12 a))
end S11R
namespace S11M
set_option maxRecDepth 100000
open Go Go.RowKit Reg Base Limb Fp Fp2 Fp6 Fp12 Frob S11R
section
variable (m n:Int) (a b:List Int)
variable {a b}
end
end S11M
namespace S11O
open Go Go.RowKit Reg Base Limb Sx Fp Fp2 Fp6 Fp12 Frob S11R S11M
def GL:List (Nat×Row):=[(0,[.nums 72 bfL]),(1,[.nums 36 bsL])]
theorem has_nums {u:World}{g t n:Nat}{xs:List Int}(h:Has u g t (vals .u64 xs)):Has u g t (den [.nums n xs]).toArray:=by
 have:(den [.nums n xs]).toArray=vals .u64 xs:=by simp[den,Sg.den,vals]
 rw[this]
 exact h
theorem GL_ok:GlOk GlobD GL:=fun n r h=>by
 unfold GL lookG at h
 split at h
 ·rename_i hn
  subst hn
  obtain rfl:=Option.some.inj h
  exact⟨⟨⟨rfl,words_of _ (by decide)⟩,trivial⟩,fun u hu=>hu.x1.imp fun t h=>has_nums h⟩
 ·unfold lookG at h
  split at h
  ·rename_i hn
   subst hn
   obtain rfl:=Option.some.inj h
   exact⟨⟨⟨rfl,words_of _ (by decide)⟩,trivial⟩,fun u hu=>hu.x2.imp fun t h=>has_nums h⟩
  ·cases h
def L0:List (Fact Tryz.prog GlobD):=S7.lReduce.fact (.con Tryz.func61 rfl (by decide) S7.lReduce) ::
 S7.lConj.fact (.con Tryz.func126 rfl (by decide) S7.lConj) ::
 S7.lMul.fact (.con Tryz.func64 rfl (by decide) S7.lMul) ::
 S7.lScale.fact (.con Tryz.func72 rfl (by decide) S7.lScale) ::
 []
def X0:Cx:=(Cx.of [] (tb L0)).glob GL
theorem X0_ok:CxOk Tryz.prog X0 GlobD:=(cx_ok (E:=[]) L0 trivial (by kernel_rfl)).glob GL_ok
def L1:List (Fact Tryz.prog GlobD):=⟨71,entI 71 X0 9,.inline X0_ok GlobD.keep Tryz.func71 rfl (by decide)⟩ ::
 L0
def X1:Cx:=(Cx.of [] (tb L1)).glob GL
theorem X1_ok:CxOk Tryz.prog X1 GlobD:=(cx_ok (E:=[]) L1 trivial (by kernel_rfl)).glob GL_ok
def L2:List (Fact Tryz.prog GlobD):=⟨70,entI 70 X1 9,.inline X1_ok GlobD.keep Tryz.func70 rfl (by decide)⟩ ::
 L1
theorem tm12 (n:Int):(n.tmod 12+12).tmod 12=n%12/\-12<n.tmod 12/\n.tmod 12<12:=by
 have e:=Int.tmod_add_mul_tdiv n 12
 have l:=Int.tmod_lt_of_pos n (by decide:(0:Int)<12)
 have g:=Int.lt_tmod_of_pos n (by decide:(0:Int)<12)
 refine⟨?_,g,l⟩
 rw[Int.tmod_eq_emod_of_nonneg (by omega)]
 omega
set_option maxHeartbeats 1000000 in
theorem steps_c (n:Int)(hn:InI n)(w:World):Calls Tryz.prog 38 #[.int .i64 n] w fun e w'=>e=.returned (.func (.func 70) #[] #[.pointer (some ⟨w.heap.size,0,none⟩)])/\Has w' w.heap.size 3 #[.int .i64 (n%12)]/\RowKit.Below w.heap.size w w':=by
 obtain⟨k1,k2,k3⟩:=tm12 n
 go_enter Tryz.func38,Tryz.ntmps38
 go_wp2
 go_ret
 exact⟨rfl,Has.new _ _ _,(RowKit.Below.refl _ _).alloc (Nat.le_refl _) _⟩
def entSteps (k:Int):Ent3:=fun b0 bl args=>match args with
 |[x]=>match numOf x with
  |some (.i64,n)=>some (.fn 70 [b0],(3,[.one (.int .i64 k)]),[n%12=k/\InI n])
  |_=>none
 |_=>none
theorem eSteps (k:Int):EOk3 Tryz.prog GlobD 38 (entSteps k):=by
 refine⟨enter_of Tryz.func38 (by decide) (by decide),fun bl args v t r ps gs he hH ho w hG hB=>?_⟩
 unfold entSteps at he
 split at he
 ·rename_i x
  split at he
  ·rename_i n h1
   injection he with he
   injection he with e1 e2
   injection e2 with e2 e3
   injection e2 with e2 e4
   subst e1 e2 e3 e4
   obtain⟨⟨hk,hn⟩,_⟩:=hH
   refine⟨⟨rfl,trivial⟩,fun j hj=>?_,?_⟩
   ·obtain rfl:=List.mem_singleton.1 hj
    exact Nat.lt_succ_self _
   ·simp only[List.map_cons,List.map_nil,numOf_den h1]
    refine (steps_c n hn w).mono fun e w' ⟨e1,e2,e3⟩=>⟨w.heap.size,Nat.le_refl _,?_,?_,e3⟩
    ·rw[hk] at e2
     exact e2
    ·rw[e1]
     simp[AV.den,List.getD]
  ·cases he
 ·cases he
def XK (k:Int):Cx:=((Cx.of [] (tb L2)).glob GL).made [(38,entSteps k)]
theorem XK_ok (k:Int):CxOk Tryz.prog (XK k) GlobD:=((cx_ok (E:=[]) L2 trivial (by kernel_rfl)).glob GL_ok).made ⟨eSteps k,trivial⟩
theorem l12_0 {a:List Int}(ha:Nm 72 a){n:Int}(hn:InI n)(hk:n%12=0)(w:World)(hG:GlobD w):Calls Tryz.prog 18 #[.agg (vals .u64 a),.int .i64 n] w fun e w'=>e=.returned (.agg (vals .u64 (g12 n a)))/\RowKit.Below w.heap.size w w':=by
 have he:outW (evalF Tryz.prog (XK 0) 0 9 Tryz.f18 [W 72 a,.num .i64 n] [] [])=some (List.replicate 1 (W 72 (all (fun i off=>pe 0 i off a))),[n%12=0/\InI n]):=by kernel_rfl
 have h:=fn_out (XK_ok 0).toCxB rfl Tryz.func18 1 he (hp (⟨hk,hn⟩) trivial) (okA2 (w_ok ha _) trivial) (fun u hu=>hG.keep hu)
 rw[w_den,show all (fun i off=>pe 0 i off a)=g12 n a from by
  rw[even12]
  show _=F12 (pn (n%12).toNat (v12 a))
  rw[hk]
  rfl] at h
 simp only[List.map_cons,List.map_nil,w_den] at h
 exact h
theorem l12_1 {a:List Int}(ha:Nm 72 a){n:Int}(hn:InI n)(hk:n%12=1)(w:World)(hG:GlobD w):Calls Tryz.prog 18 #[.agg (vals .u64 a),.int .i64 n] w fun e w'=>e=.returned (.agg (vals .u64 (g12 n a)))/\RowKit.Below w.heap.size w w':=by
 have he:outW (evalF Tryz.prog (XK 1) 0 9 Tryz.f18 [W 72 a,.num .i64 n] [] [])=some (List.replicate 1 (W 72 (all (fun i off=>po 0 i off a))),[n%12=1/\InI n]):=by kernel_rfl
 have h:=fn_out (XK_ok 1).toCxB rfl Tryz.func18 1 he (hp (⟨hk,hn⟩) trivial) (okA2 (w_ok ha _) trivial) (fun u hu=>hG.keep hu)
 rw[w_den,show all (fun i off=>po 0 i off a)=g12 n a from by
  rw[odd12]
  show _=F12 (pn (n%12).toNat (v12 a))
  rw[hk]
  rfl] at h
 simp only[List.map_cons,List.map_nil,w_den] at h
 exact h
theorem l12_2 {a:List Int}(ha:Nm 72 a){n:Int}(hn:InI n)(hk:n%12=2)(w:World)(hG:GlobD w):Calls Tryz.prog 18 #[.agg (vals .u64 a),.int .i64 n] w fun e w'=>e=.returned (.agg (vals .u64 (g12 n a)))/\RowKit.Below w.heap.size w w':=by
 have he:outW (evalF Tryz.prog (XK 2) 0 9 Tryz.f18 [W 72 a,.num .i64 n] [] [])=some (List.replicate 1 (W 72 (all (fun i off=>pe 1 i off a))),[n%12=2/\InI n]):=by kernel_rfl
 have h:=fn_out (XK_ok 2).toCxB rfl Tryz.func18 1 he (hp (⟨hk,hn⟩) trivial) (okA2 (w_ok ha _) trivial) (fun u hu=>hG.keep hu)
 rw[w_den,show all (fun i off=>pe 1 i off a)=g12 n a from by
  rw[even12]
  show _=F12 (pn (n%12).toNat (v12 a))
  rw[hk]
  rfl] at h
 simp only[List.map_cons,List.map_nil,w_den] at h
 exact h
theorem l12_3 {a:List Int}(ha:Nm 72 a){n:Int}(hn:InI n)(hk:n%12=3)(w:World)(hG:GlobD w):Calls Tryz.prog 18 #[.agg (vals .u64 a),.int .i64 n] w fun e w'=>e=.returned (.agg (vals .u64 (g12 n a)))/\RowKit.Below w.heap.size w w':=by
 have he:outW (evalF Tryz.prog (XK 3) 0 9 Tryz.f18 [W 72 a,.num .i64 n] [] [])=some (List.replicate 1 (W 72 (all (fun i off=>po 1 i off a))),[n%12=3/\InI n]):=by kernel_rfl
 have h:=fn_out (XK_ok 3).toCxB rfl Tryz.func18 1 he (hp (⟨hk,hn⟩) trivial) (okA2 (w_ok ha _) trivial) (fun u hu=>hG.keep hu)
 rw[w_den,show all (fun i off=>po 1 i off a)=g12 n a from by
  rw[odd12]
  show _=F12 (pn (n%12).toNat (v12 a))
  rw[hk]
  rfl] at h
 simp only[List.map_cons,List.map_nil,w_den] at h
 exact h
theorem l12_4 {a:List Int}(ha:Nm 72 a){n:Int}(hn:InI n)(hk:n%12=4)(w:World)(hG:GlobD w):Calls Tryz.prog 18 #[.agg (vals .u64 a),.int .i64 n] w fun e w'=>e=.returned (.agg (vals .u64 (g12 n a)))/\RowKit.Below w.heap.size w w':=by
 have he:outW (evalF Tryz.prog (XK 4) 0 9 Tryz.f18 [W 72 a,.num .i64 n] [] [])=some (List.replicate 1 (W 72 (all (fun i off=>pe 2 i off a))),[n%12=4/\InI n]):=by kernel_rfl
 have h:=fn_out (XK_ok 4).toCxB rfl Tryz.func18 1 he (hp (⟨hk,hn⟩) trivial) (okA2 (w_ok ha _) trivial) (fun u hu=>hG.keep hu)
 rw[w_den,show all (fun i off=>pe 2 i off a)=g12 n a from by
  rw[even12]
  show _=F12 (pn (n%12).toNat (v12 a))
  rw[hk]
  rfl] at h
 simp only[List.map_cons,List.map_nil,w_den] at h
 exact h
theorem l12_5 {a:List Int}(ha:Nm 72 a){n:Int}(hn:InI n)(hk:n%12=5)(w:World)(hG:GlobD w):Calls Tryz.prog 18 #[.agg (vals .u64 a),.int .i64 n] w fun e w'=>e=.returned (.agg (vals .u64 (g12 n a)))/\RowKit.Below w.heap.size w w':=by
 have he:outW (evalF Tryz.prog (XK 5) 0 9 Tryz.f18 [W 72 a,.num .i64 n] [] [])=some (List.replicate 1 (W 72 (all (fun i off=>po 2 i off a))),[n%12=5/\InI n]):=by kernel_rfl
 have h:=fn_out (XK_ok 5).toCxB rfl Tryz.func18 1 he (hp (⟨hk,hn⟩) trivial) (okA2 (w_ok ha _) trivial) (fun u hu=>hG.keep hu)
 rw[w_den,show all (fun i off=>po 2 i off a)=g12 n a from by
  rw[odd12]
  show _=F12 (pn (n%12).toNat (v12 a))
  rw[hk]
  rfl] at h
 simp only[List.map_cons,List.map_nil,w_den] at h
 exact h
theorem l12_6 {a:List Int}(ha:Nm 72 a){n:Int}(hn:InI n)(hk:n%12=6)(w:World)(hG:GlobD w):Calls Tryz.prog 18 #[.agg (vals .u64 a),.int .i64 n] w fun e w'=>e=.returned (.agg (vals .u64 (g12 n a)))/\RowKit.Below w.heap.size w w':=by
 have he:outW (evalF Tryz.prog (XK 6) 0 9 Tryz.f18 [W 72 a,.num .i64 n] [] [])=some (List.replicate 1 (W 72 (all (fun i off=>pe 3 i off a))),[n%12=6/\InI n]):=by kernel_rfl
 have h:=fn_out (XK_ok 6).toCxB rfl Tryz.func18 1 he (hp (⟨hk,hn⟩) trivial) (okA2 (w_ok ha _) trivial) (fun u hu=>hG.keep hu)
 rw[w_den,show all (fun i off=>pe 3 i off a)=g12 n a from by
  rw[even12]
  show _=F12 (pn (n%12).toNat (v12 a))
  rw[hk]
  rfl] at h
 simp only[List.map_cons,List.map_nil,w_den] at h
 exact h
theorem l12_7 {a:List Int}(ha:Nm 72 a){n:Int}(hn:InI n)(hk:n%12=7)(w:World)(hG:GlobD w):Calls Tryz.prog 18 #[.agg (vals .u64 a),.int .i64 n] w fun e w'=>e=.returned (.agg (vals .u64 (g12 n a)))/\RowKit.Below w.heap.size w w':=by
 have he:outW (evalF Tryz.prog (XK 7) 0 9 Tryz.f18 [W 72 a,.num .i64 n] [] [])=some (List.replicate 1 (W 72 (all (fun i off=>po 3 i off a))),[n%12=7/\InI n]):=by kernel_rfl
 have h:=fn_out (XK_ok 7).toCxB rfl Tryz.func18 1 he (hp (⟨hk,hn⟩) trivial) (okA2 (w_ok ha _) trivial) (fun u hu=>hG.keep hu)
 rw[w_den,show all (fun i off=>po 3 i off a)=g12 n a from by
  rw[odd12]
  show _=F12 (pn (n%12).toNat (v12 a))
  rw[hk]
  rfl] at h
 simp only[List.map_cons,List.map_nil,w_den] at h
 exact h
theorem l12_8 {a:List Int}(ha:Nm 72 a){n:Int}(hn:InI n)(hk:n%12=8)(w:World)(hG:GlobD w):Calls Tryz.prog 18 #[.agg (vals .u64 a),.int .i64 n] w fun e w'=>e=.returned (.agg (vals .u64 (g12 n a)))/\RowKit.Below w.heap.size w w':=by
 have he:outW (evalF Tryz.prog (XK 8) 0 9 Tryz.f18 [W 72 a,.num .i64 n] [] [])=some (List.replicate 1 (W 72 (all (fun i off=>pe 4 i off a))),[n%12=8/\InI n]):=by kernel_rfl
 have h:=fn_out (XK_ok 8).toCxB rfl Tryz.func18 1 he (hp (⟨hk,hn⟩) trivial) (okA2 (w_ok ha _) trivial) (fun u hu=>hG.keep hu)
 rw[w_den,show all (fun i off=>pe 4 i off a)=g12 n a from by
  rw[even12]
  show _=F12 (pn (n%12).toNat (v12 a))
  rw[hk]
  rfl] at h
 simp only[List.map_cons,List.map_nil,w_den] at h
 exact h
theorem l12_9 {a:List Int}(ha:Nm 72 a){n:Int}(hn:InI n)(hk:n%12=9)(w:World)(hG:GlobD w):Calls Tryz.prog 18 #[.agg (vals .u64 a),.int .i64 n] w fun e w'=>e=.returned (.agg (vals .u64 (g12 n a)))/\RowKit.Below w.heap.size w w':=by
 have he:outW (evalF Tryz.prog (XK 9) 0 9 Tryz.f18 [W 72 a,.num .i64 n] [] [])=some (List.replicate 1 (W 72 (all (fun i off=>po 4 i off a))),[n%12=9/\InI n]):=by kernel_rfl
 have h:=fn_out (XK_ok 9).toCxB rfl Tryz.func18 1 he (hp (⟨hk,hn⟩) trivial) (okA2 (w_ok ha _) trivial) (fun u hu=>hG.keep hu)
 rw[w_den,show all (fun i off=>po 4 i off a)=g12 n a from by
  rw[odd12]
  show _=F12 (pn (n%12).toNat (v12 a))
  rw[hk]
  rfl] at h
 simp only[List.map_cons,List.map_nil,w_den] at h
 exact h
theorem l12_10 {a:List Int}(ha:Nm 72 a){n:Int}(hn:InI n)(hk:n%12=10)(w:World)(hG:GlobD w):Calls Tryz.prog 18 #[.agg (vals .u64 a),.int .i64 n] w fun e w'=>e=.returned (.agg (vals .u64 (g12 n a)))/\RowKit.Below w.heap.size w w':=by
 have he:outW (evalF Tryz.prog (XK 10) 0 9 Tryz.f18 [W 72 a,.num .i64 n] [] [])=some (List.replicate 1 (W 72 (all (fun i off=>pe 5 i off a))),[n%12=10/\InI n]):=by kernel_rfl
 have h:=fn_out (XK_ok 10).toCxB rfl Tryz.func18 1 he (hp (⟨hk,hn⟩) trivial) (okA2 (w_ok ha _) trivial) (fun u hu=>hG.keep hu)
 rw[w_den,show all (fun i off=>pe 5 i off a)=g12 n a from by
  rw[even12]
  show _=F12 (pn (n%12).toNat (v12 a))
  rw[hk]
  rfl] at h
 simp only[List.map_cons,List.map_nil,w_den] at h
 exact h
theorem l12_11 {a:List Int}(ha:Nm 72 a){n:Int}(hn:InI n)(hk:n%12=11)(w:World)(hG:GlobD w):Calls Tryz.prog 18 #[.agg (vals .u64 a),.int .i64 n] w fun e w'=>e=.returned (.agg (vals .u64 (g12 n a)))/\RowKit.Below w.heap.size w w':=by
 have he:outW (evalF Tryz.prog (XK 11) 0 9 Tryz.f18 [W 72 a,.num .i64 n] [] [])=some (List.replicate 1 (W 72 (all (fun i off=>po 5 i off a))),[n%12=11/\InI n]):=by kernel_rfl
 have h:=fn_out (XK_ok 11).toCxB rfl Tryz.func18 1 he (hp (⟨hk,hn⟩) trivial) (okA2 (w_ok ha _) trivial) (fun u hu=>hG.keep hu)
 rw[w_den,show all (fun i off=>po 5 i off a)=g12 n a from by
  rw[odd12]
  show _=F12 (pn (n%12).toNat (v12 a))
  rw[hk]
  rfl] at h
 simp only[List.map_cons,List.map_nil,w_den] at h
 exact h
theorem lFp12 (a:List Int)(ha:Nm 72 a)(n:Int)(hn:InI n)(w:World)(hG:GlobD w):Calls Tryz.prog 18 #[.agg (vals .u64 a),.int .i64 n] w fun e w'=>e=.returned (.agg (vals .u64 (g12 n a)))/\RowKit.Below w.heap.size w w':=by
 have h:n%12=0∨n%12=1∨n%12=2∨n%12=3∨n%12=4∨n%12=5∨n%12=6∨n%12=7∨n%12=8∨n%12=9∨n%12=10∨n%12=11:=by omega
 rcases h with h|h|h|h|h|h|h|h|h|h|h|h
 ·exact l12_0 ha hn h w hG
 ·exact l12_1 ha hn h w hG
 ·exact l12_2 ha hn h w hG
 ·exact l12_3 ha hn h w hG
 ·exact l12_4 ha hn h w hG
 ·exact l12_5 ha hn h w hG
 ·exact l12_6 ha hn h w hG
 ·exact l12_7 ha hn h w hG
 ·exact l12_8 ha hn h w hG
 ·exact l12_9 ha hn h w hG
 ·exact l12_10 ha hn h w hG
 ·exact l12_11 ha hn h w hG
end S11O
end Go.Proofs.YtjamcbjghffboaaGreatDoor
