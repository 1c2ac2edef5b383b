/-
  Own text.
-/
import Derived.Test.YtjamcbjghffboaaGreatDoorMS15
import Derived.Test.YtjamcbjghffboaaGreatDoorMP
import Derived.Test.YtjamcbjghffboaaGreatDoorM14
import Derived.Test.YtjamcbjghffboaaGreatDoorMSy
import Derived.Test.YtjamcbjghffboaaGreatDoorMFr
import Derived.Test.YtjamcbjghffboaaGreatDoorSxR
import Derived.Test.YtjamcbjghffboaaGreatDoorMRegT
set_option linter.unusedVariables false
set_option linter.unusedSectionVars false
set_option linter.unusedSimpArgs false
set_option maxRecDepth 100000
namespace Go.Proofs.YtjamcbjghffboaaGreatDoor
namespace S16V
set_option maxRecDepth 100000
open Go Reg Base Ring Ab Ec Fp Fp2 Fp6 Fp12 Frob Pk Pts Limb SubM S14D S15D Sx
def fiW (f:List Int):List Int:=F12 (finK (v12 f))
theorem nm_fiW (f:List Int):Nm 72 (fiW f):=Fp12.Nm.F12 _
theorem fi_c {f g:List Int}(h:E12 (v12 f) (v12 g)):fiW f=fiW g:=F12_eq (fin_c h)
theorem fi_o72:fiW O72=O72:=by
 rw[fiW,v12_O72]
 exact (F12_eq fin_k1).trans F12_one
theorem one_w (f:List Int):E12 (v12 (F12 (Fp12.km (v12 O72) (v12 f)))) (v12 f):=by
 have e:E12 (v12 (F12 (Fp12.km (v12 O72) (v12 f)))) (Fp12.km k1 (v12 f)):=(v12_F12 _).trans (Fp12.km_congr (by rw[v12_O72];exact E12.rfl) E12.rfl)
 rw[Fp12.km_one'] at e
 exact e
def both (x:List Int)(b:Bool)(y:List Int)(c:Bool):Bool:=SubM.inB G1K.K1 (G1K.K1.F.int 4) SubM.rN (ptv G1K.K1 x b)&&SubM.inB G2K.K2 G2K.bb SubM.rN (ptv G2K.K2 y c)
def prW (x:List Int)(b:Bool)(y:List Int)(c:Bool):List Int:=if both x b y c=true then fiW (lpW x b y c) else List.replicate 72 0
theorem nm_prW (x:List Int)(b:Bool)(y:List Int)(c:Bool):Nm 72 (prW x b y c):=by
 unfold prW
 split
 ·exact nm_fiW _
 ·exact⟨rfl,words_zeros 72⟩
def prA (x:List Int)(b:Bool)(y:List Int)(c:Bool):AV:=.tup [.agg [.nums 72 (prW x b y c)],.num .i64 (if both x b y c=true then 0 else 140)]
theorem prA_ok (x:List Int)(b:Bool)(y:List Int)(c:Bool)(n:Nat):(prA x b y c).Ok n:=⟨⟨nm_prW _ _ _ _,trivial⟩,trivial,trivial⟩
theorem pr_off {x y:List Int}{b c:Bool}(h:both x b y c=false):prA x b y c=.tup [.agg [.nums 72 (List.replicate 72 0)],.num .i64 140]:=by
 rw[prA,prW,if_neg (by rw[h];decide),if_neg (by rw[h];decide)]
theorem pr_on {x y:List Int}{b c:Bool}(h:both x b y c=true):prA x b y c=.tup [.agg [.nums 72 (fiW (lpW x b y c))],.num .i64 0]:=by
 rw[prA,prW,if_pos h,if_pos h]
def mlW (x:List Int)(b:Bool)(y:List Int)(c:Bool):List Int:=if both x b y c=true then lpW x b y c else List.replicate 72 0
theorem nm_mlW (x:List Int)(b:Bool)(y:List Int)(c:Bool):Nm 72 (mlW x b y c):=by
 unfold mlW
 split
 ·exact nm_lpW _ _ _ _
 ·exact⟨rfl,words_zeros 72⟩
def mlA (x:List Int)(b:Bool)(y:List Int)(c:Bool):AV:=.tup [.agg [.nums 72 (mlW x b y c)],.num .i64 (if both x b y c=true then 0 else 140)]
theorem mlA_ok (x:List Int)(b:Bool)(y:List Int)(c:Bool)(n:Nat):(mlA x b y c).Ok n:=⟨⟨nm_mlW _ _ _ _,trivial⟩,trivial,trivial⟩
theorem fi_ml {x y:List Int}{b c:Bool}(h:both x b y c=true):fiW (mlW x b y c)=prW x b y c:=by
 rw[mlW,prW,if_pos h,if_pos h]
theorem fi_one_ml {x y:List Int}{b c:Bool}(h:both x b y c=true):fiW (F12 (Fp12.km (v12 O72) (v12 (mlW x b y c))))=prW x b y c:=by
 rw[fi_c (one_w _),fi_ml h]
end S16V
namespace S16W
open Go Go.RowKit Reg Base Limb Sx Fp Fp2 Fp6 Fp12 Ec Pts Frob SubM S15D S16V Pk
def oWS (f:List Int->Nat->AV):List AA->AV
 |[.w a,.sl _ l]=>f a (Limb.num l).toNat
 |_=>.unk
theorem conPow {F:FuncId}(hp:∀(a:List Int),Nm 72 a->∀(A:Option Addr) (n c:Nat) (l:List Int) (B:Nat) (w:World),GlobD w->Rd w B A n .u64 l->Words l->B<=w.heap.size->n<=10000->Calls Tryz.prog F #[.agg (vals .u64 a),.slice A n c] w fun e w'=>e=.returned (.agg (vals .u64 (F12 (Fp12.kp (v12 a) (Limb.num l).toNat))))/\RowKit.Below w.heap.size w w'):ConG Tryz.prog GlobD F [.w 72,.sl] G1K.Pre0 (oWS fun a m=>.agg [.nums 72 (F12 (Fp12.kp (v12 a) m))]):=by
 intro l hl _
 match l,hl with
 |[.w a,.sl n l],⟨ha,⟨hn,hl,hw⟩,_⟩=>
  refine⟨fun n=>⟨Fp12.Nm.F12 _,trivial⟩,fun _=>rfl,fun w hG vs hv=>?_⟩
  match vs,hv with
  |[v,u],⟨hv,hu,_⟩=>
   obtain rfl:=hv
   obtain⟨A,c,rfl,B,hB,hr⟩:=hu
   have h:=hp a ha A n c l B w hG hr hw hB hn
   rw[oWS,den_nums]
   exact h
def o72 (f:List Int->AV):List AA->AV
 |[.w a]=>f a
 |_=>.unk
theorem con72 {P:Program}{G:World->Prop}{F:FuncId}{f:List Int->AV}(h0:∀a n,(f a).Ok n)(h1:∀a gs,(f a).den gs=(f a).den [])(h:∀a,Nm 72 a->∀w,G w->Calls P F #[.agg (vals .u64 a)] w fun e w'=>e=.returned ((f a).den [])/\RowKit.Below w.heap.size w w'):ConG P G F [.w 72] G1K.Pre0 (o72 f):=by
 intro l hl _
 match l,hl with
 |[.w a],⟨ha,_⟩=>
  refine⟨h0 a,h1 a,fun w hG vs hv=>?_⟩
  match vs,hv with
  |[v],⟨hv,_⟩=>
   obtain rfl:=hv
   exact h a ha w hG
def lsW (a:List Int):List Int:=F12 (lsK (v12 a))
def phW (a:List Int):List Int:=F12 (Frob.ph (v12 a))
def mW (a b:List Int):List Int:=F12 (Fp12.km (v12 a) (v12 b))
def kcW (a:List Int):List Int:=F12 (Fp12.kc (v12 a))
theorem mW_e {a b:List Int}{x y:Fp12.K}(h:E12 (v12 a) x)(k:E12 (v12 b) y):E12 (v12 (mW a b)) (Fp12.km x y):=(v12_F12 _).trans (Fp12.km_congr h k)
theorem phW_e {a:List Int}{x:Fp12.K}(h:E12 (v12 a) x):E12 (v12 (phW a)) (Frob.ph x):=(v12_F12 _).trans (ph_congr h)
theorem lsW_e {a:List Int}{x:Fp12.K}(h:E12 (v12 a) x):E12 (v12 (lsW a)) (lsK x):=(v12_F12 _).trans (Fp12.kc_congr (kp_congr h xx))
theorem kcW_e {a:List Int}{x:Fp12.K}(h:E12 (v12 a) x):E12 (v12 (kcW a)) (Fp12.kc x):=(v12_F12 _).trans (Fp12.kc_congr h)
def gW (f:List Int):List Int:=mW (kcW f) (F12 (Fp12.ki (v12 f)))
def hW16 (f:List Int):List Int:=mW (phW (phW (gW f))) (gW f)
def aW16 (f:List Int):List Int:=F12 (Fp12.kp (v12 (hW16 f)) x3)
def bW16 (a:List Int):List Int:=mW (lsW a) (phW a)
def cW16 (b:List Int):List Int:=mW (mW (lsW (lsW b)) (phW (phW b))) (kcW b)
theorem fin_w (f:List Int):mW (cW16 (bW16 (aW16 f))) (hW16 f)=fiW f:=by
 have hg:E12 (v12 (gW f)) (Fp12.km (Fp12.kc (v12 f)) (Fp12.ki (v12 f))):=mW_e (v12_F12 _) (v12_F12 _)
 have hh:E12 (v12 (hW16 f)) (hK (v12 f)):=mW_e (phW_e (phW_e hg)) hg
 have ha:E12 (v12 (aW16 f)) (Fp12.kp (hK (v12 f)) x3):=(v12_F12 _).trans (kp_congr hh x3)
 have hb:E12 (v12 (bW16 (aW16 f))) (bK (Fp12.kp (hK (v12 f)) x3)):=mW_e (lsW_e ha) (phW_e ha)
 have hc:E12 (v12 (cW16 (bW16 (aW16 f)))) (cK (bK (Fp12.kp (hK (v12 f)) x3))):=mW_e (mW_e (lsW_e (lsW_e hb)) (phW_e (phW_e hb))) (kcW_e hb)
 exact F12_eq (Fp12.km_congr hc hh)
theorem ls_raw (a:List Int):F12 (Fp12.kc (v12 (F12 (Fp12.kp (v12 a) (Limb.num [15132376222941642752]).toNat))))=lsW a:=by
 rw[show (Limb.num [15132376222941642752]).toNat=xx by decide +kernel]
 exact F12_eq (Fp12.kc_congr (v12_F12 _))
end S16W
namespace S16H
open Go Go.RowKit Reg Base Limb Sx Fp Fp2 Fp6 Fp12 Ec Pts Frob SubM S15D S16V Pk S16W SxR
set_option maxHeartbeats 1000000
theorem lPow12:ConG Tryz.prog GlobD 37 [.w 72,.sl] G1K.Pre0 (oWS fun a m=>.agg [.nums 72 (F12 (Fp12.kp (v12 a) m))]):=conPow S10P.lPow
def L0:List (Fact Tryz.prog GlobD):=S10.lMul.fact (.con Tryz.func29 rfl (by decide) S10.lMul) ::
 S10.lConj.fact (.con Tryz.func15 rfl (by decide) S10.lConj) ::
 S10.lInv.fact (.con Tryz.func16 rfl (by decide) S10.lInv) ::
 []
def T0:List (FuncId×Ent2):=[(37,entG [.w 72,.sl] G1K.Pre0 (oWS fun a m=>.agg [.nums 72 (F12 (Fp12.kp (v12 a) m))]))]
theorem T0_ok:TOk2 Tryz.prog GlobD T0:=⟨.conG Tryz.func37 rfl (by decide) lPow12,trivial⟩
def T1:List (FuncId×Ent2):=(18,S11R.entPn 72 S11R.g12) :: T0
theorem T1_ok:TOk2 Tryz.prog GlobD T1:=⟨S11R.ePn Tryz.func18 rfl (by decide) (fun n a h=>Fp12.Nm.F12 _) S11O.lFp12,T0_ok⟩
def X0:Cx:=((Cx.of [(24,6),(26,12)] (tb L0)).eqs [(35,12),(37,24)]).more T1
theorem X0_ok:CxOk Tryz.prog X0 GlobD:=((cx_ok (E:=[(24,6),(26,12)]) L0 ⟨⟨G1K.eqF,G1K.gdF⟩,⟨G2K.eqF,G2K.gdF⟩,trivial⟩ (by kernel_rfl)).eqs (EM:=[(35,12),(37,24)]) ⟨⟨G1K.eqG,G1K.gdG⟩,⟨G2K.eqG,G2K.gdG⟩,trivial⟩).more T1_ok
def L1:List (Fact Tryz.prog GlobD):=⟨14,entI 14 X0 9,.inline X0_ok GlobD.keep Tryz.func14 rfl (by decide)⟩ ::
 L0
noncomputable def T2:List (FuncId×Ent2):=(36,entQ Tryz.prog 36 X0 9 []) :: T1
theorem T2_ok:TOk2 Tryz.prog GlobD T2:=⟨.inlineQ X0_ok GlobD.keep Tryz.func36 rfl (by decide),T1_ok⟩
noncomputable def X1:Cx:=((Cx.of [(24,6),(26,12)] (tb L1)).eqs [(35,12),(37,24)]).more T2
theorem X1_ok:CxOk Tryz.prog X1 GlobD:=((cx_ok (E:=[(24,6),(26,12)]) L1 ⟨⟨G1K.eqF,G1K.gdF⟩,⟨G2K.eqF,G2K.gdF⟩,trivial⟩ (by kernel_rfl)).eqs (EM:=[(35,12),(37,24)]) ⟨⟨G1K.eqG,G1K.gdG⟩,⟨G2K.eqG,G2K.gdG⟩,trivial⟩).more T2_ok
def reL:List Int:=[10088250816726084267,4137836090706223446]
def opL:List Int:=[15132376222941642752]
def lR (a:List Int):List Int:=F12 (Fp12.kc (v12 (F12 (Fp12.kp (v12 a) (Limb.num opL).toNat))))
def aR (h:List Int):List Int:=F12 (Fp12.kp (v12 h) (Limb.num reL).toNat)
def bR (a:List Int):List Int:=mW (lR a) (S11R.g12 1 a)
def cR (b:List Int):List Int:=mW (mW (lR (lR b)) (S11R.g12 2 b)) (kcW b)
def lastW (h:List Int):List Int:=mW (cR (bR (aR h))) h
def hR (f:List Int):List Int:=mW (S11R.g12 2 (gW f)) (gW f)
theorem lR_e {a:List Int}{x:Fp12.K}(h:E12 (v12 a) x):E12 (v12 (lR a)) (lsK x):=by
 rw[lR,opL,ls_raw]
 exact lsW_e h
theorem g1_e {a:List Int}{x:Fp12.K}(h:E12 (v12 a) x):E12 (v12 (S11R.g12 1 a)) (Frob.ph x):=(v12_F12 _).trans (pn_congr h 1)
theorem g2_e {a:List Int}{x:Fp12.K}(h:E12 (v12 a) x):E12 (v12 (S11R.g12 2 a)) (Frob.ph (Frob.ph x)):=(v12_F12 _).trans (pn_congr h 2)
theorem fin_l (f:List Int):lastW (hR f)=fiW f:=by
 have hg:E12 (v12 (gW f)) (Fp12.km (Fp12.kc (v12 f)) (Fp12.ki (v12 f))):=mW_e (v12_F12 _) (v12_F12 _)
 have hh:E12 (v12 (hR f)) (hK (v12 f)):=mW_e (g2_e hg) hg
 have ha:E12 (v12 (aR (hR f))) (Fp12.kp (hK (v12 f)) x3):=by
  rw[aR,show (Limb.num reL).toNat=x3 by decide +kernel]
  exact (v12_F12 _).trans (kp_congr hh x3)
 have hb:E12 (v12 (bR (aR (hR f)))) (bK (Fp12.kp (hK (v12 f)) x3)):=mW_e (lR_e ha) (g1_e ha)
 have hc:E12 (v12 (cR (bR (aR (hR f))))) (cK (bK (Fp12.kp (hK (v12 f)) x3))):=mW_e (mW_e (lR_e (lR_e hb)) (g2_e hb)) (kcW_e hb)
 exact F12_eq (Fp12.km_congr hc hh)
section
variable {P:Program} {C:Cx} {G:World->Prop} {m N S:Nat} {w:World}
def evL (P:Program)(C:Cx)(m N:Nat):List Code->Ev
 |[],sl,bs,q=>some ([(sl,bs,q,.nrm)],[])
 |c :: cs,sl,bs,q=>match evalC P C m N c sl bs q with
  |none=>none
  |some (l,o)=>match bindO (evL P C m N cs) l with
   |none=>none
   |some (l2,o2)=>some (l2,o++o2)
def seqL:List Code->Code->Code
 |[],T=>T
 |c :: cs,T=>.seq c (seqL cs T)
theorem evL_ok [Rel]{T:Code}{Q:Exit->Act->World->Prop}(hC:CxB P C G)(hH0:C.H=[])(hG:∀u,RowKit.Below S w u->G u)(hQ:∀c a d v w,Q (.panic c) (Act.put a d v) w->Q (.panic c) a w):∀(cs:List Code) {sl:List AV} {bs:List Bk} {q:List Bool} {l:List O1} {obs:List Ob} {gs:List Nat} {a:Act} {x:World},evL P C m N cs sl bs q=some (l,obs)->Holds obs->Sl gs sl a->SOk gs.length sl->m<=gs.length->Wd S w m gs bs x ->
  (∀sl2 bs2 q2 e,(sl2,bs2,q2,e)∈l->e=Ek.nrm/\∀gs' a' x',Sl gs' sl2 a'->SOk gs'.length sl2->m<=gs'.length->Thr gs a gs' a'->Wd S w m gs' bs2 x'->T.wp P Q a' x')->(seqL cs T).wp P Q a x
 |[],sl,bs,q,l,obs,gs,a,x,he,hH,h,ho,hm,H,hK=>by
  injection he with he
  injection he with e1 e2
  subst e1
  exact (hK sl bs q .nrm (by simp)).2 gs a x h ho hm (.of rfl) H
 |c :: cs,sl,bs,q,l,obs,gs,a,x,he,hH,h,ho,hm,H,hK=>by
  unfold evL at he
  split at he
  ·cases he
  ·rename_i l1 o1 h1
   split at he
   ·cases he
   ·rename_i l2 o2 h2
    injection he with he
    injection he with e1 e2
    subst e1 e2
    obtain⟨hH1,hH2⟩:=holds_app hH
    refine wp_seq ((code_ok (S:=S) (w:=w) hC hG c (fun id c' f hc=>by rw[hH0,hooked_nil] at hc;cases hc)).go (fun c a d v w h=>hQ c a d v w h) h1 h ho hm H hH1 (fun sl2 bs2 q2 e hx gs' a' x' p1 p2 p3 p4 p5=>?_))
    have hb:=bindO_ok h2 hH2 sl2 bs2 q2 e hx
    cases e with
    |nrm=>
     obtain⟨l3,o3,k1,k2,k3⟩:=hb
     exact evL_ok hC hH0 hG hQ cs k1 k2 p1 p2 p3 p5 (fun sl3 bs3 q3 e3 h3=>⟨(hK _ _ _ _ (k3 _ h3)).1,fun gs2 a2 x2 r1 r2 r3 r4 r5=>(hK _ _ _ _ (k3 _ h3)).2 gs2 a2 x2 r1 r2 r3 (r4.trans p4) r5⟩)
    |ret=>exact absurd (hK _ _ _ _ hb).1 (by intro h;cases h)
    |ext i=>exact absurd (hK _ _ _ _ hb).1 (by intro h;cases h)
theorem tailW_ok {fn:Func}{R:Code}{sl:List AV}{bs:List Bk}{q:List Bool}{gs:List Nat}{a:Act}{x:World}{obs:List Ob}{vs:List AV}{Q:Ending->World->Prop}(hC:CxB P C G)(hH0:C.H=[])(hG:∀u,RowKit.Below S w u->G u)
  (he:evalR P C m N R fn.results.toList sl bs q=some (vs,obs)) (hH:Holds obs) (h:Sl gs sl a) (ho:SOk gs.length sl) (hm:m<=gs.length) (H:Wd S w m gs bs x) (hd:a.defers=[])
  (hQ:∀v∈vs,∀x',RowKit.Below S w x'->∀gs':List Nat,Q (.returned (v.den gs')) x'):R.wp P (bodyPost P fn Q) a x:=by
 unfold evalR at he
 split at he
 ·rename_i l ob h1
  split at he
  ·rename_i vs' hr
   injection he with he
   injection he with e1 e2
   subst e1 e2
   refine (code_ok (S:=S) (w:=w) hC hG R (fun id c' f hc=>by rw[hH0,hooked_nil] at hc;cases hc)).go (fun c a d v w h=>?_) h1 h ho hm H hH (fun sl2 bs2 q2 e hx gs' a' x' p1 p2 p3 p4 p5=>?_)
   ·simp only[bodyPost] at h ⊢
    refine⟨?_,h.2⟩
    have:=h.1
    cases d<;>exact this
   ·obtain⟨hx1,v',hv',hra⟩:=resL_ok hr sl2 bs2 q2 e hx
    obtain⟨r1,r2,r3⟩:=resA_ok p1 p2 p5 hra
    cases e with
    |nrm=>exact⟨p4.defers.trans hd,_,r3,hQ v' hv' x' p5.bel gs'⟩
    |ret=>exact⟨p4.defers.trans hd,_,r3,hQ v' hv' x' p5.bel gs'⟩
    |ext i=>exact (hx1 i rfl).elim
  ·cases he
 ·cases he
theorem calls_opq2 {g:FuncId}{fn:Func}{c0 c1 R:Code}{args:Array Value}{Q:Ending->World->Prop}(K:Act->World->Prop)(hf:P.funcs[g]? = some fn)(hb:fn.body=some (.seq c0 (.seq c1 R)))
  (hR:∀a x,K a x->R.wp P (bodyPost P fn Q) a x) (h:∀R',(∀a x,K a x->R'.wp P (bodyPost P fn Q) a x)->(Code.seq c0 (.seq c1 R')).wp P (bodyPost P fn Q) { tmps:=args++Array.replicate (fn.ntmps-args.size) undef,defers:=[] } w):Calls P g args w Q:=
 calls_of_wp hf hb (h R hR)
end
def nthC:Nat->Code->Code
 |0,.seq a _=>a
 |n+1,.seq _ b=>nthC n b
 |_,c=>c
def lookE:O1->Nat×Option AV×Option AV×Option (Nat×Option Bk)×Option Bk×Ek
 |(sl,bs,_,e)=>(sl.length,sl[1]?,sl[2]?,(match (sl[8]?:Option AV) with|some (AV.ptr k 0)=>some (k,bs[k]?)|_=>none),bs[1]?,e)
noncomputable def mids:List Code:=[nthC 2 (bodyOf Tryz.f17),nthC 3 (bodyOf Tryz.f17),nthC 4 (bodyOf Tryz.f17),nthC 5 (bodyOf Tryz.f17)]
def slM (A0:Option Addr)(S1:Nat):List AV:=mkSl 37 [(1,.ptr 1 0),(2,.val (.pointer (some ⟨S1,0,none⟩))),(3,.ext A0 2 2 reL),(4,.ptr 0 0)]
def bsM (A1:Option Addr)(h:List Int):List Bk:=[(50,[.nm (.ext A1 1 1 opL)]),(30,[.nums 72 h])]
noncomputable abbrev XM (A0 A1:Option Addr)(B:Nat):Cx:=X1.sym (DS [(A0,2,reL,B),(A1,1,opL,B)]) []
def slT:List AV:=mkSl 37 [(1,.ptr 0 0),(2,.ptr 1 0),(8,.ptr 2 0)]
def bsT (h:List Int):List Bk:=[(30,[.nums 72 h]),(30,[.nums 72 (List.replicate 72 0)]),(30,[.nums 72 (cR (bR (aR h)))])]
theorem mid_ev (A0 A1:Option Addr)(B S1:Nat)(h:List Int):(evL Tryz.prog (XM A0 A1 B) 2 9 mids (slM A0 S1) (bsM A1 h) []).map (fun r=>(r.1.map lookE,r.2))=some ([(37,some (.ptr 1 0),some (.val (.pointer (some ⟨S1,0,none⟩))),some (6,some (30,[.nums 72 (cR (bR (aR h)))])),some (30,[.nums 72 h]),.nrm),(37,some (.ptr 1 0),some (.val (.pointer (some ⟨S1,0,none⟩))),some (5,some (30,[.nums 72 (cR (bR (aR h)))])),some (30,[.nums 72 h]),.nrm),(37,some (.ptr 1 0),some (.val (.pointer (some ⟨S1,0,none⟩))),some (6,some (30,[.nums 72 (cR (bR (aR h)))])),some (30,[.nums 72 h]),.nrm),(37,some (.ptr 1 0),some (.val (.pointer (some ⟨S1,0,none⟩))),some (5,some (30,[.nums 72 (cR (bR (aR h)))])),some (30,[.nums 72 h]),.nrm)],[(XM A0 A1 B).D A0 2 reL,2<=10000,(XM A0 A1 B).D A1 1 opL,1<=10000,S11R.InI 1,(XM A0 A1 B).D A1 1 opL,1<=10000,(XM A0 A1 B).D A1 1 opL,1<=10000,S11R.InI 2,(XM A0 A1 B).D A1 1 opL,1<=10000,(XM A0 A1 B).D A1 1 opL,1<=10000,S11R.InI 2]):=by kernel_rfl
theorem tail_ev (h:List Int):evalR Tryz.prog X1 0 9 (rsN 6 (bodyOf Tryz.f17)) Tryz.f17.results.toList slT (bsT h) []=some ([.agg [.nums 72 (lastW h)]],[]):=by kernel_rfl
theorem re_w:Words reL:=words_of _ (by decide)
theorem op_w:Words opL:=words_of _ (by decide)
theorem rest_ok {h:List Int}(hh:Nm 72 h){S:Nat}{w x:World}(hS:w.heap.size=S)(hG:GlobD w){act:Act}(H:Kn S w [⟨S,30,vals .u64 h⟩,⟨S+1,30,vals .u64 (List.replicate 72 0)⟩,⟨S+2,22,vals .u64 reL⟩,⟨S+3,22,vals .u64 opL⟩,⟨S+4,50,#[.slice (some ⟨S+3,0,none⟩) 1 1]⟩] x)(h1:act.tmps.size=37)
  (h2:∀p∈([(1,.ptr 1 0),(2,.val (.pointer (some ⟨S+1,0,none⟩))),(3,.ext (some ⟨S+2,0,none⟩) 2 2 reL),(4,.ptr 0 0)]:List (Nat×AV)),act.tmps[p.1]? = some (p.2.den [S+4,S])) (hd:act.defers=[]) {Q:Ending->World->Prop} (hQ:∀x',RowKit.Below S w x'->Q (.returned (.agg (vals .u64 (lastW h)))) x'):(rsN 2 (bodyOf Tryz.f17)).wp Tryz.prog (bodyPost Tryz.prog Tryz.f17 Q) act x:=by
 have hG':∀u,RowKit.Below S w u->GlobD u:=fun u hu=>hG.keep (hS▸hu)
 have hx0:=H.at 0 rfl
 have hx1:=H.at 1 rfl
 have hx4:=H.at 4 rfl
 have l1x:=hx1.lt
 have r0:Rd x x.heap.size (some ⟨S+2,0,none⟩) 2 .u64 reL:=Rd.of_has (H.at 2 rfl) (H.at 2 rfl).lt (by rfl) (by decide)
 have r1:Rd x x.heap.size (some ⟨S+3,0,none⟩) 1 .u64 opL:=Rd.of_has (H.at 3 rfl) (H.at 3 rfl).lt (by rfl) (by decide)
 have hGx:∀u,RowKit.Below x.heap.size x u->GS GlobD [(some ⟨S+2,0,none⟩,2,reL,x.heap.size),(some ⟨S+3,0,none⟩,1,opL,x.heap.size)] u:=fun u hu=>GS.keep (fun h k=>h.keep k) ⟨hG' x H.bel,fun s hs=>by
  simp only[List.mem_cons,List.not_mem_nil,or_false] at hs
  rcases hs with rfl|rfl
  ·exact⟨Nat.le_refl _,r0⟩
  ·exact⟨Nat.le_refl _,r1⟩⟩ hu
 have hCx:CxB Tryz.prog (XM (some ⟨S+2,0,none⟩) (some ⟨S+3,0,none⟩) x.heap.size) (GS GlobD [(some ⟨S+2,0,none⟩,2,reL,x.heap.size),(some ⟨S+3,0,none⟩,1,opL,x.heap.size)]):=X1_ok.toCxB.sym (fun u hu=>hu.1) (DS_ok (fun s hs=>by
  simp only[List.mem_cons,List.not_mem_nil,or_false] at hs
  rcases hs with rfl|rfl
  ·exact re_w
  ·exact op_w)) []
 have d0:DS [(some ⟨S+2,0,none⟩,2,reL,x.heap.size),(some ⟨S+3,0,none⟩,1,opL,x.heap.size)] (some ⟨S+2,0,none⟩) 2 reL:=⟨x.heap.size,by simp⟩
 have d1:DS [(some ⟨S+2,0,none⟩,2,reL,x.heap.size),(some ⟨S+3,0,none⟩,1,opL,x.heap.size)] (some ⟨S+3,0,none⟩) 1 opL:=⟨x.heap.size,by simp⟩
 have hev:=mid_ev (some ⟨S+2,0,none⟩) (some ⟨S+3,0,none⟩) x.heap.size (S+1) h
 cases he:evL Tryz.prog (XM (some ⟨S+2,0,none⟩) (some ⟨S+3,0,none⟩) x.heap.size) 2 9 mids (slM (some ⟨S+2,0,none⟩) (S+1)) (bsM (some ⟨S+3,0,none⟩) h) [] with
 |none=>
  rw[he] at hev
  cases hev
 |some r=>
  obtain⟨l,obs⟩:=r
  rw[he] at hev
  injection hev with hev
  injection hev with e1 e2
  refine @evL_ok _ _ _ 2 9 x.heap.size x extRel (rsN 6 (bodyOf Tryz.f17)) _ hCx rfl hGx (fun c a d v w h=>?_) mids _ _ _ _ _ [S+4,S] act x he (by rw[show obs=_ from e2];exact⟨d0,by decide,d1,by decide,by decide,d1,by decide,d1,by decide,by decide,d1,by decide,d1,by decide,by decide,trivial⟩) (mkSl_ok h1 h2) (mkSl_sok (fun p hp=>?_)) (Nat.le_refl _) (wd_of (gs:=[S+4,S]) (bs:=bsM (some ⟨S+3,0,none⟩) h) rfl (fun k t r hk=>?_)) (fun sl2 bs2 q2 e hx=>?_)
  ·simp only[bodyPost] at h ⊢
   refine⟨?_,h.2⟩
   have:=h.1
   cases d<;>exact this
  ·simp only[List.mem_cons,List.not_mem_nil,or_false] at hp
   rcases hp with rfl|rfl|rfl|rfl
   ·exact (by decide:1<2)
   ·trivial
   ·trivial
   ·exact (by decide:0<2)
  ·match k,hk with
   |0,hk=>
    obtain⟨rfl,rfl⟩:50=t/\[Sg.nm (.ext (some ⟨S+3,0,none⟩) 1 1 opL)]=r:=by simpa [bsM] using hk
    exact⟨hx4,trivial,trivial⟩
   |1,hk=>
    obtain⟨rfl,rfl⟩:30=t/\[Sg.nums 72 h]=r:=by simpa [bsM] using hk
    have hden:(den [Sg.nums 72 h]).toArray=vals .u64 h:=by simp[den,Sg.den,vals]
    exact⟨by rw[hden];exact hx0,hh,trivial⟩
   |k+2,hk=>simp[bsM] at hk
  ·have hm:lookE (sl2,bs2,q2,e)∈l.map lookE:=List.mem_map_of_mem hx
   rw[e1] at hm
   obtain⟨k,hk2,hl⟩:∃k,2<=k/\lookE (sl2,bs2,q2,e)=(37,some (.ptr 1 0),some (.val (.pointer (some ⟨S+1,0,none⟩))),some (k,some (30,[.nums 72 (cR (bR (aR h)))])),some (30,[.nums 72 h]),.nrm):=by
    simp only[List.mem_cons,List.not_mem_nil,or_false] at hm
    rcases hm with hm|hm|hm|hm<;>exact⟨_,by decide,hm⟩
   simp only[lookE,Prod.mk.injEq] at hl
   obtain⟨ln,l1,l2,l8,lb,rfl⟩:=hl
   obtain⟨l8a,l8b⟩:sl2[8]? = some (.ptr k 0)/\bs2[k]? = some (30,[.nums 72 (cR (bR (aR h)))]):=by
    split at l8
    ·rename_i k' h8
     simp only[Option.some.injEq,Prod.mk.injEq] at l8
     obtain⟨rfl,l8⟩:=l8
     exact⟨h8,l8⟩
    ·cases l8
   refine⟨rfl,fun gs' a' x' p1 p2 p3 p4 p5=>?_⟩
   obtain⟨e,rfl⟩:∃e,gs'=[S+4,S]++e:=@Thr.rel extRel _ _ _ _ p4
   have hkl:k<([S+4,S]++e).length:=by
    rw[p5.len]
    exact (List.getElem?_eq_some_iff.1 l8b).1
   have t1:=p1.2 1 _ l1 (by intro h;cases h)
   have t2:=p1.2 2 _ l2 (by intro h;cases h)
   have t8:=p1.2 8 _ l8a (by intro h;cases h)
   have b1:=(p5.has 1 _ _ lb).1
   have b8:=(p5.has k _ _ l8b).1
   have o8:=(p5.has k _ _ l8b).2
   have lo8:=p5.lo k hk2 hkl
   obtain⟨g,hg⟩:∃g,([S+4,S]++e).getD k 0=g:=⟨_,rfl⟩
   rw[hg] at b8 lo8
   have hden:∀z:List Int,(denB ([S+4,S]++e) [Sg.nums 72 z]).toArray=vals .u64 z:=fun z=>by
    show (den [Sg.nums 72 z]).toArray=_
    simp[den,Sg.den,vals]
   have hdn:∀z:List Int,(denB [S,S+1,g] [Sg.nums 72 z]).toArray=vals .u64 z:=fun z=>by
    show (den [Sg.nums 72 z]).toArray=_
    simp[den,Sg.den,vals]
   rw[hden] at b1 b8
   have b1':Has x' S 30 (vals .u64 h):=b1
   have b2:Has x' (S+1) 30 (vals .u64 (List.replicate 72 0)):=hx1.keep p5.bel
   refine tailW_ok (gs:=[S,S+1,g]) (m:=0) (S:=S) (w:=w) X1_ok.toCxB rfl hG' (tail_ev h) trivial (mkSl_ok (p1.1.trans ln) (fun p hp=>?_)) (mkSl_sok (fun p hp=>?_)) (Nat.zero_le _) ⟨H.bel.trans (p5.bel.mono H.sz),Nat.le_trans H.sz (Nat.le_trans (Nat.le_refl _) p5.bel.size),rfl,fun k t r hk=>?_,fun j _ hj=>?_,fun i j hi hj _ hij=>?_⟩ ((@Thr.defers extRel _ _ _ _ p4).trans hd) (fun v hv x2 hx2 gs2=>?_)
   ·simp only[List.mem_cons,List.not_mem_nil,or_false] at hp
    rcases hp with rfl|rfl|rfl
    ·exact t1
    ·exact t2
    ·rw[t8,AV.den,hg]
     rfl
   ·simp only[List.mem_cons,List.not_mem_nil,or_false] at hp
    rcases hp with rfl|rfl|rfl
    ·exact (by decide:0<3)
    ·exact (by decide:1<3)
    ·exact (by decide:2<3)
   ·match k,hk with
    |0,hk=>
     obtain⟨rfl,rfl⟩:30=t/\[Sg.nums 72 h]=r:=by simpa [bsT] using hk
     exact⟨by rw[hdn];exact b1',hh,trivial⟩
    |1,hk=>
     obtain⟨rfl,rfl⟩:30=t/\[Sg.nums 72 (List.replicate 72 0)]=r:=by simpa [bsT] using hk
     exact⟨by rw[hdn];exact b2,⟨rfl,words_zeros 72⟩,trivial⟩
    |2,hk=>
     obtain⟨rfl,rfl⟩:30=t/\[Sg.nums 72 (cR (bR (aR h)))]=r:=by simpa [bsT] using hk
     exact⟨by rw[hdn];exact b8,o8⟩
    |k+3,hk=>simp[bsT] at hk
   ·match j,hj with
    |0,_=>exact Nat.le_refl _
    |1,_=>exact Nat.le_succ _
    |2,_=>exact Nat.le_trans H.sz lo8
   ·have q1:S+1<g:=Nat.lt_of_lt_of_le l1x lo8
    match i,j,hi,hj,hij with
    |0,0,_,_,h=>exact absurd rfl h
    |0,1,_,_,_=>exact (by show S+1≠S;omega)
    |0,2,_,_,_=>exact (by show g≠S;omega)
    |1,0,_,_,_=>exact (by show S≠S+1;omega)
    |1,1,_,_,h=>exact absurd rfl h
    |1,2,_,_,_=>exact (by show g≠S+1;omega)
    |2,0,_,_,_=>exact (by show S≠g;omega)
    |2,1,_,_,_=>exact (by show S+1≠g;omega)
    |2,2,_,_,h=>exact absurd rfl h
   ·have:v=.agg [.nums 72 (lastW h)]:=by simpa using hv
    subst this
    rw[den_nums]
    exact hQ x2 hx2
set_option maxHeartbeats 4000000 in
theorem last_c {h:List Int}(hh:Nm 72 h)(w:World)(hG:GlobD w):Calls Tryz.prog 17 #[.agg (vals .u64 h)] w fun e w'=>e=.returned (.agg (vals .u64 (lastW h)))/\RowKit.Below w.heap.size w w':=by
 obtain⟨S,hS⟩:∃S,w.heap.size=S:=⟨_,rfl⟩
 refine calls_opq2 (fun act x=>Kn S w [⟨S,30,vals .u64 h⟩,⟨S+1,30,vals .u64 (List.replicate 72 0)⟩,⟨S+2,22,vals .u64 reL⟩,⟨S+3,22,vals .u64 opL⟩,⟨S+4,50,#[.slice (some ⟨S+3,0,none⟩) 1 1]⟩] x/\act.tmps.size=37/\(∀p∈([(1,.ptr 1 0),(2,.val (.pointer (some ⟨S+1,0,none⟩))),(3,.ext (some ⟨S+2,0,none⟩) 2 2 reL),(4,.ptr 0 0)]:List (Nat×AV)),act.tmps[p.1]? = some (p.2.den [S+4,S]))/\act.defers=[]) Tryz.func17 rfl (fun act x h=>?_) (fun R' hR'=>?_)
 ·obtain⟨g1,g2,g3,g4⟩:=h
  exact rest_ok hh hS hG g1 g2 g3 g4 (fun x' hb=>⟨rfl,hS▸hb⟩)
 have HG:Keep _:=⟨hG⟩
 have HH:Keep _:=⟨hh⟩
 clear hG hh
 simp only[Tryz.ntmps17,List.size_toArray,List.length_cons,List.length_nil,Nat.reduceAdd,Nat.reduceSub,Array.replicate_succ,Array.replicate_zero,List.push_toArray,List.append_toArray,List.nil_append,List.cons_append]
 go_wp2
 refine hR' _ _ ⟨?_,rfl,fun p hp=>?_,rfl⟩
 ·exact (((((Kn.nil hS).push _ _ hS).push _ _ (g:=S+1) (by simp[hS])).push _ _ (g:=S+2) (by simp[hS])).push _ _ (g:=S+3) (by simp[hS])).push _ _ (g:=S+4) (by simp[hS])
 ·simp only[List.mem_cons,List.not_mem_nil,or_false] at hp
  rcases hp with rfl|rfl|rfl|rfl<;>rfl
theorem nm_last (a:List Int):Nm 72 (lastW a):=by
 unfold lastW mW
 exact Fp12.Nm.F12 _
theorem lLast:ConG Tryz.prog GlobD 17 [.w 72] G1K.Pre0 (o72 fun a=>.agg [.nums 72 (lastW a)]):=con72 (fun a n=>⟨nm_last a,trivial⟩) (fun _ _=>rfl) (fun a ha w hG=>by
 rw[den_nums]
 exact last_c ha w hG)
end S16H
namespace S16O
open Go Go.RowKit Reg Base Limb Sx Fp Fp2 Fp6 Fp12 Ec Pts Frob SubM S15D S16V Pk S16W SxR S16H
set_option maxHeartbeats 1000000
def T6:List (FuncId×Ent2):=[(17,entG [.w 72] G1K.Pre0 (o72 fun a=>.agg [.nums 72 (lastW a)]))]
theorem T6_ok:TOk2 Tryz.prog GlobD T6:=⟨.conG Tryz.func17 rfl (by decide) lLast,trivial⟩
def T7:List (FuncId×Ent2):=(18,S11R.entPn 72 S11R.g12) :: T6
theorem T7_ok:TOk2 Tryz.prog GlobD T7:=⟨S11R.ePn Tryz.func18 rfl (by decide) (fun n a h=>Fp12.Nm.F12 _) S11O.lFp12,T6_ok⟩
def X7:Cx:=((Cx.of [(24,6),(26,12)] (tb L1)).eqs [(35,12),(37,24)]).more T7
theorem X7_ok:CxOk Tryz.prog X7 GlobD:=((cx_ok (E:=[(24,6),(26,12)]) L1 ⟨⟨G1K.eqF,G1K.gdF⟩,⟨G2K.eqF,G2K.gdF⟩,trivial⟩ (by kernel_rfl)).eqs (EM:=[(35,12),(37,24)]) ⟨⟨G1K.eqG,G1K.gdG⟩,⟨G2K.eqG,G2K.gdG⟩,trivial⟩).more T7_ok
theorem lFinal:ConG Tryz.prog GlobD 6 [.w 72] G1K.Pre0 (o72 fun a=>.agg [.nums 72 (fiW a)]):=con72 (fun a n=>⟨Fp12.Nm.F12 _,trivial⟩) (fun _ _=>rfl) (fun a ha w hG=>fn_outS (N:=9) X7_ok GlobD.keep Tryz.func6 [] (fun s hs=>by cases hs) (G1K.noSS hG) (args:=[.agg [.nums 72 a]]) (q:=[]) (v:=(.agg [.nums 72 (lastW (hR a))])) (obs:=[S11R.InI 2,S11R.InI 2]) 2 (by kernel_rfl) (hp (by decide) (hp (by decide) trivial)) (okA1 ⟨ha,trivial⟩) (by rw[fin_l]) (by simp only[List.map_cons,List.map_nil,G1K.p_den,G2K.p_den,S15D.w_den];try rfl))
def T5:List (FuncId×Ent2):=[(56,entG [.p 12] G1K.Pre0 (G1K.o1 fun x b=>.bl (inB G1K.K1 (G1K.K1.F.int 4) rN (ptv G1K.K1 x b)))),(57,entG [.p 24] G2K.Pre0 (G2K.o1 fun x b=>.bl (inB G2K.K2 G2K.bb rN (ptv G2K.K2 x b)))),(58,entG [.p 12,.p 24] G1K.Pre0 (S15D.oP fun x b y c=>S15D.lpA x b y c))]
theorem T5_ok:TOk2 Tryz.prog GlobD T5:=⟨.conG Tryz.func56 rfl (by decide) S14O.lIn1,.conG Tryz.func57 rfl (by decide) S14O.lIn2,.conG Tryz.func58 rfl (by decide) S15O.lLoop,trivial⟩
def X5:Cx:=((Cx.of [(24,6),(26,12)] (tb L0)).eqs [(35,12),(37,24)]).more T5
theorem X5_ok:CxOk Tryz.prog X5 GlobD:=((cx_ok (E:=[(24,6),(26,12)]) L0 ⟨⟨G1K.eqF,G1K.gdF⟩,⟨G2K.eqF,G2K.gdF⟩,trivial⟩ (by kernel_rfl)).eqs (EM:=[(35,12),(37,24)]) ⟨⟨G1K.eqG,G1K.gdG⟩,⟨G2K.eqG,G2K.gdG⟩,trivial⟩).more T5_ok
theorem ml_off {x y:List Int}{b c:Bool}(h:both x b y c=false):mlA x b y c=.tup [.agg [.nums 72 (List.replicate 72 0)],.num .i64 140]:=by
 rw[mlA,mlW,if_neg (by rw[h];decide),if_neg (by rw[h];decide)]
theorem ml_on {x y:List Int}{b c:Bool}(h1:inB G1K.K1 (G1K.K1.F.int 4) rN (ptv G1K.K1 x b)=true)(h2:inB G2K.K2 G2K.bb rN (ptv G2K.K2 y c)=true):mlA x b y c=(.tup [.agg [.nums 72 (lpW x b y c)],.num .i64 (if (onB G1K.K1 (G1K.K1.F.int 4) (ptv G1K.K1 x b)&&onB G2K.K2 G2K.bb (ptv G2K.K2 y c))=true then 0 else 120)]):=by
 have h:both x b y c=true:=by rw[both,h1,h2];rfl
 have o1:onB G1K.K1 (G1K.K1.F.int 4) (ptv G1K.K1 x b)=true:=(onB_iff G1K.K1).2 ((inB_iff G1K.K1).1 h1).1
 have o2:onB G2K.K2 G2K.bb (ptv G2K.K2 y c)=true:=(onB_iff G2K.K2).2 ((inB_iff G2K.K2).1 h2).1
 rw[mlA,mlW,if_pos h,if_pos h,if_pos (by rw[o1,o2];rfl)]
theorem lMil:ConG Tryz.prog GlobD 28 [.p 12,.p 24] G1K.Pre0 (S15D.oP fun x b y c=>S16V.mlA x b y c):=conP mlA_ok (fun _ _ _ _ _=>rfl) (fun x hx b y hy c w hG=>by
 cases h1:inB G1K.K1 (G1K.K1.F.int 4) rN (ptv G1K.K1 x b)
 ·exact fn_outS (N:=9) X5_ok GlobD.keep Tryz.func28 [] (fun s hs=>by cases hs) (G1K.noSS hG) (args:=[.agg [.nums 12 x,.nm (.bl b)],.agg [.nums 24 y,.nm (.bl c)]]) (q:=[false]) (v:=(.tup [.agg [.nums 72 (List.replicate 72 0)],.num .i64 140])) (obs:=[inB G1K.K1 (G1K.K1.F.int 4) rN (ptv G1K.K1 x b)=false]) 1 (by kernel_rfl) (hp (h1) trivial) (okA2 ⟨hx,trivial,trivial⟩ ⟨hy,trivial,trivial⟩) (by rw[ml_off (by rw[both,h1];rfl)]) (by simp only[List.map_cons,List.map_nil,G1K.p_den,G2K.p_den,S15D.w_den];try rfl)
 ·cases h2:inB G2K.K2 G2K.bb rN (ptv G2K.K2 y c)
  ·exact fn_outS (N:=9) X5_ok GlobD.keep Tryz.func28 [] (fun s hs=>by cases hs) (G1K.noSS hG) (args:=[.agg [.nums 12 x,.nm (.bl b)],.agg [.nums 24 y,.nm (.bl c)]]) (q:=[true,false]) (v:=(.tup [.agg [.nums 72 (List.replicate 72 0)],.num .i64 140])) (obs:=[inB G1K.K1 (G1K.K1.F.int 4) rN (ptv G1K.K1 x b)=true,inB G2K.K2 G2K.bb rN (ptv G2K.K2 y c)=false]) 1 (by kernel_rfl) (hp (h1) (hp (h2) trivial)) (fun v hv=>by
   simp only[List.mem_cons,List.not_mem_nil,or_false] at hv
   rcases hv with rfl|rfl
   ·exact⟨hx,trivial,trivial⟩
   ·exact⟨hy,trivial,trivial⟩) (by rw[ml_off (by rw[both,h1,h2];rfl)]) (by simp only[List.map_cons,List.map_nil,G1K.p_den,G2K.p_den,S15D.w_den];try rfl)
  ·exact fn_outS (N:=9) X5_ok GlobD.keep Tryz.func28 [] (fun s hs=>by cases hs) (G1K.noSS hG) (args:=[.agg [.nums 12 x,.nm (.bl b)],.agg [.nums 24 y,.nm (.bl c)]]) (q:=[true,true]) (v:=(.tup [.agg [.nums 72 (lpW x b y c)],.num .i64 (if (onB G1K.K1 (G1K.K1.F.int 4) (ptv G1K.K1 x b)&&onB G2K.K2 G2K.bb (ptv G2K.K2 y c))=true then 0 else 120)])) (obs:=[inB G1K.K1 (G1K.K1.F.int 4) rN (ptv G1K.K1 x b)=true,inB G2K.K2 G2K.bb rN (ptv G2K.K2 y c)=true]) 1 (by kernel_rfl) (hp (h1) (hp (h2) trivial)) (okA2 ⟨hx,trivial,trivial⟩ ⟨hy,trivial,trivial⟩) (by rw[ml_on h1 h2]) (by simp only[List.map_cons,List.map_nil,G1K.p_den,G2K.p_den,S15D.w_den];try rfl))
def T8:List (FuncId×Ent2):=[(6,entG [.w 72] G1K.Pre0 (o72 fun a=>.agg [.nums 72 (fiW a)])),(28,entG [.p 12,.p 24] G1K.Pre0 (S15D.oP fun x b y c=>S16V.mlA x b y c))]
theorem T8_ok:TOk2 Tryz.prog GlobD T8:=⟨.conG Tryz.func6 rfl (by decide) lFinal,.conG Tryz.func28 rfl (by decide) lMil,trivial⟩
def X8:Cx:=((Cx.of [(24,6),(26,12)] (tb L1)).eqs [(35,12),(37,24)]).more T8
theorem X8_ok:CxOk Tryz.prog X8 GlobD:=((cx_ok (E:=[(24,6),(26,12)]) L1 ⟨⟨G1K.eqF,G1K.gdF⟩,⟨G2K.eqF,G2K.gdF⟩,trivial⟩ (by kernel_rfl)).eqs (EM:=[(35,12),(37,24)]) ⟨⟨G1K.eqG,G1K.gdG⟩,⟨G2K.eqG,G2K.gdG⟩,trivial⟩).more T8_ok
noncomputable def T9 (q:List Bool):List (FuncId×Ent2):=(12,entQ Tryz.prog 12 X8 9 q) :: T8
theorem T9_ok (q:List Bool):TOk2 Tryz.prog GlobD (T9 q):=⟨.inlineQ X8_ok GlobD.keep Tryz.func12 rfl (by decide),T8_ok⟩
noncomputable def X9 (q:List Bool):Cx:=((Cx.of [(24,6),(26,12)] (tb L0)).eqs [(35,12),(37,24)]).more (T9 q)
theorem X9_ok (q:List Bool):CxOk Tryz.prog (X9 q) GlobD:=((cx_ok (E:=[(24,6),(26,12)]) L0 ⟨⟨G1K.eqF,G1K.gdF⟩,⟨G2K.eqF,G2K.gdF⟩,trivial⟩ (by kernel_rfl)).eqs (EM:=[(35,12),(37,24)]) ⟨⟨G1K.eqG,G1K.gdG⟩,⟨G2K.eqG,G2K.gdG⟩,trivial⟩).more (T9_ok q)
theorem lPair:ConG Tryz.prog GlobD 8 [.p 12,.p 24] G1K.Pre0 (S15D.oP fun x b y c=>S16V.prA x b y c):=conP prA_ok (fun _ _ _ _ _=>rfl) (fun x hx b y hy c w hG=>by
 cases h:both x b y c
 ·have e:¬(if both x b y c=true then (0:Int) else 140)=0:=by rw[if_neg (by rw[h];decide)];decide
  exact fn_outS (N:=9) (X9_ok [false]) GlobD.keep Tryz.func8 [] (fun s hs=>by cases hs) (G1K.noSS hG) (args:=[.agg [.nums 12 x,.nm (.bl b)],.agg [.nums 24 y,.nm (.bl c)]]) (q:=[]) (v:=(.tup [.agg [.nums 72 (List.replicate 72 0)],.num .i64 (if both x b y c=true then (0:Int) else 140)])) (obs:=[qb false ((if both x b y c=true then (0:Int) else 140)=0)]) 1 (by kernel_rfl) (hp (e) trivial) (okA2 ⟨hx,trivial,trivial⟩ ⟨hy,trivial,trivial⟩) (by rw[pr_off h,if_neg (by rw[h];decide)]) (by simp only[List.map_cons,List.map_nil,G1K.p_den,G2K.p_den,S15D.w_den];try rfl)
 ·have e:(if both x b y c=true then (0:Int) else 140)=0:=if_pos h
  exact fn_outS (N:=9) (X9_ok [true]) GlobD.keep Tryz.func8 [] (fun s hs=>by cases hs) (G1K.noSS hG) (args:=[.agg [.nums 12 x,.nm (.bl b)],.agg [.nums 24 y,.nm (.bl c)]]) (q:=[]) (v:=(.tup [.agg [.nums 72 (fiW (mW O72 (mlW x b y c)))],.num .i64 0])) (obs:=[qb true ((if both x b y c=true then (0:Int) else 140)=0)]) 1 (by kernel_rfl) (hp (e) trivial) (okA2 ⟨hx,trivial,trivial⟩ ⟨hy,trivial,trivial⟩) (by rw[prA,if_pos h,<-fi_one_ml h];rfl) (by simp only[List.map_cons,List.map_nil,G1K.p_den,G2K.p_den,S15D.w_den];try rfl))
end S16O
namespace S16R
open Go Go.RowKit Reg Base Limb Sx Fp Fp2 Fp6 Fp12 Ec Pts Frob SubM S15D S16V Pk S16W
set_option maxHeartbeats 1000000
def sxL:List Int:=[5308195848297902535,368356918586201429,16611565823685306630,16578843054827078431,902017296411783715,312299769607923311]
theorem sixth_c (w:World):Calls Tryz.prog 46 #[] w fun e w'=>e=.returned (.slice (some ⟨w.heap.size,0,none⟩) 6 6)/\Has w' w.heap.size 22 (vals .u64 sxL)/\RowKit.Below w.heap.size w w':=by
 have hb:=(RowKit.Below.refl w.heap.size w).alloc (Nat.le_refl _) (.cells (vals .u64 sxL) 22)
 have hq:Has (w.alloc (.cells (vals .u64 sxL) 22)) w.heap.size 22 (vals .u64 sxL):=Has.new _ _ _
 go_enter Tryz.func46,Tryz.ntmps46
 go_wp2
 go_ret
 exact⟨rfl,hq,hb⟩
def L0:List (Fact Tryz.prog GlobD):=S7.qMul.fact (.con Tryz.func47 rfl (by decide) S7.qMul) ::
 S7.qConj.fact (.con Tryz.func48 rfl (by decide) S7.qConj) ::
 []
def T0:List (FuncId×Ent2):=[(45,entG [.w 12,.sl] G1K.Pre0 (S14R.oWS fun a m=>.agg [.nums 12 (F2 (gp (v2 a) m))]))]
theorem T0_ok:TOk2 Tryz.prog GlobD T0:=⟨.conG Tryz.func45 rfl (by decide) S14R.qPow,trivial⟩
def X0:Cx:=((Cx.of [(24,6),(26,12)] (tb L0)).eqs [(35,12),(37,24)]).more T0
theorem X0_ok:CxOk Tryz.prog X0 GlobD:=((cx_ok (E:=[(24,6),(26,12)]) L0 ⟨⟨G1K.eqF,G1K.gdF⟩,⟨G2K.eqF,G2K.gdF⟩,trivial⟩ (by kernel_rfl)).eqs (EM:=[(35,12),(37,24)]) ⟨⟨G1K.eqG,G1K.gdG⟩,⟨G2K.eqG,G2K.gdG⟩,trivial⟩).more T0_ok
def T3:List (FuncId×Ent3):=[(46,S14R.entL [5308195848297902535,368356918586201429,16611565823685306630,16578843054827078431,902017296411783715,312299769607923311])]
theorem T3_ok:TOk3 Tryz.prog GlobD T3:=⟨S14R.eok_list Tryz.func46 rfl (by decide) ⟨rfl,words_of _ (by decide)⟩ sixth_c,trivial⟩
def X1:Cx:=X0.made T3
theorem X1_ok:CxOk Tryz.prog X1 GlobD:=X0_ok.made T3_ok
def C1:List Int:=[1,0,0,0,0,0,0,0,0,0,0,0]
def XI:List Int:=[1,0,0,0,0,0,1,0,0,0,0,0]
def GW:List Int:=F2 (gp (v2 XI) (Limb.num sxL).toNat)
def fk:Nat->List Int
 |0=>C1
 |k+1=>F2 (gm (v2 (fk k)) (v2 GW))
def pk (k:Nat)(l:List Int):List Int:=F2 (gm (v2 (F2 (gc (v2 l)))) (v2 (fk k)))
def frW (a:List Int):List Int:=pk 0 (seg 0 12 a)++pk 2 (seg 12 12 a)++pk 4 (seg 24 12 a)++pk 1 (seg 36 12 a)++pk 3 (seg 48 12 a)++pk 5 (seg 60 12 a)
theorem six_n:(Limb.num sxL).toNat=tt:=by decide +kernel
theorem gw_e:E2 (v2 GW) gam:=by
 refine (v2_F2 _).trans ?_
 rw[six_n,show v2 XI=(1,1) by decide +kernel]
 exact E2.rfl
theorem fk_e:∀k,E2 (v2 (fk k)) (gp gam k)
 |0=>by
  rw[fk,show v2 C1=(1,0) by decide +kernel]
  exact E2.rfl
 |k+1=>(v2_F2 _).trans (gm_congr (fk_e k) gw_e)
theorem pk_e (k:Nat)(l:List Int):pk k l=F2 (gm (gc (v2 l)) (gp gam k)):=F2_eq (gm_congr (v2_F2 _) (fk_e k))
theorem seg_seg {off n o m:Nat}{l:List Int}(h:off+n<=m):seg off n (seg o m l)=seg (o+off) n l:=by
 rw[seg,seg,seg,List.drop_take,List.take_take,List.drop_drop,Nat.min_eq_left (by omega)]
theorem fr_w (a:List Int):frW a=phW a:=by
 have e:phW a=F12 (fr (v12 a)):=F12_eq (ph_fr _)
 have s1:seg 0 12 (seg 0 36 a)=seg 0 12 a:=seg_seg (by decide)
 have s2:seg 12 12 (seg 0 36 a)=seg 12 12 a:=seg_seg (by decide)
 have s3:seg 24 12 (seg 0 36 a)=seg 24 12 a:=seg_seg (by decide)
 have s4:seg 0 12 (seg 36 36 a)=seg 36 12 a:=seg_seg (by decide)
 have s5:seg 12 12 (seg 36 36 a)=seg 48 12 a:=seg_seg (by decide)
 have s6:seg 24 12 (seg 36 36 a)=seg 60 12 a:=seg_seg (by decide)
 rw[e,frW,pk_e,pk_e,pk_e,pk_e,pk_e,pk_e]
 show _=(F2 (gc (v2 (seg 0 12 (seg 0 36 a))))++F2 (gm (gc (v2 (seg 12 12 (seg 0 36 a)))) (gp gam 2))++F2 (gm (gc (v2 (seg 24 12 (seg 0 36 a)))) (gp gam 4)))++(F2 (gm (gc (v2 (seg 0 12 (seg 36 36 a)))) (gp gam 1))++F2 (gm (gc (v2 (seg 12 12 (seg 36 36 a)))) (gp gam 3))++F2 (gm (gc (v2 (seg 24 12 (seg 36 36 a)))) (gp gam 5)))
 rw[s1,s2,s3,s4,s5,s6,show gp gam 0=(1,0) from rfl,gm_one]
 simp only[List.append_assoc]
theorem qFrob:ConG Tryz.prog GlobD 22 [.w 72] G1K.Pre0 (o72 fun a=>.agg [.nums 72 (phW a)]):=con72 (fun a n=>⟨Fp12.Nm.F12 _,trivial⟩) (fun _ _=>rfl) (fun a ha w hG=>fn_outS (N:=9) X1_ok GlobD.keep Tryz.func22 [] (fun s hs=>by cases hs) (G1K.noSS hG) (args:=[.agg [.nums 72 a]]) (q:=[]) (v:=(.agg [.nums 72 (frW a)])) (obs:=[6<=10000,6<=10000]) 2 (by kernel_rfl) (hp (by decide) (hp (by decide) trivial)) (okA1 ⟨ha,trivial⟩) (by rw[fr_w]) (by simp only[List.map_cons,List.map_nil,G1K.p_den,G2K.p_den,S15D.w_den];try rfl))
theorem qPow12:ConG Tryz.prog GlobD 23 [.w 72,.sl] G1K.Pre0 (oWS fun a m=>.agg [.nums 72 (F12 (Fp12.kp (v12 a) m))]):=conPow S10Q.qPow
def L2:List (Fact Tryz.prog GlobD):=S10.qMul.fact (.con Tryz.func19 rfl (by decide) S10.qMul) ::
 S10.qConj.fact (.con Tryz.func20 rfl (by decide) S10.qConj) ::
 S10.qInv.fact (.con Tryz.func21 rfl (by decide) S10.qInv) ::
 []
def T2:List (FuncId×Ent2):=[(23,entG [.w 72,.sl] G1K.Pre0 (oWS fun a m=>.agg [.nums 72 (F12 (Fp12.kp (v12 a) m))]))]
theorem T2_ok:TOk2 Tryz.prog GlobD T2:=⟨.conG Tryz.func23 rfl (by decide) qPow12,trivial⟩
def X2:Cx:=((Cx.of [(24,6),(26,12)] (tb L2)).eqs [(35,12),(37,24)]).more T2
theorem X2_ok:CxOk Tryz.prog X2 GlobD:=((cx_ok (E:=[(24,6),(26,12)]) L2 ⟨⟨G1K.eqF,G1K.gdF⟩,⟨G2K.eqF,G2K.gdF⟩,trivial⟩ (by kernel_rfl)).eqs (EM:=[(35,12),(37,24)]) ⟨⟨G1K.eqG,G1K.gdG⟩,⟨G2K.eqG,G2K.gdG⟩,trivial⟩).more T2_ok
theorem qLess:ConG Tryz.prog GlobD 24 [.w 72] G1K.Pre0 (o72 fun a=>.agg [.nums 72 (lsW a)]):=con72 (fun a n=>⟨Fp12.Nm.F12 _,trivial⟩) (fun _ _=>rfl) (fun a ha w hG=>fn_outS (N:=9) X2_ok GlobD.keep Tryz.func24 [] (fun s hs=>by cases hs) (G1K.noSS hG) (args:=[.agg [.nums 72 a]]) (q:=[]) (v:=(.agg [.nums 72 (F12 (Fp12.kc (v12 (F12 (Fp12.kp (v12 a) (Limb.num [15132376222941642752]).toNat)))))])) (obs:=[1<=10000]) 1 (by kernel_rfl) (hp (by decide) trivial) (okA1 ⟨ha,trivial⟩) (by rw[ls_raw]) (by simp only[List.map_cons,List.map_nil,G1K.p_den,G2K.p_den,S15D.w_den];try rfl))
def T4:List (FuncId×Ent2):=[(23,entG [.w 72,.sl] G1K.Pre0 (oWS fun a m=>.agg [.nums 72 (F12 (Fp12.kp (v12 a) m))])),(22,entG [.w 72] G1K.Pre0 (o72 fun a=>.agg [.nums 72 (phW a)])),(24,entG [.w 72] G1K.Pre0 (o72 fun a=>.agg [.nums 72 (lsW a)]))]
theorem T4_ok:TOk2 Tryz.prog GlobD T4:=⟨.conG Tryz.func23 rfl (by decide) qPow12,.conG Tryz.func22 rfl (by decide) qFrob,.conG Tryz.func24 rfl (by decide) qLess,trivial⟩
def X4:Cx:=((Cx.of [(24,6),(26,12)] (tb L2)).eqs [(35,12),(37,24)]).more T4
theorem X4_ok:CxOk Tryz.prog X4 GlobD:=((cx_ok (E:=[(24,6),(26,12)]) L2 ⟨⟨G1K.eqF,G1K.gdF⟩,⟨G2K.eqF,G2K.gdF⟩,trivial⟩ (by kernel_rfl)).eqs (EM:=[(35,12),(37,24)]) ⟨⟨G1K.eqG,G1K.gdG⟩,⟨G2K.eqG,G2K.gdG⟩,trivial⟩).more T4_ok
def aR16 (f:List Int):List Int:=F12 (Fp12.kp (v12 (hW16 f)) (Limb.num [10088250816726084267,4137836090706223446]).toNat)
theorem ar_w (f:List Int):aR16 f=aW16 f:=by
 rw[aR16,show (Limb.num [10088250816726084267,4137836090706223446]).toNat=x3 by decide +kernel]
 rfl
theorem qFinal:ConG Tryz.prog GlobD 7 [.w 72] G1K.Pre0 (o72 fun a=>.agg [.nums 72 (fiW a)]):=con72 (fun a n=>⟨Fp12.Nm.F12 _,trivial⟩) (fun _ _=>rfl) (fun a ha w hG=>fn_outS (N:=9) X4_ok GlobD.keep Tryz.func7 [] (fun s hs=>by cases hs) (G1K.noSS hG) (args:=[.agg [.nums 72 a]]) (q:=[]) (v:=(.agg [.nums 72 (mW (cW16 (bW16 (aR16 a))) (hW16 a))])) (obs:=[2<=10000]) 1 (by kernel_rfl) (hp (by decide) trivial) (okA1 ⟨ha,trivial⟩) (by rw[ar_w,fin_w]) (by simp only[List.map_cons,List.map_nil,G1K.p_den,G2K.p_den,S15D.w_den];try rfl))
def T5:List (FuncId×Ent2):=[(7,entG [.w 72] G1K.Pre0 (o72 fun a=>.agg [.nums 72 (fiW a)])),(25,entG [.p 12] G1K.Pre0 (G1K.o1 fun x b=>.bl (inB G1K.K1 (G1K.K1.F.int 4) rN (ptv G1K.K1 x b)))),(26,entG [.p 24] G2K.Pre0 (G2K.o1 fun x b=>.bl (inB G2K.K2 G2K.bb rN (ptv G2K.K2 x b)))),(27,entG [.p 12,.p 24] G1K.Pre0 (S15D.oP fun x b y c=>S15D.lpA x b y c))]
theorem T5_ok:TOk2 Tryz.prog GlobD T5:=⟨.conG Tryz.func7 rfl (by decide) qFinal,.conG Tryz.func25 rfl (by decide) S14R.qIn1,.conG Tryz.func26 rfl (by decide) S14R.qIn2,.conG Tryz.func27 rfl (by decide) S15R.qLoop,trivial⟩
def X5:Cx:=((Cx.of [(24,6),(26,12)] (tb L2)).eqs [(35,12),(37,24)]).more T5
theorem X5_ok:CxOk Tryz.prog X5 GlobD:=((cx_ok (E:=[(24,6),(26,12)]) L2 ⟨⟨G1K.eqF,G1K.gdF⟩,⟨G2K.eqF,G2K.gdF⟩,trivial⟩ (by kernel_rfl)).eqs (EM:=[(35,12),(37,24)]) ⟨⟨G1K.eqG,G1K.gdG⟩,⟨G2K.eqG,G2K.gdG⟩,trivial⟩).more T5_ok
theorem qPair:ConG Tryz.prog GlobD 9 [.p 12,.p 24] G1K.Pre0 (S15D.oP fun x b y c=>S16V.prA x b y c):=conP prA_ok (fun _ _ _ _ _=>rfl) (fun x hx b y hy c w hG=>by
 cases h1:inB G1K.K1 (G1K.K1.F.int 4) rN (ptv G1K.K1 x b)<;>cases h2:inB G2K.K2 G2K.bb rN (ptv G2K.K2 y c)
 ·exact fn_outS (N:=9) X5_ok GlobD.keep Tryz.func9 [] (fun s hs=>by cases hs) (G1K.noSS hG) (args:=[.agg [.nums 12 x,.nm (.bl b)],.agg [.nums 24 y,.nm (.bl c)]]) (q:=[false,false]) (v:=(.tup [.agg [.nums 72 (List.replicate 72 0)],.num .i64 140])) (obs:=[inB G1K.K1 (G1K.K1.F.int 4) rN (ptv G1K.K1 x b)=false,inB G2K.K2 G2K.bb rN (ptv G2K.K2 y c)=false]) 1 (by kernel_rfl) (hp (h1) (hp (h2) trivial)) (okA2 ⟨hx,trivial,trivial⟩ ⟨hy,trivial,trivial⟩) (by rw[pr_off (by rw[both,h1];rfl)]) (by simp only[List.map_cons,List.map_nil,G1K.p_den,G2K.p_den,S15D.w_den];try rfl)
 ·exact fn_outS (N:=9) X5_ok GlobD.keep Tryz.func9 [] (fun s hs=>by cases hs) (G1K.noSS hG) (args:=[.agg [.nums 12 x,.nm (.bl b)],.agg [.nums 24 y,.nm (.bl c)]]) (q:=[false,true]) (v:=(.tup [.agg [.nums 72 (List.replicate 72 0)],.num .i64 140])) (obs:=[inB G1K.K1 (G1K.K1.F.int 4) rN (ptv G1K.K1 x b)=false,inB G2K.K2 G2K.bb rN (ptv G2K.K2 y c)=true]) 1 (by kernel_rfl) (hp (h1) (hp (h2) trivial)) (fun v hv=>by
   simp only[List.mem_cons,List.not_mem_nil,or_false] at hv
   rcases hv with rfl|rfl
   ·exact⟨hx,trivial,trivial⟩
   ·exact⟨hy,trivial,trivial⟩) (by rw[pr_off (by rw[both,h1];rfl)]) (by simp only[List.map_cons,List.map_nil,G1K.p_den,G2K.p_den,S15D.w_den];try rfl)
 ·exact fn_outS (N:=9) X5_ok GlobD.keep Tryz.func9 [] (fun s hs=>by cases hs) (G1K.noSS hG) (args:=[.agg [.nums 12 x,.nm (.bl b)],.agg [.nums 24 y,.nm (.bl c)]]) (q:=[true,false]) (v:=(.tup [.agg [.nums 72 (List.replicate 72 0)],.num .i64 140])) (obs:=[inB G1K.K1 (G1K.K1.F.int 4) rN (ptv G1K.K1 x b)=true,inB G2K.K2 G2K.bb rN (ptv G2K.K2 y c)=false]) 1 (by kernel_rfl) (hp (h1) (hp (h2) trivial)) (okA2 ⟨hx,trivial,trivial⟩ ⟨hy,trivial,trivial⟩) (by rw[pr_off (by rw[both,h1,h2];rfl)]) (by simp only[List.map_cons,List.map_nil,G1K.p_den,G2K.p_den,S15D.w_den];try rfl)
 ·exact fn_outS (N:=9) X5_ok GlobD.keep Tryz.func9 [] (fun s hs=>by cases hs) (G1K.noSS hG) (args:=[.agg [.nums 12 x,.nm (.bl b)],.agg [.nums 24 y,.nm (.bl c)]]) (q:=[true,true]) (v:=(.tup [.agg [.nums 72 (fiW (lpW x b y c))],.num .i64 0])) (obs:=[inB G1K.K1 (G1K.K1.F.int 4) rN (ptv G1K.K1 x b)=true,inB G2K.K2 G2K.bb rN (ptv G2K.K2 y c)=true]) 1 (by kernel_rfl) (hp (h1) (hp (h2) trivial)) (fun v hv=>by
   simp only[List.mem_cons,List.not_mem_nil,or_false] at hv
   rcases hv with rfl|rfl
   ·exact⟨hx,trivial,trivial⟩
   ·exact⟨hy,trivial,trivial⟩) (by rw[pr_on (by rw[both,h1,h2];rfl)]) (by simp only[List.map_cons,List.map_nil,G1K.p_den,G2K.p_den,S15D.w_den];try rfl))
end S16R
namespace S16N
set_option maxRecDepth 100000
open Go Reg Base Ring Ab Ec Fp Fp2 Fp6 Fp12 Frob Pk Pts Limb SubM S14D S15D Sx S16V
section
variable {x y z:List Int} {b c:Bool}
theorem ln_k {s:List Int}{l:Fp2.G}(h:E2 (v2 s) l)(x z:List Int):E12 (v12 (lnW s x z)) (LK l (v2 (seg 0 12 x)) (v2 (seg 12 12 x)) (num (seg 0 6 z)) (num (seg 6 6 z))):=
 (v12_F12 _).trans (lk_c h E2.rfl E2.rfl _ _)
theorem st_k:E12 (v12 (stW x b y c z false)) (stK (num (seg 0 6 z)) (num (seg 6 6 z)) (ptv G2K.K2 x b) (ptv G2K.K2 y c)):=by
 cases b
 ·cases c
  ·rw[ptv_f,ptv_f]
   show E12 _ (if FG.Z (FG.sub (v2 (seg 0 12 x)) (v2 (seg 0 12 y))) then (if FG.Z (FG.sub (v2 (seg 12 12 x)) (v2 (seg 12 12 y)))/\¬FG.Z (v2 (seg 12 12 x)) then LK (slT FG (v2 (seg 0 12 x)) (v2 (seg 12 12 x))) (v2 (seg 0 12 x)) (v2 (seg 12 12 x)) (num (seg 0 6 z)) (num (seg 6 6 z)) else VK (v2 (seg 0 12 x)) (num (seg 0 6 z))) else LK (slC FG (v2 (seg 0 12 x)) (v2 (seg 12 12 x)) (v2 (seg 0 12 y)) (v2 (seg 12 12 y))) (v2 (seg 0 12 x)) (v2 (seg 12 12 x)) (num (seg 0 6 z)) (num (seg 6 6 z)))
   have hs:sl x y=if wr G2K.K2 (seg 0 12 x)=wr G2K.K2 (seg 0 12 y) then (if wr G2K.K2 (seg 12 12 x)=wr G2K.K2 (seg 12 12 y)/\¬wr G2K.K2 (seg 12 12 x)=G2K.c0 then (slTw G2K.K2 G2K.c2 G2K.c3 (wr G2K.K2 (seg 0 12 x)) (wr G2K.K2 (seg 12 12 x)),true) else (List.replicate 12 0,false)) else (slCw G2K.K2 (wr G2K.K2 (seg 0 12 x)) (wr G2K.K2 (seg 12 12 x)) (wr G2K.K2 (seg 0 12 y)) (wr G2K.K2 (seg 12 12 y)),true):=rfl
   by_cases hx:wr G2K.K2 (seg 0 12 x)=wr G2K.K2 (seg 0 12 y)
   ·rw[if_pos hx] at hs
    have hx':FG.Z (FG.sub (v2 (seg 0 12 x)) (v2 (seg 0 12 y))):=G2K.K2.eq_wo hx
    rw[if_pos hx']
    by_cases hy:wr G2K.K2 (seg 12 12 x)=wr G2K.K2 (seg 12 12 y)/\¬wr G2K.K2 (seg 12 12 x)=G2K.c0
    ·rw[if_pos hy] at hs
     have hy':FG.Z (FG.sub (v2 (seg 12 12 x)) (v2 (seg 12 12 y)))/\¬FG.Z (v2 (seg 12 12 x)):=⟨G2K.K2.eq_wo hy.1,fun e=>hy.2 (((wo_z G2K.K2).2 e).trans G2K.h0)⟩
     rw[if_pos hy',st_ln (by rw[hs]),hs]
     refine ln_k ?_ x z
     rw[slT_ok G2K.K2 G2K.h2 G2K.h3]
     exact v2_F2 _
    ·rw[if_neg hy] at hs
     have hy':¬(FG.Z (FG.sub (v2 (seg 12 12 x)) (v2 (seg 12 12 y)))/\¬FG.Z (v2 (seg 12 12 x))):=fun k=>hy ⟨G2K.K2.wo_eq k.1,fun e=>k.2 ((wo_z G2K.K2).1 (e.trans G2K.h0.symm))⟩
     rw[if_neg hy',st_vt (by rw[hs])]
     exact v12_F12 _
   ·rw[if_neg hx] at hs
    have hx':¬FG.Z (FG.sub (v2 (seg 0 12 x)) (v2 (seg 0 12 y))):=fun k=>hx (G2K.K2.wo_eq k)
    rw[if_neg hx',st_ln (by rw[hs]),hs]
    refine ln_k ?_ x z
    rw[slC_ok]
    exact v2_F2 _
  ·rw[st_one rfl,ptv_t,ptv_f,v12_O72]
   exact E12.rfl
 ·rw[st_one (by cases c<;>rfl),ptv_t,v12_O72]
  exact E12.rfl
end
def okb:Nat->List (G×Option G)->Bool
 |_,[]=>true
 |k,(_,o) :: r=>(o.isSome==bt k)&&okb (k+1) r
theorem mu_e {a b:List Int}{p q:K}(h:E12 (v12 a) p)(k:E12 (v12 b) q):E12 (v12 (muW a b)) (mR p q):=(v12_F12 _).trans (mR_eq h.symm k.symm).symm
section
variable {x y:List Int} {u v:G}
theorem pt_sum {T U:Pt G}{l p q p' q':G}(h:okS l p q p' q'=true)(a:OnP FG (4,4) T)(e:OnP FG (4,4) U)(hT:EqP FG T (some (p,q)))(hU:EqP FG U (some (p',q'))):EqP FG (addP FG T U) (some (nx3 l p p',ny3 l p q (nx3 l p p'))):=
 sum_un FG (sum_eq FG hT hU (eqP_refl FG _) (add_sum FG a e)) (sum3 h)
theorem run_ml (q0:OnP FG (4,4) (ptv G2K.K2 y false))(hq:EqP FG (ptv G2K.K2 y false) (some (u,v))){F:K}:∀(d:List (G×Option G)) (k:Nat) {f:K} {p q:G},E12 (v12 (ml x y k).1) f->OnP FG (4,4) (ml x y k).2->EqP FG (ml x y k).2 (some (p,q))->run (num (seg 0 6 x)) (num (seg 6 6 x)) u v d f p q=some F->okb k d=true->E12 (v12 (ml x y (k+d.length)).1) F
 |[],k,f,p,q,h1,_,_,hr,_=>by
  obtain rfl:=Option.some.inj hr
  exact h1
 |(l,o) :: r,k,f,p,q,h1,h2,h3,hr,hb=>by
  simp only[okb,Bool.and_eq_true,beq_iff_eq] at hb
  have aA:OnP FG (4,4) (vo G2K.K2 (ml x y k).2):=onP_eq FG (eqP_symm FG (ptv_out G2K.K2 _)) h2
  have eA:EqP FG (vo G2K.K2 (ml x y k).2) (some (p,q)):=eqP_trans FG (ptv_out G2K.K2 _) h3
  have dbl:okS l p q p q=true->E12 (v12 (muW (sqW (ml x y k).1) (stW (ptW G2K.K2 (ml x y k).2) (ptB (ml x y k).2) (ptW G2K.K2 (ml x y k).2) (ptB (ml x y k).2) x false))) (mR (mR f f) (LK l p q (num (seg 0 6 x)) (num (seg 6 6 x))))/\OnP FG (4,4) (addP FG (vo G2K.K2 (ml x y k).2) (vo G2K.K2 (ml x y k).2))/\EqP FG (addP FG (vo G2K.K2 (ml x y k).2) (vo G2K.K2 (ml x y k).2)) (some (nx3 l p p,ny3 l p q (nx3 l p p))):=fun h=>
   ⟨mu_e (mu_e h1 h1) (E12.trans st_k (stK_ok h aA aA eA eA)),add_on FG aA aA,pt_sum h aA aA eA eA⟩
  rw[List.length_cons,show k+(r.length+1)=k+1+r.length by omega]
  cases o with
  |none=>
   have hb0:bt k=false:=hb.1.symm
   unfold run at hr
   split at hr
   ·rename_i h
    obtain⟨f1,a1,e1⟩:=dbl (by simp only[Bool.and_eq_true] at h;exact h.2)
    refine run_ml q0 hq r (k+1) ?_ ?_ ?_ hr hb.2
    ·rw[ml_f hb0];exact f1
    ·rw[ml_f hb0];exact a1
    ·rw[ml_f hb0];exact e1
   ·cases hr
  |some m=>
   have hb1:bt k=true:=hb.1.symm
   unfold run at hr
   split at hr
   ·rename_i h
    obtain⟨f1,a1,e1⟩:=dbl (by simp only[Bool.and_eq_true] at h;exact h.2)
    split at hr
    ·rename_i j
     have aB:OnP FG (4,4) (vo G2K.K2 (addP FG (vo G2K.K2 (ml x y k).2) (vo G2K.K2 (ml x y k).2))):=onP_eq FG (eqP_symm FG (ptv_out G2K.K2 _)) a1
     have eB:EqP FG (vo G2K.K2 (addP FG (vo G2K.K2 (ml x y k).2) (vo G2K.K2 (ml x y k).2))) (some (nx3 l p p,ny3 l p q (nx3 l p p))):=eqP_trans FG (ptv_out G2K.K2 _) e1
     refine run_ml q0 hq r (k+1) ?_ ?_ ?_ hr hb.2
     ·rw[ml_t hb1];exact mu_e f1 (E12.trans st_k (stK_ok j aB q0 eB hq))
     ·rw[ml_t hb1];exact add_on FG aB q0
     ·rw[ml_t hb1];exact pt_sum j aB q0 eB hq
    ·cases hr
   ·cases hr
end
theorem both_t {x y:List Int}{b c:Bool}(h:inB G1K.K1 (G1K.K1.F.int 4) rN (ptv G1K.K1 x b)=true)(k:inB G2K.K2 G2K.bb rN (ptv G2K.K2 y c)=true):both x b y c=true:=by rw[both,h,k];rfl
theorem prW_on {x y:List Int}{b c:Bool}(h:both x b y c=true):prW x b y c=fiW (lpW x b y c):=if_pos h
abbrev B1:List Int:=S12R.BL
abbrev B2:List Int:=S13R.BL
theorem q0_:ptv G2K.K2 B2 false=some (bx,by_):=b2
theorem in_inf:inB G1K.K1 (G1K.K1.F.int 4) rN (ptv G1K.K1 [0,0,0,0,0,0,0,0,0,0,0,0] true)=true:=by rw[ptv_t];exact in_none G1K.K1
theorem hon {x y:List Int}{b c:Bool}(h:inB G1K.K1 (G1K.K1.F.int 4) rN (ptv G1K.K1 x b)=true)(k:inB G2K.K2 G2K.bb rN (ptv G2K.K2 y c)=true):(onB G1K.K1 (G1K.K1.F.int 4) (ptv G1K.K1 x b)&&onB G2K.K2 G2K.bb (ptv G2K.K2 y c))=true:=by
 rw[(onB_iff G1K.K1).2 ((inB_iff G1K.K1).1 h).1,(onB_iff G2K.K2).2 ((inB_iff G2K.K2).1 k).1]
 rfl
theorem inf_one:prW [0,0,0,0,0,0,0,0,0,0,0,0] true B2 false=O72:=by
 rw[prW_on (both_t in_inf in2),lpW,if_pos (hon in_inf in2),if_pos (show (true||false)=true from rfl)]
 exact fi_o72
theorem base_f:E12 (v12 (lpW B1 false B2 false)) FF:=by
 rw[lpW,if_pos (hon in1 in2),if_neg (by decide)]
 have q0:OnP FG (4,4) (ptv G2K.K2 B2 false):=by rw[q0_];exact on_b
 have e0:EqP FG (ptv G2K.K2 B2 false) (some (bx,by_)):=by rw[q0_];exact eqP_refl FG _
 have h:=run_ml (x:=B1) (y:=B2) q0 e0 dd 0 (f:=k1) (p:=bx) (q:=by_) (F:=F0) (by show E12 (v12 O72) k1;rw[v12_O72];exact E12.rfl) q0 e0 (by rw[show num (seg 0 6 B1)=x0_ by decide +kernel,show num (seg 6 6 B1)=y0_ by decide +kernel];exact run_dd) (by decide +kernel)
 exact (v12_F12 _).trans ((Fp12.kc_congr h).trans kc_F)
theorem base_ne1:¬prW B1 false B2 false=O72:=fun h=>by
 rw[prW_on (both_t in1 in2)] at h
 have e:E12 (v12 (fiW (lpW B1 false B2 false))) (finK (v12 (lpW B1 false B2 false))):=v12_F12 _
 rw[h,v12_O72] at e
 exact fin_ne1 base_f (e.1.1.1.symm.trans (by decide +kernel))
theorem base_ne0:¬prW B1 false B2 false=List.replicate 72 0:=fun h=>by
 rw[prW_on (both_t in1 in2)] at h
 have e:E12 (v12 (fiW (lpW B1 false B2 false))) (finK (v12 (lpW B1 false B2 false))):=v12_F12 _
 rw[h] at e
 exact fin_ne0 base_f (e.1.1.1.symm.trans (by decide +kernel))
theorem off_both:both [0,0,0,0,0,0,0,0,0,0,0,0] false B2 false=false:=by
 rw[both,inB_off G1K.K1 (by decide +kernel),Bool.false_and]
end S16N
namespace S16L
open Go Go.RowKit Reg Base Limb Sx Fp Fp2 Fp6 Fp12 Ec Pts Frob SubM S15D S16V Pk S16W S14D S16N
set_option maxHeartbeats 1000000
def L00:List (Fact Tryz.prog GlobD):=S10.qOne.fact (.con Tryz.func10 rfl (by decide) S10.qOne) ::
 S10.lMul.fact (.con Tryz.func29 rfl (by decide) S10.lMul) ::
 []
def TN:List (FuncId×Ent2):=[]
theorem TN_ok:TOk2 Tryz.prog GlobD TN:=trivial
def XN:Cx:=((Cx.of [(24,6),(26,12),(30,72)] (tb L00)).eqs [(35,12),(37,24)]).more TN
theorem XN_ok:CxOk Tryz.prog XN GlobD:=((cx_ok (E:=[(24,6),(26,12),(30,72)]) L00 ⟨⟨G1K.eqF,G1K.gdF⟩,⟨G2K.eqF,G2K.gdF⟩,⟨eqokk,gdk⟩,trivial⟩ (by kernel_rfl)).eqs (EM:=[(35,12),(37,24)]) ⟨⟨G1K.eqG,G1K.gdG⟩,⟨G2K.eqG,G2K.gdG⟩,trivial⟩).more TN_ok
def L0:List (Fact Tryz.prog GlobD):=L00
def TL0:List (FuncId×Ent2):=[(13,entG [] G1K.Pre0 (S12R.o0 S12R.BP)),(11,entG [] G2K.Pre0 (S13R.o0 S13R.BP)),(6,entG [.w 72] G1K.Pre0 (o72 fun a=>.agg [.nums 72 (fiW a)])),(8,entG [.p 12,.p 24] G1K.Pre0 (S15D.oP fun x b y c=>S16V.prA x b y c))]
theorem TL0_ok:TOk2 Tryz.prog GlobD TL0:=⟨.conG Tryz.func13 rfl (by decide) S12O.lBase,.conG Tryz.func11 rfl (by decide) S13O.lBase,.conG Tryz.func6 rfl (by decide) S16O.lFinal,.conG Tryz.func8 rfl (by decide) S16O.lPair,trivial⟩
def LJ:List (Fact Tryz.prog GlobD):=⟨14,entI 14 XN 9,.inline XN_ok GlobD.keep Tryz.func14 rfl (by decide)⟩ ::
 L0
def TJ:List (FuncId×Ent2):=[(6,entG [.w 72] G1K.Pre0 (o72 fun a=>.agg [.nums 72 (fiW a)])),(28,entG [.p 12,.p 24] G1K.Pre0 (S15D.oP fun x b y c=>S16V.mlA x b y c))]
theorem TJ_ok:TOk2 Tryz.prog GlobD TJ:=⟨.conG Tryz.func6 rfl (by decide) S16O.lFinal,.conG Tryz.func28 rfl (by decide) S16O.lMil,trivial⟩
def XJ:Cx:=((Cx.of [(24,6),(26,12),(30,72)] (tb LJ)).eqs [(35,12),(37,24)]).more TJ
theorem XJ_ok:CxOk Tryz.prog XJ GlobD:=((cx_ok (E:=[(24,6),(26,12),(30,72)]) LJ ⟨⟨G1K.eqF,G1K.gdF⟩,⟨G2K.eqF,G2K.gdF⟩,⟨eqokk,gdk⟩,trivial⟩ (by kernel_rfl)).eqs (EM:=[(35,12),(37,24)]) ⟨⟨G1K.eqG,G1K.gdG⟩,⟨G2K.eqG,G2K.gdG⟩,trivial⟩).more TJ_ok
noncomputable def TP (q:List Bool):List (FuncId×Ent2):=(12,entQ Tryz.prog 12 XJ 9 q) :: TL0
theorem TP_ok (q:List Bool):TOk2 Tryz.prog GlobD (TP q):=⟨.inlineQ XJ_ok GlobD.keep Tryz.func12 rfl (by decide),TL0_ok⟩
noncomputable def XL (q:List Bool):Cx:=((Cx.of [(24,6),(26,12),(30,72)] (tb L0)).eqs [(35,12),(37,24)]).more (TP q)
theorem XL_ok (q:List Bool):CxOk Tryz.prog (XL q) GlobD:=((cx_ok (E:=[(24,6),(26,12),(30,72)]) L0 ⟨⟨G1K.eqF,G1K.gdF⟩,⟨G2K.eqF,G2K.gdF⟩,⟨eqokk,gdk⟩,trivial⟩ (by kernel_rfl)).eqs (EM:=[(35,12),(37,24)]) ⟨⟨G1K.eqG,G1K.gdG⟩,⟨G2K.eqG,G2K.gdG⟩,trivial⟩).more (TP_ok q)
theorem awake:ConG Tryz.prog GlobD 5 [] G1K.Pre0 (S12R.o0 (.val (.bool true))):=S12R.con0 (fun n=>trivial) (fun gs=>rfl) (fun w hG=>fn_outS (N:=9) (XL_ok []) GlobD.keep Tryz.func5 [] (fun s hs=>by cases hs) (G1K.noSS hG) (args:=[]) (q:=[true,true,true,true,false,false,true]) (v:=(.bl true)) (obs:=[qb true (prW [0,0,0,0,0,0,0,0,0,0,0,0] true S13R.BL false=O72),qb true ((if both [0,0,0,0,0,0,0,0,0,0,0,0] true S13R.BL false=true then (0:Int) else 140)=0),qb true (fiW O72=O72),qb true ((if both [0,0,0,0,0,0,0,0,0,0,0,0] false S13R.BL false=true then (0:Int) else 140)=140),qb false (prW S12R.BL false S13R.BL false=O72),qb false (prW S12R.BL false S13R.BL false=List.replicate 72 0),qb true ((if both S12R.BL false S13R.BL false=true then (0:Int) else 140)=0)]) 1 (by kernel_rfl) (hp (inf_one) (hp (if_pos (both_t in_inf in2)) (hp (fi_o72) (hp (if_neg (by rw[off_both];decide)) (hp (base_ne1) (hp (base_ne0) (hp (if_pos (both_t in1 in2)) trivial))))))) (fun v hv=>by cases hv) rfl rfl)
def TF:List (FuncId×Ent2):=[(5,entG [] G1K.Pre0 (S12R.o0 (.val (.bool true)))),(6,entG [.w 72] G1K.Pre0 (o72 fun a=>.agg [.nums 72 (fiW a)])),(7,entG [.w 72] G1K.Pre0 (o72 fun a=>.agg [.nums 72 (fiW a)]))]
theorem TF_ok:TOk2 Tryz.prog GlobD TF:=⟨.conG Tryz.func5 rfl (by decide) awake,.conG Tryz.func6 rfl (by decide) S16O.lFinal,.conG Tryz.func7 rfl (by decide) S16R.qFinal,trivial⟩
def XF:Cx:=((Cx.of [(24,6),(26,12),(30,72)] (tb L0)).eqs [(35,12),(37,24)]).more TF
theorem XF_ok:CxOk Tryz.prog XF GlobD:=((cx_ok (E:=[(24,6),(26,12),(30,72)]) L0 ⟨⟨G1K.eqF,G1K.gdF⟩,⟨G2K.eqF,G2K.gdF⟩,⟨eqokk,gdk⟩,trivial⟩ (by kernel_rfl)).eqs (EM:=[(35,12),(37,24)]) ⟨⟨G1K.eqG,G1K.gdG⟩,⟨G2K.eqG,G2K.gdG⟩,trivial⟩).more TF_ok
theorem finals (f:List Int)(hf:Nm 72 f)(w:World)(hG:GlobD w):Calls Tryz.prog 3 #[.agg (vals .u64 f)] w fun e w'=>e=.returned (.bool true)/\RowKit.Below w.heap.size w w':=by
 exact fn_outS (N:=9) XF_ok GlobD.keep Tryz.func3 [] (fun s hs=>by cases hs) (G1K.noSS hG) (args:=[.agg [.nums 72 f]]) (q:=[true]) (v:=(.bl true)) (obs:=[qb true (fiW f=fiW f)]) 1 (by kernel_rfl) (hp (rfl) trivial) (okA1 ⟨hf,trivial⟩) rfl (by simp only[List.map_cons,List.map_nil,G1K.p_den,G2K.p_den,S15D.w_den];try rfl)
def TQ:List (FuncId×Ent2):=[(5,entG [] G1K.Pre0 (S12R.o0 (.val (.bool true)))),(8,entG [.p 12,.p 24] G1K.Pre0 (S15D.oP fun x b y c=>S16V.prA x b y c)),(9,entG [.p 12,.p 24] G1K.Pre0 (S15D.oP fun x b y c=>S16V.prA x b y c))]
theorem TQ_ok:TOk2 Tryz.prog GlobD TQ:=⟨.conG Tryz.func5 rfl (by decide) awake,.conG Tryz.func8 rfl (by decide) S16O.lPair,.conG Tryz.func9 rfl (by decide) S16R.qPair,trivial⟩
def XQ:Cx:=((Cx.of [(24,6),(26,12),(30,72)] (tb L0)).eqs [(35,12),(37,24)]).more TQ
theorem XQ_ok:CxOk Tryz.prog XQ GlobD:=((cx_ok (E:=[(24,6),(26,12),(30,72)]) L0 ⟨⟨G1K.eqF,G1K.gdF⟩,⟨G2K.eqF,G2K.gdF⟩,⟨eqokk,gdk⟩,trivial⟩ (by kernel_rfl)).eqs (EM:=[(35,12),(37,24)]) ⟨⟨G1K.eqG,G1K.gdG⟩,⟨G2K.eqG,G2K.gdG⟩,trivial⟩).more TQ_ok
theorem pairs (x:List Int)(hx:Nm 12 x)(b:Bool)(y:List Int)(hy:Nm 24 y)(c:Bool)(w:World)(hG:GlobD w):Calls Tryz.prog 4 #[.agg (vals .u64 x ++ #[.bool b]),.agg (vals .u64 y ++ #[.bool c])] w fun e w'=>e=.returned (.bool true)/\RowKit.Below w.heap.size w w':=by
 exact fn_outS (N:=9) XQ_ok GlobD.keep Tryz.func4 [] (fun s hs=>by cases hs) (G1K.noSS hG) (args:=[.agg [.nums 12 x,.nm (.bl b)],.agg [.nums 24 y,.nm (.bl c)]]) (q:=[true,true]) (v:=(.bl true)) (obs:=[qb true (prW x b y c=prW x b y c),qb true ((if both x b y c=true then (0:Int) else 140)=(if both x b y c=true then (0:Int) else 140))]) 1 (by kernel_rfl) (hp (rfl) (hp (rfl) trivial)) (okA2 ⟨hx,trivial,trivial⟩ ⟨hy,trivial,trivial⟩) rfl (by simp only[List.map_cons,List.map_nil,G1K.p_den,G2K.p_den,S15D.w_den];try rfl)
end S16L
end Go.Proofs.YtjamcbjghffboaaGreatDoor
