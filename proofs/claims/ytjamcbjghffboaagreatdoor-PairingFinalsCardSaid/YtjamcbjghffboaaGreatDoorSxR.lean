/-
  Own text.
-/
import Derived.Test.YtjamcbjghffboaaGreatDoorMSy
import Derived.Test.YtjamcbjghffboaaGreatDoorMFw1
import Derived.Test.YtjamcbjghffboaaGreatDoorLimbMulX
import Derived.Test.YtjamcbjghffboaaGreatDoorLimbOwnA
import Derived.Test.YtjamcbjghffboaaGreatDoorMFw5
import Derived.Test.YtjamcbjghffboaaGreatDoorMReg
set_option linter.unusedVariables false
set_option linter.unusedSimpArgs false
namespace Go.Proofs.YtjamcbjghffboaaGreatDoor
namespace SxR
open Go Go.RowKit Reg Base Limb Sx Fp Fp2
def rsN:Nat->Code->Code
 |0,c=>c
 |n+1,.seq _ b=>rsN n b
 |_,c=>c
def bodyOf (fn:Func):Code:=match fn.body with
 |some c=>c
 |none=>.skip
theorem mkSl_len:∀(l:List (Nat×AV)) (s:List AV),(l.foldl (fun s p=>s.set p.1 p.2) s).length=s.length
 |[],s=>rfl
 |p :: l,s=>by rw[List.foldl_cons,mkSl_len l,List.length_set]
theorem mkSl_fold {gs:List Nat}{a:Act}:∀(l:List (Nat×AV)) (s:List AV),(∀p∈l,a.tmps[p.1]? = some (p.2.den gs))->(∀(i:Nat) (v:AV),s[i]? = some v->v≠.unk->a.tmps[i]? = some (v.den gs))->∀(i:Nat) (v:AV),(l.foldl (fun s p=>s.set p.1 p.2) s)[i]? = some v->v≠.unk->a.tmps[i]? = some (v.den gs)
 |[],s,_,h=>h
 |p :: l,s,hl,h=>by
  rw[List.foldl_cons]
  refine mkSl_fold l _ (fun q hq=>hl q (List.mem_cons_of_mem _ hq)) (fun i v hi hu=>?_)
  rw[List.getElem?_set] at hi
  split at hi
  ·rename_i he
   subst he
   split at hi
   ·obtain rfl:=Option.some.inj hi
    exact hl p (by simp)
   ·cases hi
  ·exact h i v hi hu
theorem mkSl_ok {gs:List Nat}{a:Act}{n:Nat}{l:List (Nat×AV)}(hn:a.tmps.size=n)(hl:∀p∈l,a.tmps[p.1]? = some (p.2.den gs)):Sl gs (mkSl n l) a:=
 ⟨by rw[mkSl,mkSl_len,List.length_replicate,hn],mkSl_fold l _ hl (fun i v hi hu=>by
  obtain⟨_,rfl⟩:=List.mem_replicate.1 (List.mem_of_getElem? hi)
  exact absurd rfl hu)⟩
theorem mkSl_sok {n m:Nat}{l:List (Nat×AV)}(hl:∀p∈l,p.2.Ok m):SOk m (mkSl n l):=by
 have:∀(l:List (Nat×AV)) (s:List AV),(∀p∈l,p.2.Ok m)->SOk m s->SOk m (l.foldl (fun s p=>s.set p.1 p.2) s):=by
  intro l
  induction l with
  |nil=>intro s _ h;exact h
  |cons p l ih=>
   intro s hl h
   refine ih _ (fun q hq=>hl q (List.mem_cons_of_mem _ hq)) (fun v hv=>?_)
   rcases List.mem_or_eq_of_mem_set hv with hv|rfl
   ·exact h v hv
   ·exact hl p (by simp)
 exact this l _ hl (fun v hv=>by obtain⟨_,rfl⟩:=List.mem_replicate.1 hv;trivial)
def evalR (P:Program)(C:Cx)(m N:Nat)(R:Code)(rs:List ResultVar)(sl:List AV)(bs:List Bk)(q:List Bool):Option (List AV×List Ob):=match evalC P C m N R sl bs q with
 |some (l,obs)=>match resL P rs l with
  |some vs=>some (vs,obs)
  |none=>none
 |none=>none
theorem tail_ok {P:Program}{C:Cx}{G:World->Prop}{m N:Nat}{fn:Func}{R:Code}{sl:List AV}{bs:List Bk}{q:List Bool}{gs:List Nat}{a:Act}{x:World}{obs:List Ob}{vs:List AV}{Q:Ending->World->Prop}(hC:CxB P C G)(hH0:C.H=[])(hG:∀u,RowKit.Below x.heap.size x u->G u)
  (he:evalR P C m N R fn.results.toList sl bs q=some (vs,obs)) (hH:Holds obs) (h:Sl gs sl a) (ho:SOk gs.length sl) (hm:m<=gs.length) (H:Wd x.heap.size x m gs bs x) (hd:a.defers=[])
  (hQ:∀v∈vs,∀x',RowKit.Below x.heap.size x x'->∀gs':List Nat,Q (.returned (v.den gs')) x'):R.wp P (bodyPost P fn Q) a x:=by
 unfold evalR at he
 split at he
 ·rename_i l ob h1
  split at he
  ·rename_i vs' hr
   injection he with he
   injection he with e1 e2
   subst e1 e2
   refine (code_ok (S:=x.heap.size) (w:=x) hC hG R (fun id c' f hc=>by rw[hH0,hooked_nil] at hc;cases hc)).go (fun c a d v w h=>?_) h1 h ho hm H hH (fun sl2 bs2 q2 e hx gs' a' x' p1 p2 p3 p4 p5=>?_)
   ·simp only[bodyPost] at h ⊢
    refine⟨?_,h.2⟩
    have:=h.1
    cases d<;>exact this
   ·obtain⟨hx1,v',hv',hra⟩:=resL_ok hr sl2 bs2 q2 e hx
    obtain⟨r1,r2,r3⟩:=resA_ok p1 p2 p5 hra
    cases e with
    |nrm=>exact⟨p4.defers.trans hd,_,r3,hQ v' hv' x' p5.bel gs'⟩
    |ret=>exact⟨p4.defers.trans hd,_,r3,hQ v' hv' x' p5.bel gs'⟩
    |ext i=>exact (hx1 i rfl).elim
  ·cases he
 ·cases he
theorem wd_of {x:World}{gs:List Nat}{bs:List Bk}(hl:gs.length=bs.length)(h:∀k t r,bs[k]? = some (t,r)->Has x (gs.getD k 0) t (den r).toArray/\Ok r):Wd x.heap.size x gs.length gs bs x:=
 ⟨RowKit.Below.refl _ _,Nat.le_refl _,hl,fun k t r hk=>⟨by rw[denB_ok (h k t r hk).2];exact (h k t r hk).1,okB_ok (h k t r hk).2⟩,fun k h1 h2=>absurd h1 (by omega),fun j k h1 h2 h3 _=>absurd h3 (by omega)⟩
end SxR
end Go.Proofs.YtjamcbjghffboaaGreatDoor
