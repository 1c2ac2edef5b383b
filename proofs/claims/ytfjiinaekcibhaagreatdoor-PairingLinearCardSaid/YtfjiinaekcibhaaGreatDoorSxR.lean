/-
  Own text.
-/
import Derived.Test.YtfjiinaekcibhaaGreatDoorMSy
import Derived.Test.YtfjiinaekcibhaaGreatDoorMFw1
import Derived.Test.YtfjiinaekcibhaaGreatDoorLimbMulX
import Derived.Test.YtfjiinaekcibhaaGreatDoorLimbOwnA
import Derived.Test.YtfjiinaekcibhaaGreatDoorMFw5
import Derived.Test.YtfjiinaekcibhaaGreatDoorMReg
set_option linter.unusedVariables false
set_option linter.unusedSimpArgs false
namespace Go.Proofs.YtfjiinaekcibhaaGreatDoor
namespace SxR
open Go Go.RowKit Reg Base Limb Sx Fp Fp2
def entMul:Ent3:=fun b0 bl args=>match args with
 |[.slc k 0 1 _,.slc j 0 1 _]=>match bl k,bl j with
  |some (_,r),some (_,s)=>match mg r,mg s with
   |some (1,x),some (1,y)=>some (.slc b0 0 2 2,(26,[.nums 2 (wd 2 (num x*num y))]),[])
   |_,_=>none
  |_,_=>none
 |_=>none
theorem eMul:EOk3 Tryz.prog GlobD 20 entMul:=by
 refine⟨enter_of Tryz.func20 rfl (by decide),fun bl args v t r ps gs he hH ho w hG hB=>?_⟩
 unfold entMul at he
 split at he
 ·rename_i k c j d
  split at he
  ·rename_i tk r' tj s' h1 h2
   split at he
   ·rename_i x y h3 h4
    injection he with he
    injection he with e1 e2
    injection e2 with e2 e3
    injection e2 with e2 e4
    subst e1 e2 e4
    obtain⟨hx,hr⟩:=hB k tk r' h1
    obtain⟨hy,hs⟩:=hB j tj s' h2
    obtain⟨n1,d1⟩:=mg_ok hr h3
    obtain⟨n2,d2⟩:=mg_ok hs h4
    rw[d1] at hx
    rw[d2] at hy
    refine⟨⟨⟨wd_len _ _,wd_words _ _⟩,trivial⟩,Nat.lt_succ_self _,?_⟩
    have hrx:Rd w w.heap.size (some ⟨gs.getD k 0,0,none⟩) 1 .u64 x:=Rd.of_has hx hx.lt (by rw[List.drop_zero,List.take_of_length_le (by rw[n1.len];exact Nat.le_refl _)]) (by rw[n1.len];omega)
    have hry:Rd w w.heap.size (some ⟨gs.getD j 0,0,none⟩) 1 .u64 y:=Rd.of_has hy hy.lt (by rw[List.drop_zero,List.take_of_length_le (by rw[n2.len];exact Nat.le_refl _)]) (by rw[n2.len];omega)
    have h:=mul_x _ 1 c x _ 1 d y w.heap.size w hrx n1.words hry n2.words (Nat.le_refl _) (by omega) (by omega)
    refine h.mono fun e w' ⟨e1,e2,e3⟩=>⟨w.heap.size,Nat.le_refl _,?_,?_,e3⟩
    ·have:(den [.nums 2 (wd 2 (num x*num y))]).toArray=vals .u64 (wd 2 (num x*num y)):=by simp[den,Sg.den,vals]
     rw[this]
     exact e2
    ·rw[e1,AV.den,getD_new]
   ·cases he
  ·cases he
 ·cases he
def rsN:Nat→Code→Code
 |0,c=>c
 |n+1,.seq _ b=>rsN n b
 |_,c=>c
def bodyOf (fn:Func):Code:=match fn.body with
 |some c=>c
 |none=>.skip
theorem mkSl_len:∀(l:List (Nat×AV)) (s:List AV),(l.foldl (fun s p=>s.set p.1 p.2) s).length=s.length
 |[],s=>rfl
 |p :: l,s=>by rw[List.foldl_cons,mkSl_len l,List.length_set]
theorem mkSl_fold {gs:List Nat}{a:Act}:∀(l:List (Nat×AV)) (s:List AV),(∀p∈l,a.tmps[p.1]? = some (p.2.den gs))→(∀(i:Nat) (v:AV),s[i]? = some v→v≠.unk→a.tmps[i]? = some (v.den gs))→∀(i:Nat) (v:AV),(l.foldl (fun s p=>s.set p.1 p.2) s)[i]? = some v→v≠.unk→a.tmps[i]? = some (v.den gs)
 |[],s,_,h=>h
 |p :: l,s,hl,h=>by
  rw[List.foldl_cons]
  refine mkSl_fold l _ (fun q hq=>hl q (List.mem_cons_of_mem _ hq)) (fun i v hi hu=>?_)
  rw[List.getElem?_set] at hi
  split at hi
  ·rename_i he
   subst he
   split at hi
   ·obtain rfl:=Option.some.inj hi
    exact hl p (by simp)
   ·cases hi
  ·exact h i v hi hu
theorem mkSl_ok {gs:List Nat}{a:Act}{n:Nat}{l:List (Nat×AV)}(hn:a.tmps.size=n)(hl:∀p∈l,a.tmps[p.1]? = some (p.2.den gs)):Sl gs (mkSl n l) a:=
 ⟨by rw[mkSl,mkSl_len,List.length_replicate,hn],mkSl_fold l _ hl (fun i v hi hu=>by
  obtain⟨_,rfl⟩:=List.mem_replicate.1 (List.mem_of_getElem? hi)
  exact absurd rfl hu)⟩
theorem mkSl_sok {n m:Nat}{l:List (Nat×AV)}(hl:∀p∈l,p.2.Ok m):SOk m (mkSl n l):=by
 have:∀(l:List (Nat×AV)) (s:List AV),(∀p∈l,p.2.Ok m)→SOk m s→SOk m (l.foldl (fun s p=>s.set p.1 p.2) s):=by
  intro l
  induction l with
  |nil=>intro s _ h;exact h
  |cons p l ih=>
   intro s hl h
   refine ih _ (fun q hq=>hl q (List.mem_cons_of_mem _ hq)) (fun v hv=>?_)
   rcases List.mem_or_eq_of_mem_set hv with hv|rfl
   ·exact h v hv
   ·exact hl p (by simp)
 exact this l _ hl (fun v hv=>by obtain⟨_,rfl⟩:=List.mem_replicate.1 hv;trivial)
def evalR (P:Program)(C:Cx)(m N:Nat)(R:Code)(rs:List ResultVar)(sl:List AV)(bs:List Bk)(q:List Bool):Option (List AV×List Ob):=match evalC P C m N R sl bs q with
 |some (l,obs)=>match resL P rs l with
  |some vs=>some (vs,obs)
  |none=>none
 |none=>none
theorem wd_of {x:World}{gs:List Nat}{bs:List Bk}(hl:gs.length=bs.length)(h:∀k t r,bs[k]? = some (t,r)→Has x (gs.getD k 0) t (den r).toArray∧Ok r):Wd x.heap.size x gs.length gs bs x:=
 ⟨RowKit.Below.refl _ _,Nat.le_refl _,hl,fun k t r hk=>⟨by rw[denB_ok (h k t r hk).2];exact (h k t r hk).1,okB_ok (h k t r hk).2⟩,fun k h1 h2=>absurd h1 (by omega),fun j k h1 h2 h3 _=>absurd h3 (by omega)⟩
end SxR
end Go.Proofs.YtfjiinaekcibhaaGreatDoor
