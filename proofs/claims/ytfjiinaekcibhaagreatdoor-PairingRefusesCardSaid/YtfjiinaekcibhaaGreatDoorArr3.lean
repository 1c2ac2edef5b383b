/-
  Own text.
-/
import Derived.Test.YtfjiinaekcibhaaGreatDoorMLay
import Derived.Test.YtfjiinaekcibhaaGreatDoorMSy
import Derived.ChangeArms
import Derived.DataReads
import Derived.ChangeSlices
import Derived.DataElems
import Derived.OpenShut
namespace Go.Proofs.YtfjiinaekcibhaaGreatDoor
namespace Reg
open Go Go.RowKit Base
section
variable {H:Type} {enc:TypeId×Value→H} {P:Program} {w:World} {base base2:Nat} {spare:Nat→Bool} {held:Bool} {r:Reach} {k:IntKind}
def FlatB (enc:TypeId×Value→H)(P:Program)(w:World)(base:Nat)(spare:Nat→Bool)(held:Bool)(k:IntKind)(t:TypeId)(n:Nat):Prop:=
 ∀(fuel:Nat) (cs:List Value) (x:DataW H×List MemPlace),DataW.trod enc P w base spare held fuel t cs=some x→∃(zs:List Int) (b:Bool),cs=zs.map (Value.int k)++[.bool b]∧zs.length=n∧∀z∈zs,(Lit.int k z).wf=true
theorem flatb_two {t e bt:TypeId}{n:Nat}(he:Flat enc P w base spare held k e n)(hb:P.underlying bt=some .bool)(ht:P.underlying t=some (.struct (P.fieldsOf t)))(hce:P.cellsOf e=n)(hcb:P.cellsOf bt=1)(hct:P.cellsOf t=n+n+1)
  (hf:(P.fieldsOf t).toList.map (fun f=>(f.type,f.offset))=[(e,0),(e,n),(bt,n+n)]):FlatB enc P w base spare held k t (n+n):=fun fuel cs x h=>by
 obtain ⟨xs,j,_,_,hl,hlen,hx⟩:=DataW.trod_struct ht h
 have hsz:(P.fieldsOf t).size=3:=by
  have:=congrArg List.length hf
  simpa using this
 have get:∀i (hi:i<3) (q:TypeId×Nat),([(e,0),(e,n),(bt,n+n)]:List (TypeId×Nat))[i]? = some q→DataW.trod enc P w base spare held j q.1 ((cs.drop q.2).take (P.cellsOf q.1))=some (xs[i]'(by omega)):=fun i hi q hq=>by
  obtain ⟨f,hfi⟩:∃f,(P.fieldsOf t)[i]? = some f:=⟨_,Array.getElem?_eq_getElem (by omega)⟩
  have h1:=hx i f hfi
  have h3:((P.fieldsOf t).toList.map (fun f=>(f.type,f.offset)))[i]? = some (f.type,f.offset):=by
   rw [List.getElem?_map,Array.getElem?_toList,hfi]
   rfl
  rw [hf,hq] at h3
  obtain rfl:=Option.some.inj h3
  rw [h1,List.getElem?_eq_getElem (by omega)]
 have h0:=get 0 (by decide) (e,0) rfl
 have h1:=get 1 (by decide) (e,n) rfl
 have h2:=get 2 (by decide) (bt,n+n) rfl
 obtain ⟨z0,e0,l0,w0⟩:=he _ _ _ h0
 obtain ⟨z1,e1,l1,w1⟩:=he _ _ _ h1
 obtain ⟨b,e2,_⟩:=DataW.trod_bool hb h2
 simp only [hce,hcb,List.drop_zero] at e0 e1 e2
 refine ⟨z0++z1,b,?_,by rw [List.length_append,l0,l1],fun z hz=>?_⟩
 ·have hl2:cs.length=n+n+1:=hl.trans hct
  have a1:cs=cs.take n++((cs.drop n).take n++(cs.drop (n+n)).take 1):=by
   have a2:(cs.drop (n+n)).take 1=cs.drop (n+n):=List.take_of_length_le (by rw [List.length_drop,hl2];omega)
   have a3:(cs.drop n).take n++cs.drop (n+n)=cs.drop n:=by
    rw [show n+n=n+n from rfl,←List.drop_drop,List.take_append_drop]
   rw [a2,a3,List.take_append_drop]
  rw [a1,e0,e1,e2,List.map_append,List.append_assoc]
 ·rcases List.mem_append.1 hz with hz|hz
  ·exact w0 z hz
  ·exact w1 z hz
theorem open_flatb {t:TypeId}{n:Nat}{v:Value}{d:DataW H}{p:List MemPlace}{fs:Array Field}(hf:FlatB enc P w base spare held k t n)(ht:P.underlying t=some (.struct fs))
  (hv:Value.okWide P w r base2 t v) (h:DataW.Trod enc P w base spare held t v d p):∃(zs:List Int) (b:Bool),v=.agg (vals k zs ++ #[.bool b])∧zs.length=n∧∀z∈zs,(Lit.int k z).wf=true:=by
 have hagg:∃cs,v=.agg cs:=by
  simp only [Value.okWide,ht] at hv
  obtain ⟨cs,h1,_⟩:=hv
  exact ⟨cs,h1⟩
 obtain ⟨cs,rfl⟩:=hagg
 obtain ⟨fuel,hfu⟩:=h
 obtain ⟨zs,b,e,hl,hw⟩:=hf _ _ _ hfu
 refine ⟨zs,b,?_,hl,hw⟩
 congr 1
 apply Array.ext'
 rw [show cs.toList=zs.map (Value.int k)++[.bool b] from e]
 simp [vals]
theorem open_elems {t e:TypeId}{fuel:Nat}{A:Option Addr}{len cap:Nat}{x:DataW H×List MemPlace}(ht:P.underlying t=some (.slice e))(h:DataW.trod enc P w base spare held fuel t [.slice A len cap]=some x) :
  ∃css:List (List Value),css.length=len∧len≤cap∧cap≤maxLen∧(∀cs∈css,cs.length=P.cellsOf e∧∃fuel' y,DataW.trod enc P w base spare held fuel' e cs=some y) ∧
   (css.flatten=[]∨∃b o,A=some ⟨b,o,none⟩∧∀j v,css.flatten[j]? = some v→w.cell? ⟨b,o+j,none⟩=some v∧b<w.heap.size):=by
 rcases DataW.trod_slice ht h with ⟨h0,_⟩|⟨a,len',cap',elems,rest,n,_,h0,_,hb,hl,hm,hlen,hel,_,_⟩
 ·simp at h0
  obtain ⟨rfl,rfl,rfl⟩:=h0
  exact ⟨[],rfl,Nat.le_refl _,Nat.zero_le _,fun cs h=>(by cases h),Or.inl rfl⟩
 ·simp at h0
  obtain ⟨rfl,rfl,rfl⟩:=h0
  have each:∀i,i<len→∃cs,w.cells? base (a.add (i*P.cellsOf e)) (P.cellsOf e)=some cs∧∃y,DataW.trod enc P w base spare held n e cs=some y:=fun i hi=>by
   have h1:=hel i hi
   rw [List.getElem?_eq_getElem (by omega)] at h1
   exact (Option.bind_eq_some_iff.1 h1).imp fun cs ⟨h2,h3⟩=>⟨h2,_,h3⟩
  have hz:∀i:Fin len,∃cs,w.cells? base (a.add (i.1*P.cellsOf e)) (P.cellsOf e)=some cs∧∃y,DataW.trod enc P w base spare held n e cs=some y:=fun i=>each i.1 i.2
  let f:Fin len→List Value:=fun i=>(hz i).choose
  have hf:∀i:Fin len,w.cells? base (a.add (i.1*P.cellsOf e)) (P.cellsOf e)=some (f i)∧∃y,DataW.trod enc P w base spare held n e (f i)=some y:=fun i=>(hz i).choose_spec
  have hlen1:∀i:Fin len,(f i).length=P.cellsOf e:=fun i=>(World.cells?_some (hf i).1).2.1
  have flat_len:∀l:List (Fin len),((l.map f).flatten).length=l.length*P.cellsOf e:=by
   intro l
   induction l with
   |nil=>simp
   |cons i l ih=>rw [List.map_cons,List.flatten_cons,List.length_append,ih,hlen1,List.length_cons,Nat.succ_mul,Nat.add_comm]
  have cellf:∀(m:Nat) (hm:m≤len) (j:Nat) (v:Value),(((List.finRange len).drop (len-m)).map f).flatten[j]? = some v→w.cell? (a.add ((len-m)*P.cellsOf e+j))=some v:=by
   intro m
   induction m with
   |zero=>intro hm j v hv;rw [Nat.sub_zero,List.drop_eq_nil_of_le (by simp)] at hv;simp at hv
   |succ m ih=>
    intro hm j v hv
    have hi:len-(m+1)<len:=by omega
    have hd:(List.finRange len).drop (len-(m+1))=⟨len-(m+1),hi⟩ :: (List.finRange len).drop (len-m):=by
     rw [List.drop_eq_getElem_cons (by simp;omega)]
     congr 1
     ·simp
     ·congr 1
      omega
    rw [hd,List.map_cons,List.flatten_cons] at hv
    have hc:=World.cells?_some (hf ⟨len-(m+1),hi⟩).1
    rcases Nat.lt_or_ge j (P.cellsOf e) with hj|hj
    ·rw [List.getElem?_append_left (by rw [hlen1];exact hj)] at hv
     have h2:=hc.2.2 j hj
     rw [hv] at h2
     rw [←h2,Addr.add_add]
    ·rw [List.getElem?_append_right (by rw [hlen1];exact hj),hlen1] at hv
     have h3:=ih (by omega) (j-P.cellsOf e) v hv
     rw [←h3]
     congr 2
     rw [show len-m=len-(m+1)+1 by omega,Nat.succ_mul]
     omega
  refine ⟨(List.finRange len).map f,by simp,hl,hm,fun cs hcs=>?_,?_⟩
  ·obtain ⟨i,_,rfl⟩:=List.mem_map.1 hcs
   exact ⟨hlen1 i,n,(hf i).2⟩
  ·have key:∀j v,((List.finRange len).map f).flatten[j]? = some v→w.cell? (a.add j)=some v:=fun j v hv=>by
    have:=cellf len (Nat.le_refl _) j v (by rw [Nat.sub_self,List.drop_zero];exact hv)
    rwa [Nat.sub_self,Nat.zero_mul,Nat.zero_add] at this
   cases hfl:((List.finRange len).map f).flatten with
   |nil=>exact .inl rfl
   |cons v0 rest0=>
    refine .inr ?_
    rw [hfl] at key
    have hk0:=key 0 v0 rfl
    obtain ⟨b,o,m⟩:=a
    have hm:m=none:=by simpa [Addr.add] using World.cell?_spot hk0
    subst hm
    exact ⟨b,o,rfl,fun j v hv=>by
     have:=key j v hv
     rw [Go.WideShapes.add_plain] at this
     exact ⟨this,Sx.cell_lt this⟩⟩
end
end Reg
end Go.Proofs.YtfjiinaekcibhaaGreatDoor
