/-
  Own text.
-/
import Derived.Test.YtjamcbjghffboaaGreatDoorMLay
import Derived.Test.YtjamcbjghffboaaGreatDoorMSy
import Derived.ChangeArms
import Derived.DataReads
import Derived.ChangeSlices
import Derived.DataElems
import Derived.OpenShut
namespace Go.Proofs.YtjamcbjghffboaaGreatDoor
namespace Reg
open Go Go.RowKit Base
section
variable {H:Type} {enc:TypeId×Value->H} {P:Program} {w:World} {base base2:Nat} {spare:Nat->Bool} {held:Bool} {r:Reach} {k:IntKind}
def FlatB (enc:TypeId×Value->H)(P:Program)(w:World)(base:Nat)(spare:Nat->Bool)(held:Bool)(k:IntKind)(t:TypeId)(n:Nat):Prop:=
 ∀(fuel:Nat) (cs:List Value) (x:DataW H×List MemPlace),DataW.trod enc P w base spare held fuel t cs=some x->∃(zs:List Int) (b:Bool),cs=zs.map (Value.int k)++[.bool b]/\zs.length=n/\∀z∈zs,(Lit.int k z).wf=true
theorem flatb_two {t e bt:TypeId}{n:Nat}(he:Flat enc P w base spare held k e n)(hb:P.underlying bt=some .bool)(ht:P.underlying t=some (.struct (P.fieldsOf t)))(hce:P.cellsOf e=n)(hcb:P.cellsOf bt=1)(hct:P.cellsOf t=n+n+1)
  (hf:(P.fieldsOf t).toList.map (fun f=>(f.type,f.offset))=[(e,0),(e,n),(bt,n+n)]):FlatB enc P w base spare held k t (n+n):=fun fuel cs x h=>by
 obtain⟨xs,j,_,_,hl,hlen,hx⟩:=DataW.trod_struct ht h
 have hsz:(P.fieldsOf t).size=3:=by
  have:=congrArg List.length hf
  simpa using this
 have get:∀i (hi:i<3) (q:TypeId×Nat),([(e,0),(e,n),(bt,n+n)]:List (TypeId×Nat))[i]? = some q->DataW.trod enc P w base spare held j q.1 ((cs.drop q.2).take (P.cellsOf q.1))=some (xs[i]'(by omega)):=fun i hi q hq=>by
  obtain⟨f,hfi⟩:∃f,(P.fieldsOf t)[i]? = some f:=⟨_,Array.getElem?_eq_getElem (by omega)⟩
  have h1:=hx i f hfi
  have h3:((P.fieldsOf t).toList.map (fun f=>(f.type,f.offset)))[i]? = some (f.type,f.offset):=by
   rw[List.getElem?_map,Array.getElem?_toList,hfi]
   rfl
  rw[hf,hq] at h3
  obtain rfl:=Option.some.inj h3
  rw[h1,List.getElem?_eq_getElem (by omega)]
 have h0:=get 0 (by decide) (e,0) rfl
 have h1:=get 1 (by decide) (e,n) rfl
 have h2:=get 2 (by decide) (bt,n+n) rfl
 obtain⟨z0,e0,l0,w0⟩:=he _ _ _ h0
 obtain⟨z1,e1,l1,w1⟩:=he _ _ _ h1
 obtain⟨b,e2,_⟩:=DataW.trod_bool hb h2
 simp only[hce,hcb,List.drop_zero] at e0 e1 e2
 refine⟨z0++z1,b,?_,by rw[List.length_append,l0,l1],fun z hz=>?_⟩
 ·have hl2:cs.length=n+n+1:=hl.trans hct
  have a1:cs=cs.take n++((cs.drop n).take n++(cs.drop (n+n)).take 1):=by
   have a2:(cs.drop (n+n)).take 1=cs.drop (n+n):=List.take_of_length_le (by rw[List.length_drop,hl2];omega)
   have a3:(cs.drop n).take n++cs.drop (n+n)=cs.drop n:=by
    rw[show n+n=n+n from rfl,<-List.drop_drop,List.take_append_drop]
   rw[a2,a3,List.take_append_drop]
  rw[a1,e0,e1,e2,List.map_append,List.append_assoc]
 ·rcases List.mem_append.1 hz with hz|hz
  ·exact w0 z hz
  ·exact w1 z hz
theorem open_flatb {t:TypeId}{n:Nat}{v:Value}{d:DataW H}{p:List MemPlace}{fs:Array Field}(hf:FlatB enc P w base spare held k t n)(ht:P.underlying t=some (.struct fs))
  (hv:Value.okWide P w r base2 t v) (h:DataW.Trod enc P w base spare held t v d p):∃(zs:List Int) (b:Bool),v=.agg (vals k zs ++ #[.bool b])/\zs.length=n/\∀z∈zs,(Lit.int k z).wf=true:=by
 have hagg:∃cs,v=.agg cs:=by
  simp only[Value.okWide,ht] at hv
  obtain⟨cs,h1,_⟩:=hv
  exact⟨cs,h1⟩
 obtain⟨cs,rfl⟩:=hagg
 obtain⟨fuel,hfu⟩:=h
 obtain⟨zs,b,e,hl,hw⟩:=hf _ _ _ hfu
 refine⟨zs,b,?_,hl,hw⟩
 congr 1
 apply Array.ext'
 rw[show cs.toList=zs.map (Value.int k)++[.bool b] from e]
 simp[vals]
end
end Reg
end Go.Proofs.YtjamcbjghffboaaGreatDoor
