/-
  Own text.
-/
import Derived.Test.YtjamcbjghffboaaGreatDoorMReg
import Derived.OpenShut
import Derived.MakeChecks
import Derived.ChangeArms
import Derived.WalkKit
import Derived.ProofKit
import Derived.ChangeSame
import Derived.Test.YtjamcbjghffboaaGreatDoorRows
import Derived.Test.YtjamcbjghffboaaGreatDoorMFw1
import Derived.Test.YtjamcbjghffboaaGreatDoorFp2Spec
set_option maxRecDepth 100000
namespace Go.Proofs.YtjamcbjghffboaaGreatDoor
namespace Reg
open Go Go.RowKit Go.ChangeShapes
theorem laid_var {P:Program}{W:World}:∀{laid:List (String×DataW Unit)} {ps:List MemPlace},DataW.LaidVars P W laid ps->∀{n:String} {d:DataW Unit},(n,d)∈laid ->
  ∃g t cs fuel p,P.globalNamed n=some g/\(P.globals[g]?).map (·.type)=some t/\W.var? P n=some cs/\DataW.trod (fun _=>()) P W 0 (fun _=>true) false fuel t cs.toList=some (d,p)/\∀x∈MemPlace.row ⟨g,0,none⟩ cs.size,x∈ps
 |[],_,_,_,_,hm=>by cases hm
 |(n',d') :: r,ps,h,n,d,hm=>by
  obtain⟨g,t,cs,fuel,p,q,hg,ht,hv,hd,hr,rfl⟩:=h
  rcases List.mem_cons.1 hm with e|hm
  ·obtain⟨rfl,rfl⟩:=Prod.mk.injEq ..▸e
   exact⟨g,t,cs,fuel,p,hg,ht,hv,hd,fun x hx=>List.mem_append_left _ (List.mem_append_left _ hx)⟩
  ·obtain⟨g,t,cs,fuel,p',hg,ht,hv,hd,hx⟩:=laid_var hr hm
   exact⟨g,t,cs,fuel,p',hg,ht,hv,hd,fun x h=>List.mem_append_right _ (hx x h)⟩
theorem laid_block {P:Program}{W:World}{laid:List (String×DataW Unit)}(hp:(laid.all fun x=>x.2.handleName?.isNone)=true)(h:laidMetH P laid W){n:String}{d:DataW Unit}(hm:(n,d)∈laid){g:Nat}{t:TypeId}
  (hg:P.globalNamed n=some g) (ht:(P.globals[g]?).map (·.type)=some t) :
  ∃cs fuel p,DataW.trod (fun _=>()) P W 0 (fun _=>true) false fuel t cs.toList=some (d,p)/\(0<cs.size->∃t',Has W g t' cs):=by
 rw[MakeChecks.laidMetH_plain _ _ _ hp] at h
 obtain⟨ps,hv,_,hrow⟩:=h
 obtain⟨g',t',cs,fuel,p,hg',ht',hv',hd,hin⟩:=laid_var hv hm
 obtain rfl:=Option.some.inj (hg.symm.trans hg')
 obtain rfl:=Option.some.inj (ht.symm.trans ht')
 refine⟨cs,fuel,p,hd,fun h0=>?_⟩
 have h1:MemPlace.cell g 0∈ps:=hin _ (by
  unfold MemPlace.row
  exact List.mem_map.2 ⟨0,List.mem_range.2 h0,rfl⟩)
 obtain⟨⟨c,u,hc⟩,_⟩:=hrow g 0 h1
 refine⟨u,⟨?_⟩⟩
 have h2:W.var? P n=some c:=by
  unfold World.var?
  rw[hg]
  show (match W.heap[g]? with|some (.cells cs _ _)=>some cs|_=>none)=some c
  rw[hc]
 rw[h2] at hv'
 rw[hc,Option.some.inj hv']
theorem ints_of_trod {P:Program}{W:World}{fuel:Nat}{t e:TypeId}{n:Nat}{k:IntKind}(zs:List Int){l:List Value}{p:List MemPlace}(ht:P.underlying t=some (.array n e))(he:P.underlying e=some (.int k))(hce:P.cellsOf e=1)(hct:P.cellsOf t=n)
  (h:DataW.trod (fun _=>()) P W 0 (fun _=>true) false fuel t l=some (.agg (zs.map fun z=>.lit (.int k z)),p)):l=zs.map (Value.int k):=by
 obtain⟨xs,m,_,hx,hl,hn,hel⟩:=DataW.trod_array ht h
 have h1:xs.map (·.1)=zs.map fun z=>(DataW.lit (.int k z):DataW Unit):=by
  have:=congrArg Prod.fst hx
  simpa using this.symm
 have hzn:zs.length=n:=by have:=congrArg List.length h1;simp at this;omega
 refine List.ext_getElem? fun i=>?_
 rcases Nat.lt_or_ge i n with hi|hi
 ·have h2:=hel i hi
  rw[hce,Nat.mul_one,List.getElem?_eq_getElem (by omega)] at h2
  obtain⟨z,hz,e1,_⟩:=DataW.trod_int he h2
  have h3:(xs.map (·.1))[i]? = some (.lit (.int k z)):=by rw[List.getElem?_map,List.getElem?_eq_getElem (by omega),e1];rfl
  rw[h1,List.getElem?_map] at h3
  have h4:((l.drop i).take 1)[0]? = some (Value.int k z):=by rw[hz];rfl
  rw[List.getElem?_take_of_lt (by omega),List.getElem?_drop,Nat.add_zero] at h4
  rw[h4,List.getElem?_map]
  cases h5:zs[i]? with
  |none=>rw[h5] at h3;cases h3
  |some y=>
   rw[h5] at h3
   simp at h3
   simp[h3]
 ·rw[List.getElem?_eq_none (by omega),List.getElem?_eq_none (by simp;omega)]
theorem rows_of_trod {P:Program}{W:World}{fuel:Nat}{t u e:TypeId}{n m:Nat}{k:IntKind}(zs:List (List Int)){l:List Value}{p:List MemPlace}(ht:P.underlying t=some (.array n u))(hu:P.underlying u=some (.array m e))(he:P.underlying e=some (.int k))(hce:P.cellsOf e=1)(hcu:P.cellsOf u=m)(hct:P.cellsOf t=n*m)
  (h:DataW.trod (fun _=>()) P W 0 (fun _=>true) false fuel t l=some (.agg (zs.map fun y=>.agg (y.map fun z=>.lit (.int k z))),p)):l=zs.flatten.map (Value.int k):=by
 obtain⟨xs,f,_,hx,hl,hn,hel⟩:=DataW.trod_array ht h
 have h1:xs.map (·.1)=zs.map fun y=>(DataW.agg (y.map fun z=>.lit (.int k z)):DataW Unit):=by
  have:=congrArg Prod.fst hx
  simpa using this.symm
 have hzn:zs.length=n:=by have:=congrArg List.length h1;simp at this;omega
 have key:∀j,j<=n->l.drop ((n-j)*m)=((zs.drop (n-j)).flatten).map (Value.int k):=by
  intro j
  induction j with
  |zero=>intro _;rw[Nat.sub_zero,List.drop_eq_nil_of_le (by rw[hl,hct];exact Nat.le_refl _),List.drop_eq_nil_of_le (by omega)];rfl
  |succ j ih=>
   intro hj
   have hi:n-(j+1)<n:=by omega
   have h2:=hel (n-(j+1)) hi
   rw[hcu,List.getElem?_eq_getElem (by omega)] at h2
   have h3:(xs.map (·.1))[n-(j+1)]? = (zs.map fun y=>(DataW.agg (y.map fun z=>.lit (.int k z)):DataW Unit))[n-(j+1)]?:=by rw[h1]
   rw[List.getElem?_map,List.getElem?_map,List.getElem?_eq_getElem (by omega),List.getElem?_eq_getElem (by omega)] at h3
   simp only[Option.map_some,Option.some.injEq] at h3
   have h4:=ints_of_trod (zs[n-(j+1)]'(by omega)) hu he hce hcu (p:=(xs[n-(j+1)]'(by omega)).2) (by rw[h2,<-h3])
   have h5:l.drop ((n-(j+1))*m)=(l.drop ((n-(j+1))*m)).take m++l.drop ((n-j)*m):=by
    have e:(n-j)*m=(n-(j+1))*m+m:=by rw[<-Nat.succ_mul];congr 1;omega
    rw[e,<-List.drop_drop,List.take_append_drop]
   rw[h5,h4,ih (by omega),List.drop_eq_getElem_cons (by omega:n-(j+1)<zs.length),List.flatten_cons,List.map_append,show n-(j+1)+1=n-j by omega]
 have:=key n (Nat.le_refl _)
 rwa [Nat.sub_self,Nat.zero_mul,List.drop_zero,List.drop_zero] at this
end Reg
namespace Reg
open Go
def flatD:Nat->DataW Unit->List Int
 |_,.lit (.int _ z)=>[z]
 |n+1,.agg l=>(l.map (flatD n)).flatten
 |_,_=>[]
section
variable {P:Program} {W:World} {k:IntKind}
def ReadsAs (P:Program)(W:World)(k:IntKind)(t:TypeId)(n dp:Nat):Prop:=
 ∀(fuel:Nat) (cs:List Value) (d:DataW Unit) (p:List MemPlace),DataW.trod (fun _=>()) P W 0 (fun _=>true) false fuel t cs=some (d,p)->cs.length=n/\cs=(flatD dp d).map (Value.int k)
theorem reads_parts {n dp:Nat}:∀{xs:List (DataW Unit×List MemPlace)} {cs:List Value},cs.length=xs.length*n->(∀i (h:i<xs.length),((cs.drop (i*n)).take n).length=n/\(cs.drop (i*n)).take n=(flatD dp xs[i].1).map (Value.int k))->cs=((xs.map fun x=>flatD dp x.1).flatten).map (Value.int k)
 |[],cs,hl,_=>by
  rw[List.length_nil,Nat.zero_mul] at hl
  rw[List.eq_nil_of_length_eq_zero hl]
  rfl
 |x :: xs,cs,hl,h=>by
  rw[List.length_cons,Nat.succ_mul] at hl
  have h0:=(h 0 (by simp)).2
  rw[Nat.zero_mul,List.drop_zero] at h0
  have ih:=reads_parts (n:=n) (dp:=dp) (xs:=xs) (cs:=cs.drop n) (by rw[List.length_drop];omega) (fun i hi=>by
   have:=h (i+1) (by simpa using hi)
   rw[List.drop_drop,show n+i*n=(i+1)*n by rw[Nat.succ_mul,Nat.add_comm]]
   exact this)
  rw[List.map_cons,List.flatten_cons,List.map_append,<-ih]
  have h0':(flatD dp x.1).map (Value.int k)=cs.take n:=h0.symm
  rw[h0',List.take_append_drop]
theorem reads_int {e:TypeId}(he:P.underlying e=some (.int k)):ReadsAs P W k e 1 0:=fun fuel cs d p h=>by
 obtain⟨z,rfl,e1,_⟩:=DataW.trod_int he h
 obtain⟨rfl,_⟩:=Prod.mk.injEq ..▸e1
 exact⟨rfl,rfl⟩
theorem reads_arr {t e:TypeId}{n m dp:Nat}(he:ReadsAs P W k e n dp)(ht:P.underlying t=some (.array m e))(hce:P.cellsOf e=n)(hct:P.cellsOf t=m*n):ReadsAs P W k t (m*n) (dp+1):=fun fuel cs d p h=>by
 obtain⟨xs,j,_,hx,hl,hxl,hel⟩:=DataW.trod_array ht h
 obtain⟨rfl,rfl⟩:=Prod.mk.injEq ..▸hx
 refine⟨hl.trans hct,?_⟩
 have:=reads_parts (k:=k) (n:=n) (dp:=dp) (xs:=xs) (cs:=cs) (by rw[hl,hct,hxl]) (fun i hi=>by
  have h1:=hel i (by omega)
  rw[hce,List.getElem?_eq_getElem hi] at h1
  exact he _ _ _ _ h1)
 rw[this,flatD,List.map_map]
 rfl
theorem reads_struct {t e:TypeId}{n m dp:Nat}(he:ReadsAs P W k e n dp)(ht:P.underlying t=some (.struct (P.fieldsOf t)))(hce:P.cellsOf e=n)(hct:P.cellsOf t=m*n)
  (hf:(P.fieldsOf t).toList.map (fun f=>(f.type,f.offset))=(List.range m).map fun i=>(e,i*n)):ReadsAs P W k t (m*n) (dp+1):=fun fuel cs d p h=>by
 obtain⟨xs,j,_,hx,hl,hxl,hel⟩:=DataW.trod_struct ht h
 obtain⟨rfl,rfl⟩:=Prod.mk.injEq ..▸hx
 have hsz:(P.fieldsOf t).size=m:=by
  have:=congrArg List.length hf
  simpa using this
 refine⟨hl.trans hct,?_⟩
 have:=reads_parts (k:=k) (n:=n) (dp:=dp) (xs:=xs) (cs:=cs) (by rw[hl,hct,hxl,hsz]) (fun i hi=>by
  obtain⟨f,hfi⟩:∃f,(P.fieldsOf t)[i]? = some f:=⟨_,Array.getElem?_eq_getElem (by omega)⟩
  have h1:=hel i f hfi
  have h2:(f.type,f.offset)=(e,i*n):=by
   have h3:((P.fieldsOf t).toList.map (fun f=>(f.type,f.offset)))[i]? = some (f.type,f.offset):=by
    rw[List.getElem?_map,Array.getElem?_toList,hfi]
    rfl
   rw[hf,List.getElem?_map,List.getElem?_range (by omega)] at h3
   simpa using h3.symm
  injection h2 with h4 h5
  rw[h4,h5,hce,List.getElem?_eq_getElem hi] at h1
  exact he _ _ _ _ h1)
 rw[this,flatD,List.map_map]
 rfl
theorem laid_reads {laid:List (String×DataW Unit)}(hp:(laid.all fun x=>x.2.handleName?.isNone)=true)(h:laidMetH P laid W){n:String}{d:DataW Unit}(hm:(n,d)∈laid){g t m dp:Nat}{zs:List Int}
  (hg:P.globalNamed n=some g) (ht:(P.globals[g]?).map (·.type)=some t) (hr:ReadsAs P W k t m dp) (hz:flatD dp d=zs) (h0:0<m):∃t',Has W g t' (vals k zs):=by
 obtain⟨cs,fuel,p,hd,hh⟩:=laid_block hp h hm hg ht
 obtain⟨hl,e⟩:=hr _ _ _ _ hd
 rw[hz] at e
 have e2:cs=vals k zs:=by rw[vals,<-e]
 rw[<-e2]
 exact hh (by rw[<-Array.length_toList,hl];exact h0)
end
end Reg
namespace Reg
open Go
section
variable {H:Type} {enc:TypeId×Value->H} {P:Program} {w W:World} {base base2:Nat} {spare:Nat->Bool} {held:Bool} {r:Reach}
end
end Reg
namespace Reg
open Go
section
variable {H:Type} {enc:TypeId×Value->H} {P:Program} {w:World} {base base2:Nat} {spare:Nat->Bool} {held:Bool} {r:Reach} {k:IntKind}
def Flat (enc:TypeId×Value->H)(P:Program)(w:World)(base:Nat)(spare:Nat->Bool)(held:Bool)(k:IntKind)(t:TypeId)(n:Nat):Prop:=
 ∀(fuel:Nat) (cs:List Value) (x:DataW H×List MemPlace),DataW.trod enc P w base spare held fuel t cs=some x->∃zs:List Int,cs=zs.map (Value.int k)/\zs.length=n/\∀z∈zs,(Lit.int k z).wf=true
theorem flat_parts {n:Nat}:∀(m:Nat) (cs:List Value),cs.length=m*n->(∀i,i<m->∃zs:List Int,(cs.drop (i*n)).take n=zs.map (Value.int k)/\zs.length=n/\∀z∈zs,(Lit.int k z).wf=true) ->
  ∃zs:List Int,cs=zs.map (Value.int k)/\zs.length=m*n/\∀z∈zs,(Lit.int k z).wf=true
 |0,cs,hl,_=>⟨[],by rw[Nat.zero_mul] at hl;rw[List.eq_nil_of_length_eq_zero hl];rfl,by simp,by simp⟩
 |m+1,cs,hl,h=>by
  rw[Nat.succ_mul] at hl
  obtain⟨z0,e0,l0,w0⟩:=h 0 (by omega)
  rw[Nat.zero_mul,List.drop_zero] at e0
  obtain⟨z1,e1,l1,w1⟩:=flat_parts (n:=n) m (cs.drop n) (by rw[List.length_drop];omega) (fun i hi=>by
   rw[List.drop_drop,show n+i*n=(i+1)*n by rw[Nat.succ_mul,Nat.add_comm]]
   exact h (i+1) (by omega))
  refine⟨z0++z1,?_,by rw[List.length_append,l0,l1,Nat.succ_mul,Nat.add_comm],fun z hz=>?_⟩
  ·rw[List.map_append,<-e0,<-e1,List.take_append_drop]
  ·rcases List.mem_append.1 hz with hz|hz
   ·exact w0 z hz
   ·exact w1 z hz
theorem flat_int {e:TypeId}(he:P.underlying e=some (.int k)):Flat enc P w base spare held k e 1:=fun fuel cs x h=>by
 obtain⟨z,rfl,_,hwf⟩:=DataW.trod_int he h
 exact⟨[z],rfl,rfl,by simpa using hwf⟩
theorem flat_arr {t e:TypeId}{n m:Nat}(he:Flat enc P w base spare held k e n)(ht:P.underlying t=some (.array m e))(hce:P.cellsOf e=n)(hct:P.cellsOf t=m*n):Flat enc P w base spare held k t (m*n):=fun fuel cs x h=>by
 obtain⟨xs,j,_,_,hl,hxl,hx⟩:=DataW.trod_array ht h
 refine flat_parts m cs (by rw[hl,hct]) (fun i hi=>?_)
 have h1:=hx i hi
 rw[hce,List.getElem?_eq_getElem (by omega)] at h1
 exact he _ _ _ h1
theorem flat_struct {t e:TypeId}{n m:Nat}(he:Flat enc P w base spare held k e n)(ht:P.underlying t=some (.struct (P.fieldsOf t)))(hce:P.cellsOf e=n)(hct:P.cellsOf t=m*n)
  (hf:(P.fieldsOf t).toList.map (fun f=>(f.type,f.offset))=(List.range m).map fun i=>(e,i*n)):Flat enc P w base spare held k t (m*n):=fun fuel cs x h=>by
 obtain⟨xs,j,_,_,hl,hlen,hx⟩:=DataW.trod_struct ht h
 refine flat_parts m cs (by rw[hl,hct]) (fun i hi=>?_)
 have hsz:(P.fieldsOf t).size=m:=by
  have:=congrArg List.length hf
  simpa using this
 obtain⟨f,hfi⟩:∃f,(P.fieldsOf t)[i]? = some f:=⟨_,Array.getElem?_eq_getElem (by omega)⟩
 have h1:=hx i f hfi
 have h2:(f.type,f.offset)=(e,i*n):=by
  have h3:((P.fieldsOf t).toList.map (fun f=>(f.type,f.offset)))[i]? = some (f.type,f.offset):=by
   rw[List.getElem?_map,Array.getElem?_toList,hfi]
   rfl
  rw[hf,List.getElem?_map,List.getElem?_range hi] at h3
  simpa using h3.symm
 injection h2 with h4 h5
 rw[h4,h5,hce,List.getElem?_eq_getElem (by omega)] at h1
 exact he _ _ _ h1
theorem open_flat {t:TypeId}{n:Nat}{v:Value}{d:DataW H}{p:List MemPlace}{de:TypeDesc}(hf:Flat enc P w base spare held k t n)(ht:P.underlying t=some de)(hd:(match de with | .struct _ | .array _ _=>true|_=>false)=true)
  (hv:Value.okWide P w r base2 t v) (h:DataW.Trod enc P w base spare held t v d p):∃zs:List Int,v=.agg (vals k zs)/\zs.length=n/\∀z∈zs,(Lit.int k z).wf=true:=by
 have hagg:∃cs,v=.agg cs:=by
  cases de<;>simp at hd<;>simp only[Value.okWide,ht] at hv<;>obtain⟨cs,h1,_⟩:=hv<;>exact⟨cs,h1⟩
 obtain⟨cs,rfl⟩:=hagg
 obtain⟨fuel,hfu⟩:=h
 obtain⟨zs,e,hl,hw⟩:=hf _ _ _ hfu
 refine⟨zs,?_,hl,hw⟩
 congr 1
 apply Array.ext'
 rw[show cs.toList=zs.map (Value.int k) from e]
 simp[vals]
end
end Reg
namespace Fp
open Go Go.RowKit Reg
def rRows:List (List Int):=[[8505329371266088957,17002214543764226050,6865905132761471162,8632934651105793861,6631298214892334189,1582556514881692819],[4807590280750076774,8612159356199394243,12878354973820563945,2337167537087690866,6431483094484234427,293241525500371865],[10843886736844221597,4986109583520628558,9383303180058691654,1580741160401819599,18066133864166594236,201357114324440772],[11396969636769438951,14906441553275738803,11575976719427520033,16041729168491046160,17227550989889470529,1634297007776406087],[530084278580445711,4523507806283684619,1624132434792508366,9756551939738585554,1581692023382530096,1123129913263140485],[18197539513313378263,5220802458584164551,14995588168058310184,2582428486095855617,11648352368840172979,145533648938993496]]
theorem rRows_flat:rRows.flatten=rL:=by decide
theorem has_of {W:World}{g:Nat}{k:IntKind}{zs:List Int}{cs:Array Value}(e:cs.toList=zs.map (Value.int k))(hn:0<zs.length)(h:0<cs.size->∃t,Has W g t cs):∃t,Has W g t (vals k zs):=by
 have e2:cs=vals k zs:=by rw[vals,<-e]
 rw[<-e2]
 exact h (by rw[e2,vals_size];exact hn)
theorem glob_of {laid:List (String×DataW Unit)}{W:World}(hp:(laid.all fun x=>x.2.handleName?.isNone)=true)(h:laidMetH Tryz.prog laid W)(m1:("sigil/fp.prime",Rows.laid_sigil_fp_prime)∈laid)(m2:("sigil/fp.residues",Rows.laid_sigil_fp_residues)∈laid):Glob W:=by
 obtain⟨c1,f1,p1,d1,r1⟩:=laid_block hp h m1 (g:=5) (t:=24) (by kernel_rfl) (by kernel_rfl)
 obtain⟨c2,f2,p2,d2,r2⟩:=laid_block hp h m2 (g:=6) (t:=81) (by kernel_rfl) (by kernel_rfl)
 have e1:=ints_of_trod (k:=.u64) pL Tryz.underlying24 Tryz.underlying22 (by kernel_rfl) (by kernel_rfl) d1
 have e2:=rows_of_trod (k:=.u64) rRows Tryz.underlying81 Tryz.underlying24 Tryz.underlying22 (by kernel_rfl) (by kernel_rfl) (by kernel_rfl) d2
 rw[rRows_flat] at e2
 exact⟨has_of e1 (by decide) r1,has_of e2 (by decide) r2⟩
end Fp
namespace Fp
open Go Go.RowKit Reg
theorem globD_of {laid:List (String×DataW Unit)}{W:World}(hp:(laid.all fun x=>x.2.handleName?.isNone)=true)(h:laidMetH Tryz.prog laid W)(m1:("sigil/fp.prime",Rows.laid_sigil_fp_prime)∈laid)(m2:("sigil/fp.residues",Rows.laid_sigil_fp_residues)∈laid)(m3:("math/bits.deBruijn64tab",Rows.laid_math_bits_deBruijn64tab)∈laid)(mx1:("sigil/frob.byFirst",Rows.laid_sigil_frob_byFirst)∈laid)(mx2:("sigil/frob.bySecond",Rows.laid_sigil_frob_bySecond)∈laid)(mx3:("sigil/sub.beta",Rows.laid_sigil_sub_beta)∈laid)(mx4:("sigil/sub.backX",Rows.laid_sigil_sub_backX)∈laid)(mx5:("sigil/sub.backY",Rows.laid_sigil_sub_backY)∈laid):GlobD W:=by
 obtain⟨c3,f3,p3,d3,r3⟩:=laid_block hp h m3 (g:=9) (t:=157) (by kernel_rfl) (by kernel_rfl)
 have e3:=ints_of_trod (k:=.u8) dbL Tryz.underlying157 Tryz.underlying5 (by kernel_rfl) (by kernel_rfl) d3
 exact⟨glob_of hp h m1 m2,has_of e3 (by decide) r3,
  laid_reads hp h mx1 (g:=0) (t:=62) (dp:=3) (zs:=bfL) (by kernel_rfl) (by kernel_rfl) (reads_arr (m:=6) (reads_struct (m:=2) (reads_arr (m:=6) (reads_int (k:=.u64) Tryz.underlying22) Tryz.underlying24 (by kernel_rfl) (by kernel_rfl)) Tryz.underlying26 (by kernel_rfl) (by kernel_rfl) (by kernel_rfl)) Tryz.underlying62 (by kernel_rfl) (by kernel_rfl)) (by kernel_rfl) (by decide),
  laid_reads hp h mx2 (g:=1) (t:=81) (dp:=2) (zs:=bsL) (by kernel_rfl) (by kernel_rfl) (reads_arr (m:=6) (reads_arr (m:=6) (reads_int (k:=.u64) Tryz.underlying22) Tryz.underlying24 (by kernel_rfl) (by kernel_rfl)) Tryz.underlying81 (by kernel_rfl) (by kernel_rfl)) (by kernel_rfl) (by decide),
  laid_reads hp h mx3 (g:=2) (t:=24) (dp:=1) (zs:=bbL) (by kernel_rfl) (by kernel_rfl) (reads_arr (m:=6) (reads_int (k:=.u64) Tryz.underlying22) Tryz.underlying24 (by kernel_rfl) (by kernel_rfl)) (by kernel_rfl) (by decide),
  laid_reads hp h mx4 (g:=3) (t:=26) (dp:=2) (zs:=bxL) (by kernel_rfl) (by kernel_rfl) (reads_struct (m:=2) (reads_arr (m:=6) (reads_int (k:=.u64) Tryz.underlying22) Tryz.underlying24 (by kernel_rfl) (by kernel_rfl)) Tryz.underlying26 (by kernel_rfl) (by kernel_rfl) (by kernel_rfl)) (by kernel_rfl) (by decide),
  laid_reads hp h mx5 (g:=4) (t:=26) (dp:=2) (zs:=byL) (by kernel_rfl) (by kernel_rfl) (reads_struct (m:=2) (reads_arr (m:=6) (reads_int (k:=.u64) Tryz.underlying22) Tryz.underlying24 (by kernel_rfl) (by kernel_rfl)) Tryz.underlying26 (by kernel_rfl) (by kernel_rfl) (by kernel_rfl)) (by kernel_rfl) (by decide)⟩
end Fp
namespace Fp2
open Go Go.RowKit Reg
section
variable {H:Type} {enc:TypeId×Value->H} {w:World} {base:Nat} {spare:Nat->Bool} {held:Bool}
theorem flat_fp:Flat enc Tryz.prog w base spare held .u64 24 6:=flat_arr (n:=1) (m:=6) (flat_int Tryz.underlying22) Tryz.underlying24 (by kernel_rfl) (by kernel_rfl)
theorem flat_fp2:Flat enc Tryz.prog w base spare held .u64 26 12:=flat_struct (n:=6) (m:=2) flat_fp Tryz.underlying26 (by kernel_rfl) (by kernel_rfl) (by kernel_rfl)
end
theorem nm_flat {n:Nat}{l:List Int}(h:l.length=n)(hw:∀z∈l,(Lit.int .u64 z).wf=true):Nm n l:=⟨h,Limb.words_wf hw⟩
end Fp2
namespace Fp6
open Go Go.RowKit Reg Fp2
theorem flat_fp6 {H:Type}{enc:TypeId×Value->H}{w:World}{base:Nat}{spare:Nat->Bool}{held:Bool}:Flat enc Tryz.prog w base spare held .u64 28 36:=flat_struct (n:=12) (m:=3) flat_fp2 Tryz.underlying28 (by kernel_rfl) (by kernel_rfl) (by kernel_rfl)
end Fp6
namespace Fp12
open Go Go.RowKit Reg Fp6
theorem flat_fp12 {H:Type}{enc:TypeId×Value->H}{w:World}{base:Nat}{spare:Nat->Bool}{held:Bool}:Flat enc Tryz.prog w base spare held .u64 30 72:=flat_struct (n:=36) (m:=2) flat_fp6 Tryz.underlying30 (by kernel_rfl) (by kernel_rfl) (by kernel_rfl)
end Fp12
end Go.Proofs.YtjamcbjghffboaaGreatDoor
