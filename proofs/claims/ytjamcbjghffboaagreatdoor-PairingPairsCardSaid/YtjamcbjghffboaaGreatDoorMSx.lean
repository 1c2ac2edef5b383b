/-
  Own text.
-/
import Derived.Test.YtjamcbjghffboaaGreatDoorMRegT
import Derived.Test.YtjamcbjghffboaaGreatDoorFp2Spec
import Derived.Great.BuildSlice
import Derived.Laws.CopyRow
set_option linter.unusedVariables false
set_option linter.unusedSimpArgs false
set_option linter.unusedSectionVars false
namespace Go.Proofs.YtjamcbjghffboaaGreatDoor
namespace Sx
open Go Go.RowKit Reg Limb Fp2
def rng:IntKind->Int->Prop
 |.u64,x=>0<=x/\x<18446744073709551616
 |_,_=>True
inductive NV where
 |bl (b:Bool)
 |num (k:IntKind) (x:Int)
 |ext (A:Option Addr) (n c:Nat) (l:List Int)
 |fn (F:FuncId) (caps:List Nat)
def NV.den:NV->Value
 |.bl b=>.bool b
 |.num k x=>.int k x
 |.ext A n c _=>.slice A n c
 |.fn F _=>.func (.func F) #[] #[]
def NV.Ok:NV->Prop
 |.num k x=>rng k x
 |.fn _ _=>False
 |_=>True
inductive Sg where
 |nums (n:Nat) (xs:List Int)
 |one (v:Value)
 |nm (v:NV)
def Sg.size:Sg->Nat
 |.nums n _=>n
 |.one _=>1
 |.nm _=>1
def Sg.den:Sg->List Value
 |.nums _ xs=>xs.map (.int .u64)
 |.one v=>[v]
 |.nm v=>[v.den]
def Sg.Ok:Sg->Prop
 |.nums n xs=>Nm n xs
 |.one v=>v.oneCell'=true
 |.nm v=>v.Ok
abbrev Row:=List Sg
def den:Row->List Value
 |[]=>[]
 |s :: ss=>s.den++den ss
def sz:Row->Nat
 |[]=>0
 |s :: ss=>s.size+sz ss
def Ok:Row->Prop
 |[]=>True
 |s :: ss=>s.Ok/\Ok ss
theorem Sg.len {s:Sg}(h:s.Ok):s.den.length=s.size:=by
 cases s with
 |nums n xs=>simpa [Sg.den,Sg.size] using Nm.len h
 |one v=>rfl
 |nm v=>rfl
theorem den_len:∀{ss:Row},Ok ss->(den ss).length=sz ss
 |[],_=>rfl
 |s :: ss,h=>by rw[den,sz,List.length_append,s.len h.1,den_len h.2]
theorem den_app:∀(a b:Row),den (a++b)=den a++den b
 |[],b=>rfl
 |s :: a,b=>by rw[List.cons_append,den,den,den_app a b,List.append_assoc]
theorem ok_app:∀{a b:Row},Ok a->Ok b->Ok (a++b)
 |[],_,_,h=>h
 |_ :: _,_,h,h'=>⟨h.1,ok_app h.2 h'⟩
theorem den_one:∀{ss:Row},Ok ss->(den ss).toArray.all (·.oneCell')=true
 |[],_=>by simp[den]
 |s :: ss,h=>by
  have h1:=den_one h.2
  have h0:s.den.all (·.oneCell')=true:=by
   cases s with
   |nums n xs=>simp[Sg.den,Value.oneCell']
   |one v=>
    have:=h.1
    simp only[Sg.Ok] at this
    simp[Sg.den,this]
   |nm v=>cases v<;>simp[Sg.den,NV.den,Value.oneCell']
  simp only[List.all_toArray] at h1 ⊢
  rw[den,List.all_append,h0,h1]
  rfl
def part:Row->Nat->Nat->Option Row
 |[],_,n=>if n=0 then some [] else none
 |s :: ss,off,n=>
  if n=0 then some []
  else if s.size<=off then part ss (off-s.size) n
  else match s with
   |.nums m xs=>if off=0/\m<=n then (part ss 0 (n-m)).map (.nums m xs :: ·)
    else if off+n<=m then some [.nums n (seg off n xs)]
    else (part ss 0 (n-(m-off))).map (.nums (m-off) (seg off (m-off) xs) :: ·)
   |.one v=>(part ss 0 (n-1)).map (.one v :: ·)
   |.nm v=>(part ss 0 (n-1)).map (.nm v :: ·)
theorem map_seg (xs:List Int)(off n:Nat):((xs.map (Value.int .u64)).drop off).take n=(seg off n xs).map (.int .u64):=by
 rw[seg,List.map_take,List.map_drop]
theorem part_ok:∀{ss:Row} {off n:Nat} {out:Row},Ok ss->part ss off n=some out->((den ss).drop off).take n=den out/\Ok out/\sz out=n
 |[],off,n,out,_,h=>by
  unfold part at h
  split at h
  ·rename_i hn
   subst hn
   obtain rfl:=Option.some.inj h
   exact⟨by simp[den],trivial,rfl⟩
  ·cases h
 |s :: ss,off,n,out,hok,h=>by
  unfold part at h
  split at h
  ·rename_i hn
   subst hn
   obtain rfl:=Option.some.inj h
   exact⟨by simp[den],trivial,rfl⟩
  ·rename_i hn
   split at h
   ·rename_i hoff
    have h1:=part_ok hok.2 h
    refine⟨?_,h1.2⟩
    rw[den,List.drop_append,List.drop_eq_nil_of_le (by rw[s.len hok.1];exact hoff),List.nil_append,s.len hok.1]
    exact h1.1
   ·rename_i hoff
    cases s with
    |nums m xs=>
     have hx:Nm m xs:=hok.1
     have hl:(Sg.den (.nums m xs)).length=m:=Sg.len hok.1
     simp only[Sg.size] at hoff
     simp only at h
     split at h
     ·rename_i hc
      obtain⟨rest,hr,rfl⟩:=Option.map_eq_some_iff.1 h
      obtain⟨e1,o1,z1⟩:=part_ok hok.2 hr
      obtain⟨rfl,hmn⟩:=hc
      refine⟨?_,⟨hok.1,o1⟩,by rw[sz,z1,Sg.size];omega⟩
      rw[den,den,<-e1,List.drop_zero,List.drop_zero,List.take_append,hl,List.take_of_length_le (by omega)]
     ·split at h
      ·obtain rfl:=Option.some.inj h
       refine⟨?_,⟨hx.seg (by omega),trivial⟩,by simp[sz,Sg.size]⟩
       rw[den,List.drop_append_of_le_length (by omega),List.take_append_of_le_length (by rw[List.length_drop];omega)]
       simp only[den,Sg.den,List.append_nil]
       exact map_seg xs off n
      ·rename_i hc1 hc2
       obtain⟨rest,hr,rfl⟩:=Option.map_eq_some_iff.1 h
       obtain⟨e1,o1,z1⟩:=part_ok hok.2 hr
       refine⟨?_,⟨hx.seg (by omega),o1⟩,by rw[sz,z1,Sg.size];omega⟩
       rw[den,List.drop_append_of_le_length (by omega),List.take_append,List.length_drop,hl,List.take_of_length_le (by rw[List.length_drop];omega),den,<-e1,List.drop_zero]
       congr 1
       show (xs.map (Value.int .u64)).drop off=(seg off (m-off) xs).map (.int .u64)
       rw[<-map_seg,List.take_of_length_le (by rw[List.length_drop,List.length_map,hx.len];omega)]
    |one v=>
     obtain⟨rest,hr,rfl⟩:=Option.map_eq_some_iff.1 h
     obtain⟨e1,o1,z1⟩:=part_ok hok.2 hr
     have h0:off=0:=by
      simp only[Sg.size] at hoff
      omega
     subst h0
     refine⟨?_,⟨hok.1,o1⟩,by rw[sz,z1,Sg.size];omega⟩
     rw[den,den,<-e1,List.drop_zero,List.drop_zero]
     show (v :: den ss).take n=v :: (den ss).take (n-1)
     obtain⟨k,rfl⟩:∃k,n=k+1:=⟨n-1,by omega⟩
     rfl
    |nm v=>
     obtain⟨rest,hr,rfl⟩:=Option.map_eq_some_iff.1 h
     obtain⟨e1,o1,z1⟩:=part_ok hok.2 hr
     have h0:off=0:=by
      simp only[Sg.size] at hoff
      omega
     subst h0
     refine⟨?_,⟨hok.1,o1⟩,by rw[sz,z1,Sg.size];omega⟩
     rw[den,den,<-e1,List.drop_zero,List.drop_zero]
     show (v.den :: den ss).take n=v.den :: (den ss).take (n-1)
     obtain⟨k,rfl⟩:∃k,n=k+1:=⟨n-1,by omega⟩
     rfl
def mgo:Nat->List Int->Row->Option (Nat×List Int)
 |n,xs,[]=>some (n,xs)
 |n,xs,.nums m ys :: r=>mgo (n+m) (xs++ys) r
 |_,_,.one _ :: _=>none
 |_,_,.nm _ :: _=>none
def mg:Row->Option (Nat×List Int)
 |[]=>some (0,[])
 |.nums n xs :: r=>mgo n xs r
 |.one _ :: _=>none
 |.nm _ :: _=>none
theorem mgo_ok:∀{r:Row} {n m:Nat} {xs ys:List Int},Nm n xs->Ok r->mgo n xs r=some (m,ys)->Nm m ys/\xs.map (Value.int .u64)++den r=ys.map (.int .u64)
 |[],n,m,xs,ys,hx,_,h=>by
  injection h with h
  injection h with h1 h2
  subst h1 h2
  exact⟨hx,by simp[den]⟩
 |.nums k zs :: r,n,m,xs,ys,hx,hr,h=>by
  obtain⟨h1,h2⟩:=mgo_ok (hx.app hr.1) hr.2 h
  exact⟨h1,by rw[<-h2,den,Sg.den,List.map_append,List.append_assoc]⟩
 |.one _ :: _,_,_,_,_,_,_,h=>by cases h
 |.nm _ :: _,_,_,_,_,_,_,h=>by cases h
theorem mg_ok:∀{r:Row} {m:Nat} {ys:List Int},Ok r->mg r=some (m,ys)->Nm m ys/\den r=ys.map (.int .u64)
 |[],m,ys,_,h=>by
  injection h with h
  injection h with h1 h2
  subst h1 h2
  exact⟨⟨rfl,words_nil⟩,rfl⟩
 |.nums n xs :: r,m,ys,hr,h=>by
  obtain⟨h1,h2⟩:=mgo_ok hr.1 hr.2 h
  exact⟨h1,by rw[<-h2];rfl⟩
 |.one _ :: _,_,_,_,h=>by cases h
 |.nm _ :: _,_,_,_,h=>by cases h
def pre (v:Value)(t:Row):Row:=
 match v with
 |.int .u64 k=>if 0<=k/\k<18446744073709551616 then (match t with | .nums n xs :: u=>.nums (n+1) (k :: xs) :: u|t=>.nums 1 [k] :: t) else .one (.int .u64 k) :: t
 |v=>.one v :: t
def cmp:List Value->Row
 |[]=>[]
 |v :: r=>pre v (cmp r)
theorem pre_den (v:Value)(t:Row):den (pre v t)=v :: den t:=by
 unfold pre
 split
 ·split
  ·split<;>rfl
  ·rfl
 ·rfl
theorem pre_ok {v:Value}{t:Row}(hv:v.oneCell'=true)(ht:Ok t):Ok (pre v t):=by
 unfold pre
 split
 ·rename_i k
  split
  ·rename_i hk
   split
   ·rename_i n xs u
    refine⟨⟨by simp[ht.1.len],fun i=>?_⟩,ht.2⟩
    rcases i with _|i
    ·simp[nth];omega
    ·have:=ht.1.words i
     simpa [nth] using this
   ·refine⟨⟨rfl,fun i=>?_⟩,ht⟩
    rcases i with _|i
    ·simp[nth];omega
    ·simp[nth]
  ·exact⟨rfl,ht⟩
 ·exact⟨hv,ht⟩
theorem cmp_den:∀(l:List Value),den (cmp l)=l
 |[]=>rfl
 |v :: r=>by rw[cmp,pre_den,cmp_den r]
theorem cmp_ok:∀(l:List Value),l.all (·.oneCell')=true->Ok (cmp l)
 |[],_=>trivial
 |v :: r,h=>by
  simp only[List.all_cons,Bool.and_eq_true] at h
  exact pre_ok h.1 (cmp_ok r h.2)
inductive TV where
 |agg (r:Row)
 |val (v:Value)
 |num (k:IntKind) (x:Int)
 |bl (b:Bool)
inductive AV where
 |ptr (k off:Nat)
 |agg (r:Row)
 |val (v:Value)
 |slc (k off n c:Nat)
 |tup (vs:List TV)
 |fn (f:FuncId) (caps:List Nat)
 |num (k:IntKind) (x:Int)
 |ptrS (k off:Nat)
 |ext (A:Option Addr) (n c:Nat) (l:List Int)
 |extp (A:Option Addr) (off N:Nat) (l:List Int)
 |bl (b:Bool)
 |xr (A:Option Addr) (n c:Nat) (r:Row)
 |xp (A:Option Addr) (off:Nat) (r:Row)
 |unk
def TV.den:TV->Value
 |.agg r=>.agg (Sx.den r).toArray
 |.val v=>v
 |.num k x=>.int k x
 |.bl b=>.bool b
def TV.Ok:TV->Prop
 |.agg r=>Sx.Ok r
 |.val _=>True
 |.num k x=>rng k x
 |.bl _=>True
def TV.av:TV->AV
 |.agg r=>.agg r
 |.val v=>.val v
 |.num k x=>.num k x
 |.bl b=>.bl b
def AV.den (gs:List Nat):AV->Value
 |.ptr k off=>.pointer (some ⟨gs.getD k 0,off,none⟩)
 |.agg r=>.agg (Sx.den r).toArray
 |.val v=>v
 |.slc k off n c=>.slice (some ⟨gs.getD k 0,off,none⟩) n c
 |.tup vs=>.tuple (vs.map TV.den).toArray
 |.fn f caps=>.func (.func f) #[] (caps.map fun k=>.pointer (some ⟨gs.getD k 0,0,none⟩)).toArray
 |.num k x=>.int k x
 |.ptrS k off=>.pointer (some ⟨gs.getD k 0,off,none⟩)
 |.ext A n c _=>.slice A n c
 |.extp A off _ _=>.pointer (A.map fun x=>x.add off)
 |.bl b=>.bool b
 |.xr A n c _=>.slice A n c
 |.xp A off _=>.pointer (A.map fun x=>x.add off)
 |.unk=>undef
def TV.OkL:List TV->Prop
 |[]=>True
 |v :: r=>v.Ok/\TV.OkL r
def AV.Ok (n:Nat):AV->Prop
 |.ptr k _ | .slc k _ _ _ | .ptrS k _=>k<n
 |.agg r=>Sx.Ok r
 |.val _=>True
 |.tup vs=>TV.OkL vs
 |.fn _ caps=>∀k∈caps,k<n
 |.num k x=>rng k x
 |.ext .. | .extp .. | .bl _ | .xr .. | .xp .. | .unk=>True
theorem okA1{a:AV}(h:a.Ok 0):∀v∈[a],v.Ok 0:=fun v hv=>by
  obtain rfl:=List.mem_singleton.1 hv
  exact h
theorem okA2{a b:AV}(h:a.Ok 0)(kb:b.Ok 0):∀v∈[a,b],v.Ok 0:=List.forall_mem_cons.2 ⟨h,okA1 kb⟩
theorem okA3{a b c:AV}(h:a.Ok 0)(kb:b.Ok 0)(kc:c.Ok 0):∀v∈[a,b,c],v.Ok 0:=List.forall_mem_cons.2 ⟨h,okA2 kb kc⟩
theorem okA4{a b c d:AV}(h:a.Ok 0)(kb:b.Ok 0)(kc:c.Ok 0)(kd:d.Ok 0):∀v∈[a,b,c,d],v.Ok 0:=List.forall_mem_cons.2 ⟨h,okA3 kb kc kd⟩
theorem getD_ext {gs:List Nat}{k g:Nat}(h:k<gs.length):(gs++[g]).getD k 0=gs.getD k 0:=by
 simp[List.getD,List.getElem?_append_left h]
theorem AV.den_ext {gs:List Nat}{g:Nat}{v:AV}(h:v.Ok gs.length):v.den (gs++[g])=v.den gs:=by
 cases v with
 |ptr k off=>simp only[AV.den,getD_ext h]
 |slc k off n c=>simp only[AV.den,getD_ext h]
 |fn f caps=>
  simp only[AV.den]
  congr 2
  refine List.map_congr_left fun k hk=>?_
  rw[getD_ext (h k hk)]
 |agg r=>rfl
 |val v=>rfl
 |tup vs=>rfl
 |num k x=>rfl
 |ptrS k off=>simp only[AV.den,getD_ext h]
 |ext _ _ _ _=>rfl
 |extp _ _ _ _=>rfl
 |bl b=>rfl
 |xr _ _ _ _=>rfl
 |xp _ _ _=>rfl
 |unk=>rfl
theorem AV.Ok.mono {n m:Nat}{v:AV}(h:v.Ok n)(hm:n<=m):v.Ok m:=by
 cases v with
 |ptr k off=>exact Nat.lt_of_lt_of_le h hm
 |slc k off n c=>exact Nat.lt_of_lt_of_le h hm
 |fn f caps=>exact fun k hk=>Nat.lt_of_lt_of_le (h k hk) hm
 |agg r=>exact h
 |val v=>trivial
 |tup vs=>exact h
 |num k x=>exact h
 |ptrS k off=>exact Nat.lt_of_lt_of_le h hm
 |ext _ _ _ _=>trivial
 |extp _ _ _ _=>trivial
 |bl b=>trivial
 |xr _ _ _ _=>trivial
 |xp _ _ _=>trivial
 |unk=>trivial
theorem TV.okL_get:∀{vs:List TV} {i:Nat} {v:TV},TV.OkL vs->vs[i]? = some v->v.Ok
 |[],_,_,_,h=>by simp at h
 |a :: r,0,v,hk,h=>by
  obtain rfl:a=v:=by simpa using h
  exact hk.1
 |a :: r,i+1,v,hk,h=>TV.okL_get (vs:=r) (i:=i) hk.2 (by simpa using h)
end Sx
namespace Sx
open Go Go.RowKit Reg Limb Fp2
abbrev Bk:=TypeId×Row
def BOk (gs:List Nat)(bl:Nat->Option Bk)(u:World):Prop:=∀k t r,bl k=some (t,r)->Has u (gs.getD k 0) t (den r).toArray/\Ok r
def fnr:Row->Option (FuncId×List Nat)
 |[.nm (.fn F caps)]=>some (F,caps)
 |_=>none
def denB (gs:List Nat)(r:Row):List Value:=match fnr r with
 |some (F,caps)=>[(AV.fn F caps).den gs]
 |none=>den r
def OkB (n:Nat)(r:Row):Prop:=match fnr r with
 |some (_,caps)=>∀k∈caps,k<n
 |none=>Ok r
theorem fnr_some {r:Row}{F:FuncId}{caps:List Nat}(h:fnr r=some (F,caps)):r=[.nm (.fn F caps)]:=by
 unfold fnr at h
 split at h
 ·injection h with h
  injection h with e1 e2
  subst e1 e2
  rfl
 ·cases h
theorem ok_fnr {r:Row}(h:Ok r):fnr r=none:=by
 cases hf:fnr r with
 |none=>rfl
 |some x=>
  obtain⟨F,caps⟩:=x
  obtain rfl:=fnr_some hf
  exact h.1.elim
theorem denB_ok {gs:List Nat}{r:Row}(h:Ok r):denB gs r=den r:=by rw[denB,ok_fnr h]
theorem okB_ok {n:Nat}{r:Row}(h:Ok r):OkB n r:=by rw[OkB,ok_fnr h];exact h
theorem denB_len {n:Nat}{gs:List Nat}{r:Row}(ho:OkB n r):(denB gs r).length=sz r:=by
 cases hf:fnr r with
 |none=>
  rw[OkB,hf] at ho
  rw[denB,hf]
  exact den_len ho
 |some x=>
  obtain⟨F,caps⟩:=x
  obtain rfl:=fnr_some hf
  rfl
theorem fn_ext {gs gs':List Nat}{F:FuncId}{caps:List Nat}(he:∀k∈caps,gs'.getD k 0=gs.getD k 0):(AV.fn F caps).den gs'=(AV.fn F caps).den gs:=by
 have:(caps.map fun k=>Value.pointer (some ⟨gs'.getD k 0,0,none⟩))=caps.map fun k=>Value.pointer (some ⟨gs.getD k 0,0,none⟩):=List.map_congr_left fun k hk=>by rw[he k hk]
 rw[AV.den,AV.den,this]
theorem denB_ext {n:Nat}{gs gs':List Nat}{r:Row}(ho:OkB n r)(he:∀k,k<n->gs'.getD k 0=gs.getD k 0):denB gs' r=denB gs r:=by
 cases hf:fnr r with
 |none=>rw[denB,denB,hf]
 |some x=>
  obtain⟨F,caps⟩:=x
  rw[OkB,hf] at ho
  rw[denB,denB,hf]
  show [_]=[_]
  rw[fn_ext fun k hk=>he k (ho k hk)]
theorem OkB.mono {n n':Nat}{r:Row}(h:OkB n r)(hn:n<=n'):OkB n' r:=by
 cases hf:fnr r with
 |none=>
  rw[OkB,hf] at h ⊢
  exact h
 |some x=>
  obtain⟨F,caps⟩:=x
  rw[OkB,hf] at h ⊢
  exact fun k hk=>Nat.lt_of_lt_of_le (h k hk) hn
def pb (bs:List Bk)(k:Nat):Option Bk:=match bs[k]? with
 |some (t,r)=>match fnr r with
  |none=>some (t,r)
  |some _=>none
 |none=>none
theorem pb_at {bs:List Bk}{k t:Nat}{r:Row}(h:pb bs k=some (t,r)):bs[k]? = some (t,r)/\fnr r=none:=by
 unfold pb at h
 split at h
 ·rename_i t' r' hb
  split at h
  ·rename_i hf
   injection h with h
   injection h with e1 e2
   subst e1 e2
   exact⟨hb,hf⟩
  ·cases h
 ·cases h
theorem pb_app {bs l:List Bk}{k:Nat}(h:k<bs.length):pb (bs++l) k=pb bs k:=by
 unfold pb
 rw[List.getElem?_append_left h]
theorem pb_set {bs:List Bk}{b:Bk}{j k:Nat}(h:j≠k):pb (bs.set j b) k=pb bs k:=by
 unfold pb
 rw[List.getElem?_set_ne h]
def ev (sl:List AV):Operand->Option AV
 |.tmp t=>match sl[t]? with
  |some .unk=>none
  |r=>r
 |.const v=>some (.val v)
 |.func f=>some (.val (.func (.func f) #[] #[]))
 |.global n=>some (.val (.pointer (some ⟨n,0,none⟩)))
def evs (sl:List AV):List Operand->Option (List AV)
 |[]=>some []
 |x :: r=>match ev sl x,evs sl r with
  |some v,some vs=>some (v :: vs)
  |_,_=>none
def Sl (gs:List Nat)(sl:List AV)(a:Act):Prop:=a.tmps.size=sl.length/\∀(i:Nat) (v:AV),sl[i]? = some v->v≠.unk->a.tmps[i]? = some (v.den gs)
theorem Sl.of_eq {gs:List Nat}{sl:List AV}{a:Act}(h:a.tmps=(sl.map (AV.den gs)).toArray):Sl gs sl a:=⟨by rw[h];simp,fun i v hi _=>by rw[h];simp[List.getElem?_map,hi]⟩
theorem ev_tmp {sl:List AV}{t:Nat}{v:AV}(h:sl[t]? = some v)(hv:v≠.unk):ev sl (.tmp t)=some v:=by
 simp only[ev,h]
 cases v<;>first|rfl|exact absurd rfl hv
theorem tmp_ev {sl:List AV}{t:Nat}{v:AV}(h:ev sl (.tmp t)=some v):sl[t]? = some v/\v≠.unk:=by
 simp only[ev] at h
 split at h
 ·cases h
 ·rename_i hne
  exact⟨h,fun e=>hne (by rw[h,e])⟩
def SOk (n:Nat)(sl:List AV):Prop:=∀v∈sl,v.Ok n
section
variable {gs:List Nat} {sl:List AV} {a:Act}
theorem ev_ok (h:Sl gs sl a)(ho:SOk gs.length sl){x:Operand}{v:AV}(he:ev sl x=some v):a.eval x=v.den gs/\v.Ok gs.length:=by
 cases x with
 |tmp t=>
  obtain⟨he,hne⟩:=tmp_ev he
  refine⟨?_,ho v (List.mem_of_getElem? he)⟩
  have:=h.2 t v he hne
  simp[Act.eval,this]
 |const c=>obtain rfl:=Option.some.inj he;exact⟨rfl,trivial⟩
 |func f=>obtain rfl:=Option.some.inj he;exact⟨rfl,trivial⟩
 |global g=>obtain rfl:=Option.some.inj he;exact⟨rfl,trivial⟩
theorem evs_ok (h:Sl gs sl a)(ho:SOk gs.length sl):∀{xs:List Operand} {vs:List AV},evs sl xs=some vs->xs.map a.eval=vs.map (AV.den gs)/\∀v∈vs,v.Ok gs.length
 |[],vs,he=>by obtain rfl:=Option.some.inj he;exact⟨rfl,by simp⟩
 |x :: r,vs,he=>by
  unfold evs at he
  split at he
  ·rename_i v vs' h1 h2
   obtain rfl:=Option.some.inj he
   obtain⟨e1,o1⟩:=ev_ok h ho h1
   obtain⟨e2,o2⟩:=evs_ok h ho h2
   exact⟨by rw[List.map_cons,List.map_cons,e1,e2],fun u hu=>by
    rcases List.mem_cons.1 hu with rfl|hu
    ·exact o1
    ·exact o2 u hu⟩
  ·cases he
end
abbrev Ent:=Program->(Nat->Option Bk)->List AV->Option AV
structure EOk (P:Program) (G:World->Prop) (F:FuncId) (e:Ent):Prop where
 enter:∀args w,(callFunc F args).run P w=.ok (.enter F args) w
 ok:∀bl args v (gs:List Nat),e P bl args=some v->(∀a∈args,a.Ok gs.length) ->
  ∀w,G w->BOk gs bl w->v.Ok gs.length/\Calls P F (args.map (AV.den gs)).toArray w fun e w'=>e=.returned (v.den gs)/\Below w.heap.size w w'
abbrev Tbl:=List (FuncId×Ent)
def look:Tbl->FuncId->Option Ent
 |[],_=>none
 |(F,e) :: T,f=>if F=f then some e else look T f
def TOk (P:Program)(G:World->Prop):Tbl->Prop
 |[]=>True
 |(F,e) :: T=>EOk P G F e/\TOk P G T
theorem look_ok {P:Program}{G:World->Prop}:∀{T:Tbl} {F:FuncId} {e:Ent},TOk P G T->look T F=some e->EOk P G F e
 |[],_,_,_,h=>by cases h
 |(F',e') :: T,F,e,hT,h=>by
  unfold look at h
  split at h
  ·rename_i hf
   subst hf
   obtain rfl:=Option.some.inj h
   exact hT.1
  ·exact look_ok hT.2 h
def cel:Row->Nat->Option Value
 |[],_=>none
 |s :: ss,off=>if s.size<=off then cel ss (off-s.size) else match s with
  |.nums _ xs=>some (.int .u64 (nth xs off))
  |.one v=>some v
  |.nm _=>none
theorem cel_ok:∀{r:Row} {off:Nat} {v:Value},Ok r->cel r off=some v->(den r)[off]? = some v
 |[],_,_,_,h=>by cases h
 |s :: ss,off,v,ho,h=>by
  unfold cel at h
  split at h
  ·rename_i hs
   rw[den,List.getElem?_append_right (by rw[s.len ho.1];exact hs),s.len ho.1]
   exact cel_ok ho.2 h
  ·rename_i hs
   rw[den,List.getElem?_append_left (by rw[s.len ho.1];omega)]
   cases s with
   |nums n xs=>
    obtain rfl:=Option.some.inj h
    have hx:Nm n xs:=ho.1
    have:off<xs.length:=by rw[hx.len];simp only[Sg.size] at hs;omega
    simp[Sg.den,nth,this]
   |one u=>
    obtain rfl:=Option.some.inj h
    simp only[Sg.size] at hs
    obtain rfl:off=0:=by omega
    rfl
   |nm u=>cases h
def celm:Row->Nat->Option NV
 |[],_=>none
 |s :: ss,off=>if s.size<=off then celm ss (off-s.size) else match s with
  |.nm v=>some v
  |_=>none
theorem celm_ok:∀{r:Row} {off:Nat} {v:NV},Ok r->celm r off=some v->(den r)[off]? = some v.den/\v.Ok
 |[],_,_,_,h=>by cases h
 |s :: ss,off,v,ho,h=>by
  unfold celm at h
  split at h
  ·rename_i hs
   rw[den,List.getElem?_append_right (by rw[s.len ho.1];exact hs),s.len ho.1]
   exact celm_ok ho.2 h
  ·rename_i hs
   rw[den,List.getElem?_append_left (by rw[s.len ho.1];omega)]
   cases s with
   |nums n xs=>cases h
   |one u=>cases h
   |nm u=>
    obtain rfl:=Option.some.inj h
    simp only[Sg.size] at hs
    obtain rfl:off=0:=by omega
    exact⟨rfl,ho.1⟩
def NV.av:NV->AV
 |.fn F _=>.val (.func (.func F) #[] #[])
 |.bl b=>.bl b
 |.num k x=>.num k x
 |.ext A n c l=>.ext A n c l
theorem NV.av_den {v:NV}(gs:List Nat):v.av.den gs=v.den:=by cases v<;>rfl
theorem NV.av_ok {v:NV}(h:v.Ok)(n:Nat):v.av.Ok n:=by cases v<;>first|exact h|trivial
def rowOf:AV->Option Row
 |.agg r=>some r
 |.val v=>if v.oneCell' then some (cmp [v]) else none
 |.num .u64 x=>some [.nums 1 [x]]
 |.num k x=>some [.nm (.num k x)]
 |.ext A n c l=>some [.nm (.ext A n c l)]
 |_=>none
theorem rowOf_ok {v:AV}{r:Row}{gs:List Nat}{n:Nat}(ho:v.Ok n)(h:rowOf v=some r):(v.den gs).cells=(den r).toArray/\Ok r:=by
 cases v with
 |agg q=>
  obtain rfl:=Option.some.inj h
  exact⟨rfl,ho⟩
 |val v=>
  simp only[rowOf] at h
  split at h
  ·rename_i hc
   obtain rfl:=Option.some.inj h
   refine⟨?_,cmp_ok [v] (by simp[hc])⟩
   rw[cmp_den]
   cases v<;>first|rfl|simp[Value.oneCell'] at hc
  ·cases h
 |num k x=>
  by_cases hk:k=.u64
  ·subst hk
   obtain rfl:=Option.some.inj h
   have:0<=x/\x<18446744073709551616:=ho
   exact⟨rfl,⟨rfl,words_of _ (by
    intro i hi
    have:i=0:=by simpa using hi
    subst this
    simp[nth]
    omega)⟩,trivial⟩
  ·have:r=[.nm (.num k x)]:=by
    unfold rowOf at h
    split at h<;>first|exact absurd rfl hk|(cases h;done)|skip
    all_goals simp_all
   subst this
   exact⟨rfl,ho,trivial⟩
 |ext A n c l=>
  obtain rfl:=Option.some.inj h
  exact⟨rfl,trivial,trivial⟩
 |_=>cases h
def fillS (place:Nat->Option (Nat×Nat)):Row->List (Nat×AV)->Option Row
 |r,[]=>some r
 |r,(i,v) :: rest=>match place i,rowOf v with
  |some (off,n),some s=>if sz s=n/\off+n<=sz r then (match part r 0 off,part r (off+n) (sz r-(off+n)) with
    |some b,some e=>fillS place (b++s++e) rest
    |_,_=>none) else none
  |_,_=>none
theorem fold_cells:∀(xs:List Value) (off j:Nat) (cs:List Value),off+j+xs.length<=cs.length ->
  (xs.zipIdx j).foldl (fun (a:Array Value) (x:Value×Nat)=>a.setIfInBounds (off+x.2) x.1) cs.toArray=(cs.take (off+j)++xs++cs.drop (off+j+xs.length)).toArray
 |[],off,j,cs,_=>by simp
 |x :: xs,off,j,cs,h=>by
  simp only[List.length_cons] at h
  simp only[List.zipIdx_cons,List.foldl_cons]
  rw[List.setIfInBounds_toArray,fold_cells xs off (j+1) (cs.set (off+j) x) (by rw[List.length_set];omega)]
  congr 1
  rw[show off+(j+1)=off+j+1 by omega,List.take_set,List.drop_set,if_pos (by omega)]
  rw[List.set_eq_take_append_cons_drop]
  have hl:(cs.take (off+j+1)).length=off+j+1:=by rw[List.length_take];omega
  rw[if_pos (by omega),List.take_take,Nat.min_eq_left (by omega),List.drop_eq_nil_of_le (by omega)]
  simp only[List.length_cons,List.append_assoc,List.cons_append,List.nil_append]
  rw[show off+j+1+xs.length=off+j+(xs.length+1) by omega]
theorem fillS_ok {place:Nat->Option (Nat×Nat)}{gs:List Nat}{n:Nat}:∀{ps:List (Nat×AV)} {r out:Row},Ok r->(∀p∈ps,p.2.Ok n)->fillS place r ps=some out ->
  Instr.fill place (den r).toArray (ps.map fun p=>(p.1,p.2.den gs))=some (den out).toArray/\Ok out
 |[],r,out,ho,_,h=>by
  obtain rfl:=Option.some.inj h
  exact⟨rfl,ho⟩
 |(i,v) :: rest,r,out,ho,hp,h=>by
  unfold fillS at h
  split at h
  ·rename_i off m s h1 h2
   split at h
   ·rename_i hc
    split at h
    ·rename_i b e h3 h4
     obtain⟨c1,o1⟩:=rowOf_ok (gs:=gs) (hp (i,v) (by simp)) h2
     obtain⟨b1,ob,zb⟩:=part_ok ho h3
     obtain⟨e1,oe,ze⟩:=part_ok ho h4
     have ih:=fillS_ok (gs:=gs) (ok_app (ok_app ob o1) oe) (fun p hp'=>hp p (List.mem_cons_of_mem _ hp')) h
     refine⟨?_,ih.2⟩
     rw[List.map_cons,Instr.fill,h1]
     have hs:((v.den gs).cells).size=m:=by rw[c1,List.size_toArray,den_len o1];exact hc.1
     have hl:=den_len ho
     simp only[hs]
     rw[if_neg (by simp[hl];omega),c1,<-Array.foldl_toList,Array.toList_zipIdx,List.toList_toArray]
     have hf:=fold_cells (den s) off 0 (den r) (by rw[den_len o1,hl];omega)
     have hd:List.take (sz r-(off+m)) (List.drop (off+m) (den r))=List.drop (off+m) (den r):=List.take_of_length_le (by rw[List.length_drop,hl];omega)
     rw[hf,<-ih.1,den_app,den_app,<-b1,<-e1,Nat.add_zero,den_len o1,hc.1,List.drop_zero,hd]
    ·cases h
   ·cases h
  ·cases h
def zrow (z:Value):Option Row:=if z.cells.toList.all (·.oneCell') then some (cmp z.cells.toList) else none
theorem zrow_ok {z:Value}{r:Row}(h:zrow z=some r):(den r).toArray=z.cells/\Ok r:=by
 unfold zrow at h
 split at h
 ·rename_i hc
  obtain rfl:=Option.some.inj h
  exact⟨by rw[cmp_den],cmp_ok _ hc⟩
 ·cases h
def bld (P:Program)(t:TypeId)(ps:List (Nat×AV)):Option Row:=
 match P.info? t,P.underlying t with
 |some it,some (.array _ e)=>
  match it.zero.bind zrow,P.info? e with
  |some z,some ie=>fillS (fun i=>some (i*ie.size,ie.size)) z ps
  |_,_=>none
 |some it,some (.struct fields)=>
  match it.zero.bind zrow,fields.toList.mapM (fun f=>(P.info? f.type).map fun i=>(f.offset,i.size)) with
  |some z,some places=>fillS (places.toArray[·]?) z ps
  |_,_=>none
 |_,_=>none
theorem bld_ok {P:Program}{t:TypeId}{ps:List (Nat×AV)}{out:Row}{gs:List Nat}{n:Nat}(hp:∀p∈ps,p.2.Ok n)(h:bld P t ps=some out):P.built t (ps.map fun p=>(p.1,p.2.den gs))=some (den out).toArray/\Ok out:=by
 unfold bld at h
 unfold Program.built
 split at h
 ·rename_i it len e h1 h2
  split at h
  ·rename_i z ie h3 h4
   obtain⟨z0,hz,hr⟩:=Option.bind_eq_some_iff.1 h3
   obtain⟨e1,o1⟩:=zrow_ok hr
   have:=fillS_ok (gs:=gs) o1 hp h
   simp only[h1,h2,hz,h4]
   rw[<-e1]
   exact this
  ·cases h
 ·rename_i it fields h1 h2
  split at h
  ·rename_i z places h3 h4
   obtain⟨z0,hz,hr⟩:=Option.bind_eq_some_iff.1 h3
   obtain⟨e1,o1⟩:=zrow_ok hr
   have:=fillS_ok (gs:=gs) o1 hp h
   simp only[h1,h2,hz,h4]
   rw[<-e1]
   exact this
  ·cases h
 ·cases h
end Sx
namespace Sx
open Go Go.RowKit Reg Limb Fp2
def ptrs:List AV->Option (List Nat)
 |[]=>some []
 |.ptr k 0 :: r=>(ptrs r).map (k :: ·)
 |_=>none
def evp (sl:List AV):List (Nat×Operand)->Option (List (Nat×AV))
 |[]=>some []
 |(i,x) :: r=>match ev sl x,evp sl r with
  |some v,some vs=>some ((i,v) :: vs)
  |_,_=>none
def scal (P:Program)(t:TypeId):BinOp->Value->Value->Option Value
 |.eql,.int k a,.int k' b=>if k=k' then some (.bool (a==b)) else none
 |.neq,.int k a,.int k' b=>if k=k' then some (.bool (a != b)) else none
 |.lss,.int k a,.int k' b=>if k=k' then some (.bool (decide (a<b))) else none
 |.leq,.int k a,.int k' b=>if k=k' then some (.bool (decide (a<=b))) else none
 |.gtr,.int k a,.int k' b=>if k=k' then some (.bool (decide (b<a))) else none
 |.geq,.int k a,.int k' b=>if k=k' then some (.bool (decide (b<=a))) else none
 |.add,.int k a,.int k' b=>if k=k' then some (.int k (k.wrap (a+b))) else none
 |.sub,.int k a,.int k' b=>if k=k' then some (.int k (k.wrap (a-b))) else none
 |.mul,.int k a,.int k' b=>if k=k' then some (.int k (k.wrap (a*b))) else none
 |.quo,.int k a,.int k' b=>if k=k' then (if b=0 then none else some (.int k (k.wrap (a.tdiv b)))) else none
 |.rem,.int k a,.int k' b=>if k=k' then (if b=0 then none else some (.int k (a.tmod b))) else none
 |.eql,.bool a,.bool b=>match P.underlying t with
  |some .bool=>some (.bool (a==b))
  |_=>none
 |.neq,.bool a,.bool b=>match P.underlying t with
  |some .bool=>some (.bool (a != b))
  |_=>none
 |_,_,_=>none
theorem bool_eq {P:Program}{t:TypeId}(h:P.underlying t=some .bool)(x y:Operand)(a b:Bool)(w:World):((do eqGuard .eql t x y (.bool a) (.bool b);binOp .eql t (.bool a) (.bool b)):Sem Value).run P w=.ok (.bool (a==b)) w:=by
 have h1:(eqGuard .eql t x y (.bool a) (.bool b)).run P w=.ok () w:=by simp[eqGuard]
 have h2:(binOp .eql t (.bool a) (.bool b)).run P w=((Op.equalIn 10000 t (.bool a) (.bool b)).run P w).andThen fun b w'=>.ok (.bool b) w':=by
  show (do pure (Value.bool (<-Op.equal t (.bool a) (.bool b))):Sem Value).run P w=_
  simp only[Op.equal,Op.maxDepth,Sem.run_bind,Sem.run_pure]
 rw[Sem.run_bind,h1,Result.andThen_ok,h2,run_equalIn_bool w 9999 t a b h,Result.andThen_ok]
theorem bool_ne {P:Program}{t:TypeId}(h:P.underlying t=some .bool)(x y:Operand)(a b:Bool)(w:World):((do eqGuard .neq t x y (.bool a) (.bool b);binOp .neq t (.bool a) (.bool b)):Sem Value).run P w=.ok (.bool (a != b)) w:=by
 have h1:(eqGuard .neq t x y (.bool a) (.bool b)).run P w=.ok () w:=by simp[eqGuard]
 have h2:(binOp .neq t (.bool a) (.bool b)).run P w=((Op.equalIn 10000 t (.bool a) (.bool b)).run P w).andThen fun b w'=>.ok (.bool (!b)) w':=by
  show (do pure (Value.bool (!(<-Op.equal t (.bool a) (.bool b)))):Sem Value).run P w=_
  simp only[Op.equal,Op.maxDepth,Sem.run_bind,Sem.run_pure]
 rw[Sem.run_bind,h1,Result.andThen_ok,h2,run_equalIn_bool w 9999 t a b h,Result.andThen_ok]
 rfl
theorem scal_ok {P:Program}{op:BinOp}{t:TypeId}{x y:Operand}{a b v:Value}(h:scal P t op a b=some v)(w:World):((do eqGuard op t x y a b;binOp op t a b):Sem Value).run P w=.ok v w:=by
  unfold scal at h
  split at h
  all_goals first
    | cases h
    | (split at h
       · rename_i hk
         subst hk
         obtain rfl:=Option.some.inj h
         simp[eqGuard,binOp,Op.intCmp,Op.intArith]
         done
       · cases h)
    | (split at h
       · rename_i hk
         subst hk
         split at h
         · cases h
         · rename_i hb
           obtain rfl:=Option.some.inj h
           simp[eqGuard,binOp,Op.intDiv,hb]
           done
       · cases h)
    | (split at h
       · rename_i hk
         obtain rfl:=Option.some.inj h
         first
           | exact bool_eq hk _ _ _ _ w
           | exact bool_ne hk _ _ _ _ w
       · cases h)
def evalV (P:Program)(T:Tbl)(bl:Nat->Option Bk)(sl:List AV):Op->Option AV
 |.move x=>ev sl x
 |.assign x=>ev sl x
 |.pick c x y=>match ev sl c,ev sl x,ev sl y with
  |some (.val (.bool true)),some v,some _=>some v
  |some (.val (.bool false)),some _,some v=>some v
  |_,_,_=>none
 |.unOp .not _ x=>match ev sl x with
  |some (.val (.bool b))=>some (.val (.bool (!b)))
  |_=>none
 |.binOp op t x y _=>match ev sl x,ev sl y with
  |some (.val a),some (.val b)=>(scal P t op a b).map .val
  |_,_=>none
 |.fieldAddr t x f=>match ev sl x,P.underlying t with
  |some (.ptr k off),some (.struct fields)=>match fields[f]? with
   |some fd=>match P.info? fd.type with
    |some i=>if i.size=0 then none else some (.ptr k (off+fd.offset))
    |none=>none
   |none=>none
  |some (.val (.pointer (some ⟨g,off,none⟩))),some (.struct fields)=>match fields[f]? with
   |some fd=>match P.info? fd.type with
    |some i=>if i.size=0 then none else some (.val (.pointer (some ⟨g,off+fd.offset,none⟩)))
    |none=>none
   |none=>none
  |_,_=>none
 |.indexAddr t x ix=>match ev sl x,ev sl ix,P.underlying t with
  |some (.ptr k off),some (.val (.int _ i)),some (.array len e)=>match P.info? e with
   |some ie=>if 0<=i/\i<len then some (.ptr k (off+i.toNat*ie.size)) else none
   |none=>none
  |some (.slc k off n c),some (.val (.int _ i)),some (.slice e)=>match P.info? e with
   |some ie=>if 0<=i/\i<n then some (.ptr k (off+i.toNat*ie.size)) else none
   |none=>none
  |some (.val (.pointer (some ⟨g,off,none⟩))),some (.val (.int _ i)),some (.array len e)=>match P.info? e with
   |some ie=>if 0<=i/\i<len then some (.val (.pointer (some ⟨g,off+i.toNat*ie.size,none⟩))) else none
   |none=>none
  |_,_,_=>none
 |.load t x=>match ev sl x,P.underlying t,P.info? t with
  |some (.ptr k off),some d,some i=>match bl k with
   |some (_,r)=>if d.isRow then (part r off i.size).map .agg else (cel r off).map .val
   |none=>none
  |_,_,_=>none
 |.build t ps=>match evp sl ps.toList with
  |some vs=>(bld P t vs).map .agg
  |none=>none
 |.extract x i=>match ev sl x with
  |some (.tup vs)=>vs[i]?.map TV.av
  |_=>none
 |.field t x f=>match ev sl x,P.underlying t with
  |some (.agg r),some (.struct fields)=>match fields[f]? with
   |some fd=>match P.underlying fd.type,P.info? fd.type with
    |some d,some i=>if d.isRow then (part r fd.offset i.size).map .agg else (cel r fd.offset).map .val
    |_,_=>none
   |none=>none
  |_,_=>none
 |.makeFunc (.func f) first caps=>if first.size=0 then (match evs sl caps.toList with
  |some vs=>(ptrs vs).map (.fn f)
  |none=>none) else none
 |.call c=>match c.callee with
  |.value g=>match ev sl g,evs sl c.args.toList with
   |some (.val (.func (.func F) first caps)),some vs=>if first.size=0/\caps.size=0 then (match look T F with
    |some e=>e P bl vs
    |none=>none) else none
   |some (.fn F caps),some vs=>match look T F with
    |some e=>e P bl (vs++caps.map (.ptr · 0))
    |none=>none
   |_,_=>none
  |.builtin .len=>match c.argTypes[0]?.bind P.underlying,evs sl c.args.toList with
   |some (.slice _),some [.slc _ _ n _]=>some (.val (.int .i64 n))
   |some (.slice _),some [.val (.slice _ n _)]=>some (.val (.int .i64 n))
   |_,_=>none
  |_=>none
 |_=>none
theorem ptrs_ok {gs:List Nat}{n:Nat}:∀{vs:List AV} {ks:List Nat},(∀v∈vs,v.Ok n)->ptrs vs=some ks->vs.map (AV.den gs)=ks.map (fun k=>.pointer (some ⟨gs.getD k 0,0,none⟩))/\∀k∈ks,k<n
 |[],ks,_,h=>by obtain rfl:=Option.some.inj h;exact⟨rfl,by simp⟩
 |v :: r,ks,ho,h=>by
  unfold ptrs at h
  split at h
  ·cases ‹_=([]:List AV)›
  ·rename_i k r' heq
   obtain⟨rfl,rfl⟩:=List.cons.inj heq
   obtain⟨ks',hk,rfl⟩:=Option.map_eq_some_iff.1 h
   obtain⟨e1,o1⟩:=ptrs_ok (fun u hu=>ho u (List.mem_cons_of_mem _ hu)) hk
   refine⟨by rw[List.map_cons,List.map_cons,e1];rfl,fun j hj=>?_⟩
   rcases List.mem_cons.1 hj with rfl|hj
   ·exact ho (.ptr _ 0) (by simp)
   ·exact o1 j hj
  ·cases h
section
variable {P:Program} {G:World->Prop} {T:Tbl} {gs:List Nat} {sl:List AV} {a:Act} {bl:Nat->Option Bk} {u:World}
theorem evp_ok (h:Sl gs sl a)(ho:SOk gs.length sl):∀{xs:List (Nat×Operand)} {vs:List (Nat×AV)},evp sl xs=some vs->xs.map (fun p=>(p.1,a.eval p.2))=vs.map (fun p=>(p.1,p.2.den gs))/\∀p∈vs,p.2.Ok gs.length
 |[],vs,he=>by obtain rfl:=Option.some.inj he;exact⟨rfl,by simp⟩
 |(i,x) :: r,vs,he=>by
  unfold evp at he
  split at he
  ·rename_i v vs' h1 h2
   obtain rfl:=Option.some.inj he
   obtain⟨e1,o1⟩:=ev_ok h ho h1
   obtain⟨e2,o2⟩:=evp_ok h ho h2
   exact⟨by rw[List.map_cons,List.map_cons,e1,e2],fun u hu=>by
    rcases List.mem_cons.1 hu with rfl|hu
    ·exact o1
    ·exact o2 u hu⟩
  ·cases he
theorem add_at (g off n:Nat):(⟨g,off,none⟩:Addr).add n=⟨g,off+n,none⟩:=by
 unfold Addr.add
 split
 ·rename_i h;subst h;rfl
 ·rfl
theorem load_row {x:World}{g t ty n off:Nat}{r out:Row}{d:TypeDesc}{i:TypeInfo}(hh:Has x g t (Sx.den r).toArray)(ho:Ok r)(hu:P.underlying ty=some d)(hd:d.isRow=true)(hi:P.info? ty=some i)(hp:part r off i.size=some out):(loadVar ty ⟨g,off,none⟩).run P x=.ok (.agg (Sx.den out).toArray) x:=by
 obtain⟨e1,o1,z1⟩:=part_ok ho hp
 refine run_loadVar_mid x g off ty (Sx.den out) d (fun j v hv=>?_) hu hd (by rw[hi,den_len o1,z1];rfl)
 rw[<-e1,List.getElem?_take] at hv
 split at hv
 ·rw[List.getElem?_drop] at hv
  rw[hh.cell]
  simpa using hv
 ·cases hv
theorem load_cel {x:World}{g t ty off:Nat}{r:Row}{v:Value}{d:TypeDesc}(hh:Has x g t (Sx.den r).toArray)(ho:Ok r)(hu:P.underlying ty=some d)(hd:d.isRow=false)(hc:cel r off=some v):(loadVar ty ⟨g,off,none⟩).run P x=.ok v x:=by
 have hagg:(isAgg ty).run P x=.ok false x:=by
  unfold isAgg
  rw[Sem.run_bind,run_underlying hu x]
  cases d<;>first|rfl|(simp[TypeDesc.isRow] at hd)
 have hcell:=hh.cell off
 rw[show (Sx.den r).toArray[off]? = some v by simpa using cel_ok ho hc] at hcell
 simp[loadVar,Sem.run_bind,hagg,hcell]
theorem field_row {x:World}{ty n:Nat}{off:Nat}{r out:Row}{d:TypeDesc}{i:TypeInfo}(ho:Ok r)(hu:P.underlying ty=some d)(hd:d.isRow=true)(hi:P.info? ty=some i)(hp:Sx.part r off i.size=some out):(Go.part ty (Sx.den r).toArray off).run P x=.ok (.agg (Sx.den out).toArray) x:=by
 obtain⟨e1,o1,z1⟩:=part_ok ho hp
 have hagg:(isAgg ty).run P x=.ok true x:=by
  unfold isAgg
  rw[Sem.run_bind,run_underlying hu x]
  cases d<;>first|rfl|(simp[TypeDesc.isRow] at hd)
 simpa [Go.part,hagg,sizeOf,typeInfo,hi] using e1
theorem field_cel {x:World}{ty off:Nat}{r:Row}{v:Value}{d:TypeDesc}(ho:Ok r)(hu:P.underlying ty=some d)(hd:d.isRow=false)(hc:cel r off=some v):(Go.part ty (Sx.den r).toArray off).run P x=.ok v x:=by
 have hagg:(isAgg ty).run P x=.ok false x:=by
  unfold isAgg
  rw[Sem.run_bind,run_underlying hu x]
  cases d<;>first|rfl|(simp[TypeDesc.isRow] at hd)
 have hcell:(Sx.den r).toArray[off]? = some v:=by simpa using cel_ok ho hc
 simp[Go.part,hagg,hcell]
theorem evalV_ok (hT:TOk P G T)(h:Sl gs sl a)(ho:SOk gs.length sl){o:Oper}{v:AV}(h0:∃u,G u/\BOk gs bl u)(he:evalV P T bl sl o.op=some v) :
  v.Ok gs.length/\∀u,G u->BOk gs bl u->o.quietAt P a (fun z=>RowKit.Below u.heap.size u z) u (v.den gs):=by
 obtain⟨u0,hg0,hb0⟩:=h0
 unfold Oper.quietAt execOp
 unfold evalV at he
 split at he
 ·rename_i x hop
  obtain⟨e1,o1⟩:=ev_ok h ho he
  exact⟨o1,fun u _ _=>by simp[hop,e1,Oper.quietUpon]⟩
 ·rename_i x hop
  obtain⟨e1,o1⟩:=ev_ok h ho he
  exact⟨o1,fun u _ _=>by simp[hop,e1,Oper.quietUpon]⟩
 ·rename_i c x y hop
  split at he
  ·rename_i v1 v2 h1 h2 h3
   obtain rfl:=Option.some.inj he
   obtain⟨e1,o1⟩:=ev_ok h ho h1
   obtain⟨e2,o2⟩:=ev_ok h ho h2
   exact⟨o2,fun u _ _=>by simp[hop,e1,e2,AV.den,asBool,Oper.quietUpon]⟩
  ·rename_i v1 v2 h1 h2 h3
   obtain rfl:=Option.some.inj he
   obtain⟨e1,o1⟩:=ev_ok h ho h1
   obtain⟨e3,o3⟩:=ev_ok h ho h3
   exact⟨o3,fun u _ _=>by simp[hop,e1,e3,AV.den,asBool,Oper.quietUpon]⟩
  ·cases he
 ·rename_i t x hop
  split at he
  ·rename_i b h1
   obtain rfl:=Option.some.inj he
   obtain⟨e1,o1⟩:=ev_ok h ho h1
   exact⟨trivial,fun u _ _=>by simp[hop,e1,AV.den,Op.unary,Oper.quietUpon]⟩
  ·cases he
 ·rename_i op t x y r hop
  split at he
  ·rename_i a1 b1 h1 h2
   obtain⟨v1,hv,rfl⟩:=Option.map_eq_some_iff.1 he
   obtain⟨e1,o1⟩:=ev_ok h ho h1
   obtain⟨e2,o2⟩:=ev_ok h ho h2
   refine⟨trivial,fun u _ _=>?_⟩
   have hr:=scal_ok (P:=P) (t:=t) (x:=x) (y:=y) hv u
   simp only[hop,e1,e2,AV.den]
   rw[Sem.run_bind,hr]
   simp[Oper.quietUpon]
  ·cases he
 ·rename_i t x f hop
  split at he
  ·rename_i k off fields h1 h2
   split at he
   ·rename_i fd h3
    split at he
    ·rename_i i h4
     split at he
     ·cases he
     ·rename_i h5
      obtain rfl:=Option.some.inj he
      obtain⟨e1,o1⟩:=ev_ok h ho h1
      refine⟨o1,fun u _ _=>?_⟩
      simp[hop,e1,AV.den,Instr.fieldAt,run_underlying h2,h3,Instr.sureAddr,fieldPlace,sizeOf,typeInfo,h4,h5,Oper.quietUpon,add_at]
    ·cases he
   ·cases he
  ·rename_i g off fields h1 h2
   split at he
   ·rename_i fd h3
    split at he
    ·rename_i i h4
     split at he
     ·cases he
     ·rename_i h5
      obtain rfl:=Option.some.inj he
      obtain⟨e1,o1⟩:=ev_ok h ho h1
      refine⟨trivial,fun u _ _=>?_⟩
      simp[hop,e1,AV.den,Instr.fieldAt,run_underlying h2,h3,Instr.sureAddr,fieldPlace,sizeOf,typeInfo,h4,h5,Oper.quietUpon,add_at]
    ·cases he
   ·cases he
  ·cases he
 ·rename_i t x ix hop
  split at he
  ·rename_i k off kk i len e h1 h2 h3
   split at he
   ·rename_i ie h4
    split at he
    ·rename_i hc
     obtain rfl:=Option.some.inj he
     obtain⟨e1,o1⟩:=ev_ok h ho h1
     obtain⟨e2,o2⟩:=ev_ok h ho h2
     refine⟨o1,fun u _ _=>?_⟩
     simp[hop,e1,e2,AV.den,Instr.indexAt,run_underlying h3,Instr.sureAddr,asIntOf,sizeOf,typeInfo,h4,hc,Oper.quietUpon,add_at]
    ·cases he
   ·cases he
  ·rename_i k off n c kk i e h1 h2 h3
   split at he
   ·rename_i ie h4
    split at he
    ·rename_i hc
     obtain rfl:=Option.some.inj he
     obtain⟨e1,o1⟩:=ev_ok h ho h1
     obtain⟨e2,o2⟩:=ev_ok h ho h2
     refine⟨o1,fun u _ _=>?_⟩
     simp[hop,e1,e2,AV.den,Instr.indexAt,run_underlying h3,asIntOf,sizeOf,typeInfo,h4,hc,Oper.quietUpon,add_at]
    ·cases he
   ·cases he
  ·rename_i g off kk i len e h1 h2 h3
   split at he
   ·rename_i ie h4
    split at he
    ·rename_i hc
     obtain rfl:=Option.some.inj he
     obtain⟨e1,o1⟩:=ev_ok h ho h1
     obtain⟨e2,o2⟩:=ev_ok h ho h2
     refine⟨trivial,fun u _ _=>?_⟩
     simp[hop,e1,e2,AV.den,Instr.indexAt,run_underlying h3,Instr.sureAddr,asIntOf,sizeOf,typeInfo,h4,hc,Oper.quietUpon,add_at]
    ·cases he
   ·cases he
  ·cases he
 ·rename_i t x hop
  split at he
  ·rename_i k off d i h1 h2 h3
   split at he
   ·rename_i tt r h4
    obtain⟨e1,o1⟩:=ev_ok h ho h1
    split at he
    ·rename_i hd
     obtain⟨out,hp,rfl⟩:=Option.map_eq_some_iff.1 he
     refine⟨(part_ok (hb0 _ _ _ h4).2 hp).2.1,fun u _ hB=>?_⟩
     have hr:=load_row (hB _ _ _ h4).1 (hB _ _ _ h4).2 h2 hd h3 hp (n:=0)
     rw[List.getD_eq_getElem?_getD] at hr
     simp[hop,e1,AV.den,Instr.loadAt,Instr.sureAddr,hr,Oper.quietUpon]
    ·rename_i hd
     obtain⟨w,hp,rfl⟩:=Option.map_eq_some_iff.1 he
     refine⟨trivial,fun u _ hB=>?_⟩
     have hr:=load_cel (hB _ _ _ h4).1 (hB _ _ _ h4).2 h2 (by simpa using hd) hp
     rw[List.getD_eq_getElem?_getD] at hr
     simp[hop,e1,AV.den,Instr.loadAt,Instr.sureAddr,hr,Oper.quietUpon]
   ·cases he
  ·cases he
 ·rename_i t ps hop
  split at he
  ·rename_i vs h1
   obtain⟨out,hp,rfl⟩:=Option.map_eq_some_iff.1 he
   obtain⟨e1,o1⟩:=evp_ok h ho h1
   obtain⟨e2,o2⟩:=bld_ok (gs:=gs) o1 hp
   refine⟨o2,fun u _ _=>?_⟩
   have hr:=run_build u t (ps.map fun p=>(p.1,a.eval p.2)) _ (by rw[Array.toList_map,e1];exact e2)
   simp[hop,AV.den,hr,Oper.quietUpon]
  ·cases he
 ·rename_i x i hop
  split at he
  ·rename_i vs h1
   obtain⟨tv,hp,rfl⟩:=Option.map_eq_some_iff.1 he
   obtain⟨e1,o1⟩:=ev_ok h ho h1
   have hv:=TV.okL_get o1 hp
   refine⟨by cases tv<;>first|exact hv|trivial,fun u _ _=>?_⟩
   cases tv<;>simp[hop,e1,AV.den,TV.den,TV.av,Instr.extract,hp,Oper.quietUpon]
  ·cases he
 ·rename_i t x f hop
  split at he
  ·rename_i r fields h1 h2
   split at he
   ·rename_i fd h3
    split at he
    ·rename_i d i h4 h5
     obtain⟨e1,o1⟩:=ev_ok h ho h1
     split at he
     ·rename_i hd
      obtain⟨out,hp,rfl⟩:=Option.map_eq_some_iff.1 he
      refine⟨(part_ok o1 hp).2.1,fun u _ _=>?_⟩
      have hr:=field_row (P:=P) (x:=u) (n:=0) o1 h4 hd h5 hp
      simp[hop,e1,AV.den,Instr.field,run_underlying h2,h3,asAgg,hr,Oper.quietUpon]
     ·rename_i hd
      obtain⟨w,hp,rfl⟩:=Option.map_eq_some_iff.1 he
      refine⟨trivial,fun u _ _=>?_⟩
      have hr:=field_cel (P:=P) (x:=u) o1 h4 (by simpa using hd) hp
      simp[hop,e1,AV.den,Instr.field,run_underlying h2,h3,asAgg,hr,Oper.quietUpon]
    ·cases he
   ·cases he
  ·cases he
 ·rename_i f first caps hop
  split at he
  ·rename_i hf
   split at he
   ·rename_i vs h1
    obtain⟨ks,hp,rfl⟩:=Option.map_eq_some_iff.1 he
    obtain⟨e1,o1⟩:=evs_ok h ho h1
    obtain⟨e2,o2⟩:=ptrs_ok (gs:=gs) o1 hp
    refine⟨o2,fun u _ _=>?_⟩
    have hf':first=#[]:=Array.eq_empty_of_size_eq_zero hf
    have hc:caps.map a.eval=(ks.map (fun k=>Value.pointer (some ⟨gs.getD k 0,0,none⟩))).toArray:=by
     rw[<-e2,<-e1,<-Array.toList_map]
    have hmf:∀(fn:Fn) (first cap:Array Value) (w:World),(Instr.makeFunc fn first cap).run P w=.ok (.func fn first cap) w:=fun _ _ _ _=>rfl
    simp[hop,AV.den,hf',hc,hmf,Oper.quietUpon]
   ·cases he
  ·cases he
 ·rename_i c hop
  split at he
  ·rename_i g hg
   split at he
   ·rename_i F first caps vs h1 h2
    split at he
    ·rename_i hc
     split at he
     ·rename_i e h3
      obtain⟨e1,o1⟩:=ev_ok h ho h1
      obtain⟨e2,o2⟩:=evs_ok h ho h2
      have hE:=look_ok hT h3
      have hcc:=hE.ok bl vs v gs he o2
      refine⟨(hcc u0 hg0 hb0).1,fun u hG hB=>?_⟩
      have hf':first=#[]:=Array.eq_empty_of_size_eq_zero hc.1
      have hc':caps=#[]:=Array.eq_empty_of_size_eq_zero hc.2
      have ha:c.args.map a.eval=(vs.map (AV.den gs)).toArray:=by rw[<-e2,<-Array.toList_map]
      simp[hop,resolve,hg,e1,AV.den,Deferred.ofValue,hf',hc',ha,invoke,hE.enter,Oper.quietUpon]
      exact (hcc u hG hB).2
     ·cases he
    ·cases he
   ·rename_i F caps vs h1 h2
    split at he
    ·rename_i e h3
     obtain⟨e1,o1⟩:=ev_ok h ho h1
     obtain⟨e2,o2⟩:=evs_ok h ho h2
     have hE:=look_ok hT h3
     have hcall:=hE.ok bl _ v gs he (fun w hw=>by
      rcases List.mem_append.1 hw with hw|hw
      ·exact o2 w hw
      ·obtain⟨k,hk,rfl⟩:=List.mem_map.1 hw
       exact o1 k hk)
     refine⟨(hcall u0 hg0 hb0).1,fun u hG hB=>?_⟩
     have ha:c.args.map a.eval=(vs.map (AV.den gs)).toArray:=by rw[<-e2,<-Array.toList_map]
     have hcc:=(hcall u hG hB).2
     rw[List.map_append,List.map_map] at hcc
     simp[hop,resolve,hg,e1,AV.den,Deferred.ofValue,ha,invoke,hE.enter,Oper.quietUpon]
     simpa [AV.den,Function.comp_def] using hcc
    ·cases he
   ·cases he
  ·rename_i hb
   have key:∀(e:TypeId) (v:AV) (A:Option Addr) (n cp:Nat),c.argTypes[0]?.bind P.underlying=some (.slice e)->evs sl c.args.toList=some [v]->v.den gs=.slice A n cp->∀u,((execOp a.eval o).run P u)=.ok (.value (.int .i64 n)) u:=by
    intro e v A n cp h1 h2 h3 u
    obtain⟨e2,o2⟩:=evs_ok h ho h2
    obtain⟨t,ht,hu⟩:=Option.bind_eq_some_iff.1 h1
    have ha:c.args.map a.eval=#[.slice A n cp]:=by
     have:(c.args.map a.eval)=(c.args.toList.map a.eval).toArray:=by rw[<-Array.toList_map]
     rw[this,e2,List.map_cons,List.map_nil,h3]
    simp[execOp,hop,resolve,hb,ha,invoke,builtin,Builtin.len_,ht,run_underlying hu,goInt]
   split at he
   ·rename_i e k off n cp h1 h2
    obtain rfl:=Option.some.inj he
    exact⟨trivial,fun u _ _=>by
     have:=key e (.slc k off n cp) _ n cp h1 h2 rfl u
     unfold execOp at this
     rw[this]
     exact⟨rfl,rfl⟩⟩
   ·rename_i e A n cp h1 h2
    obtain rfl:=Option.some.inj he
    exact⟨trivial,fun u _ _=>by
     have:=key e (.val (.slice A n cp)) A n cp h1 h2 rfl u
     unfold execOp at this
     rw[this]
     exact⟨rfl,rfl⟩⟩
   ·cases he
  ·cases he
 ·cases he
end
end Sx
namespace Sx
open Go Go.RowKit Reg Limb Fp2
abbrev Ob:=Prop
def Holds:List Ob->Prop
 |[]=>True
 |o :: r=>o/\Holds r
def qb:Bool->Prop->Prop
 |true,p=>p
 |false,p=>¬p
theorem qb_dec {b:Bool}{p:Prop}[Decidable p](h:qb b p):decide p=b:=by
 cases b
 ·exact decide_eq_false h
 ·exact decide_eq_true h
theorem holds_app:∀{a b:List Ob},Holds (a++b)->Holds a/\Holds b
 |[],_,h=>⟨trivial,h⟩
 |_ :: _,_,h=>⟨⟨h.1,(holds_app h.2).1⟩,(holds_app h.2).2⟩
inductive Ek where
 |nrm
 |ret
 |ext (id:Nat)
abbrev O1:=List AV×List Bk×List Bool×Ek
abbrev Out:=List O1×List Ob
abbrev Ev:=List AV->List Bk->List Bool->Option Out
abbrev Ent2:=(Option Addr->Nat->List Int->Prop)->(Option Addr->Row->Prop)->(Nat->Option Bk)->List AV->Option (AV×List Ob)
abbrev Ent3:=Nat->(Nat->Option Bk)->List AV->Option (AV×Bk×List Ob)
abbrev Ent4:=Nat->List AV->List Bk->List Bool->Option (AV×List Bk×List Bool×List Ob)
structure Cx where
 E:List (TypeId×Nat)
 T:Tbl
 T2:List (FuncId×Ent2)
 T3:List (FuncId×Ent3)
 sy:Bool
 D:Option Addr->Nat->List Int->Prop
 H:List (Nat×Ev)
 Gl:List (Nat×Row)
 sg:Bool
 EM:List (TypeId×Nat)
 R:Option Addr->Row->Prop
 T4:List (FuncId×Ent4)
abbrev Cx.of (E:List (TypeId×Nat))(T:Tbl):Cx:=⟨E,T,[],[],false,fun _ _ _=>False,[],[],false,[],fun _ _=>False,[]⟩
abbrev ROk (G:World->Prop)(R:Option Addr->Row->Prop):Prop:=∀A r,R A r->Ok r/\(r=[]∨∃b o,A=some ⟨b,o,none⟩/\∀u,G u->∀j v,(den r)[j]? = some v->u.cell? ⟨b,o+j,none⟩=some v)
theorem ROk.at_ {G:World->Prop}{R:Option Addr->Row->Prop}(h:ROk G R){A:Option Addr}{r:Row}(hr:R A r/\0<sz r):Ok r/\∃b o,A=some ⟨b,o,none⟩/\∀u,G u->∀j v,(den r)[j]? = some v->u.cell? ⟨b,o+j,none⟩=some v:=
 ⟨(h A r hr.1).1,(h A r hr.1).2.resolve_left (by rintro rfl;exact absurd hr.2 (by simp[sz]))⟩
def lookG:List (Nat×Row)->Nat->Option Row
 |[],_=>none
 |(n,r) :: l,g=>if n=g then some r else lookG l g
abbrev GlOk (G:World->Prop)(l:List (Nat×Row)):Prop:=∀n r,lookG l n=some r->Ok r/\∀u,G u->∃t,Has u n t (den r).toArray
def EqT (P:Program):List (TypeId×Nat)->Prop
 |[]=>True
 |(t,n) :: r=>(EqOK P 10000 t n/\P.eqGuardType P.depth t=false)/\EqT P r
def EqOB (P:Program)(d:Nat)(t:TypeId)(n:Nat):Prop:=∀(w:World) (xs ys:List Int) (b c:Bool),xs.length=n->ys.length=n->(Op.equalIn d t (.agg (vals .u64 xs ++ #[.bool b])) (.agg (vals .u64 ys ++ #[.bool c]))).run P w=.ok (decide (xs=ys/\b=c)) w
def EqTM (P:Program):List (TypeId×Nat)->Prop
 |[]=>True
 |(t,n) :: r=>(EqOB P 10000 t n/\P.eqGuardType P.depth t=false)/\EqTM P r
def eqn:List (TypeId×Nat)->TypeId->Option Nat
 |[],_=>none
 |(t,n) :: r,u=>if t=u then some n else eqn r u
theorem eqn_ok {P:Program}:∀{E:List (TypeId×Nat)} {t n},EqT P E->eqn E t=some n->EqOK P 10000 t n/\P.eqGuardType P.depth t=false
 |[],_,_,_,h=>by cases h
 |(t,n) :: r,u,m,hE,h=>by
  unfold eqn at h
  split at h
  ·rename_i he
   subst he
   obtain rfl:=Option.some.inj h
   exact hE.1
  ·exact eqn_ok hE.2 h
theorem eqnM_ok {P:Program}:∀{E:List (TypeId×Nat)} {t n},EqTM P E->eqn E t=some n->EqOB P 10000 t n/\P.eqGuardType P.depth t=false
 |[],_,_,_,h=>by cases h
 |(t,n) :: r,u,m,hE,h=>by
  unfold eqn at h
  split at h
  ·rename_i he
   subst he
   obtain rfl:=Option.some.inj h
   exact hE.1
  ·exact eqnM_ok hE.2 h
abbrev DOk (G:World->Prop)(D:Option Addr->Nat->List Int->Prop):Prop:=∀A N l,D A N l->Words l/\∃B,∀u,G u->B<=u.heap.size/\Rd u B A N .u64 l
structure EOk2 (P:Program) (G:World->Prop) (F:FuncId) (e:Ent2):Prop where
 enter:∀args w,(callFunc F args).run P w=.ok (.enter F args) w
 ok:∀(G':World->Prop) D R bl args v ps (gs:List Nat),(∀u,G' u->G u)->DOk G' D->ROk G' R->e D R bl args=some (v,ps)->Holds ps->(∀a∈args,a.Ok gs.length) ->
  ∀w,G' w->BOk gs bl w->v.Ok gs.length/\Calls P F (args.map (AV.den gs)).toArray w fun e w'=>e=.returned (v.den gs)/\Below w.heap.size w w'
def TOk2 (P:Program)(G:World->Prop):List (FuncId×Ent2)->Prop
 |[]=>True
 |(F,e) :: T=>EOk2 P G F e/\TOk2 P G T
def look2:List (FuncId×Ent2)->FuncId->Option Ent2
 |[],_=>none
 |(F,e) :: T,f=>if F=f then some e else look2 T f
theorem look2_ok {P:Program}{G:World->Prop}:∀{T:List (FuncId×Ent2)} {F:FuncId} {e:Ent2},TOk2 P G T->look2 T F=some e->EOk2 P G F e
 |[],_,_,_,h=>by cases h
 |(F',e') :: T,F,e,hT,h=>by
  unfold look2 at h
  split at h
  ·rename_i hf
   subst hf
   obtain rfl:=Option.some.inj h
   exact hT.1
  ·exact look2_ok hT.2 h
structure EOk3 (P:Program) (G:World->Prop) (F:FuncId) (e:Ent3):Prop where
 enter:∀args w,(callFunc F args).run P w=.ok (.enter F args) w
 ok:∀bl args v t r ps (gs:List Nat),e gs.length bl args=some (v,(t,r),ps)->Holds ps->(∀a∈args,a.Ok gs.length)->∀w,G w->BOk gs bl w ->
  Ok r/\v.Ok (gs.length+1)/\Calls P F (args.map (AV.den gs)).toArray w fun e w'=>∃g,w.heap.size<=g/\Has w' g t (den r).toArray/\e=.returned (v.den (gs++[g]))/\Below w.heap.size w w'
def TOk3 (P:Program)(G:World->Prop):List (FuncId×Ent3)->Prop
 |[]=>True
 |(F,e) :: T=>EOk3 P G F e/\TOk3 P G T
def look3:List (FuncId×Ent3)->FuncId->Option Ent3
 |[],_=>none
 |(F,e) :: T,f=>if F=f then some e else look3 T f
theorem look3_ok {P:Program}{G:World->Prop}:∀{T:List (FuncId×Ent3)} {F:FuncId} {e:Ent3},TOk3 P G T->look3 T F=some e->EOk3 P G F e
 |[],_,_,_,h=>by cases h
 |(F',e') :: T,F,e,hT,h=>by
  unfold look3 at h
  split at h
  ·rename_i hf
   subst hf
   obtain rfl:=Option.some.inj h
   exact hT.1
  ·exact look3_ok hT.2 h
def call3 (C:Cx)(c:Call):Option Ent3:=match c.callee with
 |.value (.func F)=>look3 C.T3 F
 |_=>none
structure Wd (S:Nat) (w:World) (m:Nat) (gs:List Nat) (bs:List Bk) (x:World):Prop where
 bel:RowKit.Below S w x
 sz:S<=x.heap.size
 len:gs.length=bs.length
 has:∀k t r,bs[k]? = some (t,r)->Has x (gs.getD k 0) t (denB gs r).toArray/\OkB gs.length r
 lo:∀k,m<=k->k<gs.length->S<=gs.getD k 0
 nd:∀j k,j<gs.length->k<gs.length->m<=j->k≠j->gs.getD k 0≠gs.getD j 0
structure EOk4 (P:Program) (G:World->Prop) (F:FuncId) (e:Ent4):Prop where
 enter:∀args w,(callFunc F args).run P w=.ok (.enter F args) w
 ok:∀{S m:Nat} {w x:World} {gs:List Nat} {bs:List Bk} {args:List AV} {q:List Bool} {v:AV} {bs1:List Bk} {q1:List Bool} {ps:List Ob},e m args bs q=some (v,bs1,q1,ps)->Holds ps->(∀a∈args,a.Ok gs.length)->(∀u,RowKit.Below S w u->G u)->m<=gs.length->Wd S w m gs bs x ->
  Calls P F (args.map (AV.den gs)).toArray x fun r x'=>∃g',Wd S w m (gs++g') bs1 x'/\(∀n,v.Ok n)/\(∀gs',v.den gs'=v.den gs)/\r=.returned (v.den gs)
def TOk4 (P:Program)(G:World->Prop):List (FuncId×Ent4)->Prop
 |[]=>True
 |(F,e) :: T=>EOk4 P G F e/\TOk4 P G T
def look4:List (FuncId×Ent4)->FuncId->Option Ent4
 |[],_=>none
 |(F,e) :: T,f=>if F=f then some e else look4 T f
theorem look4_ok {P:Program}{G:World->Prop}:∀{T:List (FuncId×Ent4)} {F:FuncId} {e:Ent4},TOk4 P G T->look4 T F=some e->EOk4 P G F e
 |[],_,_,_,h=>by cases h
 |(F',e') :: T,F,e,hT,h=>by
  unfold look4 at h
  split at h
  ·rename_i hf
   subst hf
   obtain rfl:=Option.some.inj h
   exact hT.1
  ·exact look4_ok hT.2 h
def call4 (C:Cx)(sl:List AV)(c:Call):Option (Ent4×FuncId×List Nat):=match c.callee with
 |.value g=>match ev sl g with
  |some (.fn F caps)=>match look4 C.T4 F with
   |some e=>some (e,F,caps)
   |none=>none
  |_=>none
 |_=>none
theorem call4_ok {C:Cx}{sl:List AV}{c:Call}{e:Ent4}{F:FuncId}{caps:List Nat}(h:call4 C sl c=some (e,F,caps)):∃g,c.callee=.value g/\ev sl g=some (.fn F caps)/\look4 C.T4 F=some e:=by
 unfold call4 at h
 split at h
 ·rename_i g hg
  split at h
  ·rename_i F' caps' h1
   split at h
   ·rename_i e' h2
    injection h with h
    injection h with e1 e2
    injection e2 with e2 e3
    subst e1 e2 e3
    exact⟨g,hg,h1,h2⟩
   ·cases h
  ·cases h
 ·cases h
structure CxB (P:Program) (C:Cx) (G:World->Prop):Prop where
 T:TOk P G C.T
 T2:TOk2 P G C.T2
 T3:TOk3 P G C.T3
 E:EqT P C.E
 mix:P.follows .mixedOrders=true
 D:DOk G C.D
 gl:GlOk G C.Gl
 EM:EqTM P C.EM
 R:ROk G C.R
 T4:TOk4 P G C.T4
def wantA (ops:Array Oper)(sl:List AV)(o:Oper):Option Bool:=
 match o.guard with
 |none=>some true
 |some (j,b)=>match (ops[j]?).bind (·.dst) with
  |some d=>match sl[d]? with
   |some (.val (.bool c))=>some (c==b)
   |some (.val (.tuple _))=>some false
   |_=>none
  |none=>none
def sidesOf (E:List (TypeId×Nat))(sl:List AV)(t:TypeId)(x y:Operand):Option (List Int×List Int):=
 match eqn E t,ev sl x,ev sl y with
 |some n,some (.agg r),some (.agg s)=>match mg r,mg s with
  |some (k,xs),some (m,ys)=>if k=n/\m=n then some (xs,ys) else none
  |_,_=>none
 |_,_,_=>none
def mgbo:Nat->List Int->Row->Option (Nat×List Int×Bool)
 |n,xs,.nums m ys :: r=>mgbo (n+m) (xs++ys) r
 |n,xs,[.one (.bool b)]=>some (n,xs,b)
 |n,xs,[.nm (.bl b)]=>some (n,xs,b)
 |_,_,_=>none
def mgb:Row->Option (Nat×List Int×Bool)
 |.nums n xs :: r=>mgbo n xs r
 |_=>none
theorem mgbo_ok:∀{r:Row} {n m:Nat} {xs ys:List Int} {b:Bool},Nm n xs->Ok r->mgbo n xs r=some (m,ys,b)->Nm m ys/\xs.map (Value.int .u64)++den r=ys.map (.int .u64)++[.bool b]
 |[],n,m,xs,ys,b,hx,_,h=>by cases h
 |.nums k zs :: r,n,m,xs,ys,b,hx,hr,h=>by
  unfold mgbo at h
  obtain⟨h1,h2⟩:=mgbo_ok (hx.app hr.1) hr.2 h
  exact⟨h1,by rw[<-h2,den,Sg.den,List.map_append,List.append_assoc]⟩
 |.one v :: r,n,m,xs,ys,b,hx,hr,h=>by
  unfold mgbo at h
  split at h
  ·rename_i heq
   cases heq
  ·rename_i heq
   injection heq with h1 h2
   injection h1 with h1
   subst h1 h2
   injection h with h
   injection h with e1 e2
   injection e2 with e2 e3
   subst e1 e2 e3
   exact⟨hx,rfl⟩
  ·rename_i heq
   injection heq with h1 h2
   cases h1
  ·cases h
 |.nm v :: r,n,m,xs,ys,b,hx,hr,h=>by
  unfold mgbo at h
  split at h
  ·rename_i heq
   cases heq
  ·rename_i heq
   injection heq with h1 h2
   cases h1
  ·rename_i heq
   injection heq with h1 h2
   injection h1 with h1
   subst h1 h2
   injection h with h
   injection h with e1 e2
   injection e2 with e2 e3
   subst e1 e2 e3
   exact⟨hx,rfl⟩
  ·cases h
theorem mgb_ok {r:Row}{m:Nat}{ys:List Int}{b:Bool}(hr:Ok r)(h:mgb r=some (m,ys,b)):Nm m ys/\den r=ys.map (.int .u64)++[.bool b]:=by
 unfold mgb at h
 split at h
 ·obtain⟨h1,h2⟩:=mgbo_ok hr.1 hr.2 h
  exact⟨h1,by rw[<-h2];rfl⟩
 ·cases h
def sidesM (E:List (TypeId×Nat))(sl:List AV)(t:TypeId)(x y:Operand):Option (List Int×Bool×List Int×Bool):=
 match eqn E t,ev sl x,ev sl y with
 |some n,some (.agg r),some (.agg s)=>match mgb r,mgb s with
  |some (k,xs,b),some (m,ys,c)=>if k=n/\m=n then some (xs,b,ys,c) else none
  |_,_=>none
 |_,_,_=>none
abbrev RR:=AV×List Bool×List Ob
def numOf:AV->Option (IntKind×Int)
 |.val (.int k x)=>some (k,x)
 |.num k x=>some (k,x)
 |_=>none
def arith (op:BinOp)(k:IntKind)(a:Int)(k':IntKind)(b:Int)(q:List Bool):Option RR:=
 match op with
 |.shr=>some (.num k (a/2^b.toNat),q,[0<=b/\b<k.bits,rng k (a/2^b.toNat)])
 |.shl=>some (.num k (k.wrap (a*2^b.toNat)),q,[0<=b/\b<k.bits])
 |op=>if k=k' then (match op with
  |.add=>if k.signed then some (.num k (a+b),q,[k.wrap (a+b)=a+b]) else some (.num k (k.wrap (a+b)),q,[])
  |.sub=>if k.signed then some (.num k (a-b),q,[k.wrap (a-b)=a-b]) else some (.num k (k.wrap (a-b)),q,[])
  |.mul=>if k.signed then some (.num k (a*b),q,[k.wrap (a*b)=a*b]) else some (.num k (k.wrap (a*b)),q,[])
  |.quo=>some (.num k (a/b),q,[0<=a/\0<b,k.wrap (a/b)=a/b])
  |.rem=>some (.num k (a%b),q,[0<=a/\0<b,rng k (a%b)])
  |.and=>some (.num k (bits .and k a b),q,[rng k (bits .and k a b)])
  |.or=>some (.num k (bits .or k a b),q,[rng k (bits .or k a b)])
  |.xor=>some (.num k (bits .xor k a b),q,[rng k (bits .xor k a b)])
  |.eql=>match q with
   |c :: q'=>some (.val (.bool c),q',[qb c (a=b)])
   |[]=>none
  |.neq=>match q with
   |c :: q'=>some (.val (.bool (!c)),q',[qb c (a=b)])
   |[]=>none
  |.lss=>match q with
   |c :: q'=>some (.val (.bool c),q',[qb c (a<b)])
   |[]=>none
  |.leq=>match q with
   |c :: q'=>some (.val (.bool c),q',[qb c (a<=b)])
   |[]=>none
  |.gtr=>match q with
   |c :: q'=>some (.val (.bool c),q',[qb c (b<a)])
   |[]=>none
  |.geq=>match q with
   |c :: q'=>some (.val (.bool c),q',[qb c (b<=a)])
   |[]=>none
  |_=>none) else none
def arithT (op:BinOp)(k:IntKind)(a:Int)(k':IntKind)(b:Int)(q:List Bool):Option RR:=
 match op with
 |.quo=>if k=k' then some (.num k (a.tdiv b),q,[b≠0,k.wrap (a.tdiv b)=a.tdiv b]) else none
 |.rem=>if k=k' then some (.num k (a.tmod b),q,[b≠0,rng k (a.tmod b)]) else none
 |_=>none
def celn:Row->Nat->Option Int
 |[],_=>none
 |s :: ss,off=>if s.size<=off then celn ss (off-s.size) else match s with
  |.nums _ xs=>some (nth xs off)
  |.one _=>none
  |.nm _=>none
theorem celn_ok:∀{r:Row} {off:Nat} {x:Int},Ok r->celn r off=some x->cel r off=some (.int .u64 x)/\rng .u64 x
 |[],_,_,_,h=>by cases h
 |s :: ss,off,x,ho,h=>by
  unfold celn at h
  unfold cel
  split at h
  ·rename_i hs
   rw[if_pos hs]
   exact celn_ok ho.2 h
  ·rename_i hs
   rw[if_neg hs]
   cases s with
   |nums n xs=>
    obtain rfl:=Option.some.inj h
    have hx:Nm n xs:=ho.1
    have:=hx.words off
    exact⟨rfl,this.1,by show nth xs off<_;omega⟩
   |one v=>cases h
   |nm v=>cases h
def symL (P:Program)(bl:Nat->Option Bk)(sl:List AV):Op->Option AV
 |.load t x=>match ev sl x,P.underlying t with
  |some (.ptr k off),some (.int .u64)=>match bl k with
   |some (_,r)=>(celn r off).map (.num .u64)
   |none=>none
  |_,_=>none
 |_=>none
def ldr (d:TypeDesc)(r:Row)(off n:Nat):Option AV:=
 if d.isRow then (part r off n).map .agg else match cel r off with
  |some v=>some (.val v)
  |none=>(celm r off).map NV.av
theorem ldr_ok {P:Program}{d:TypeDesc}{i:TypeInfo}{ty b o off:Nat}{r:Row}{v:AV}{u:World}{gs:List Nat}(hu:P.underlying ty=some d)(hi:P.info? ty=some i)(ho:Ok r)(hc:∀j v,(den r)[j]? = some v->u.cell? ⟨b,o+j,none⟩=some v)(he:ldr d r off i.size=some v):(∀m,v.Ok m)/\(loadVar ty ⟨b,o+off,none⟩).run P u=.ok (v.den gs) u:=by
 unfold ldr at he
 split at he
 ·rename_i hd
  obtain⟨out,hp,rfl⟩:=Option.map_eq_some_iff.1 he
  obtain⟨e1,o1,z1⟩:=part_ok ho hp
  refine⟨fun m=>o1,?_⟩
  exact run_loadVar_mid (P:=P) u b (o+off) ty (den out) d (fun j w hv=>by
   rw[<-e1,List.getElem?_take] at hv
   split at hv
   ·rw[List.getElem?_drop] at hv
    rw[Nat.add_assoc]
    exact hc _ _ hv
   ·cases hv) hu hd (by rw[hi,den_len o1,z1];rfl)
 ·rename_i hd
  have hagg:(isAgg ty).run P u=.ok false u:=by
   unfold isAgg
   rw[Sem.run_bind,run_underlying hu u]
   cases d<;>first|rfl|(simp[TypeDesc.isRow] at hd)
  split at he
  ·rename_i w hw
   obtain rfl:=Option.some.inj he
   have hcell:=hc off _ (cel_ok ho hw)
   exact⟨fun _=>trivial,by simp[loadVar,Sem.run_bind,hagg,hcell,AV.den]⟩
  ·obtain⟨nv,hn,rfl⟩:=Option.map_eq_some_iff.1 he
   obtain⟨h1,h2⟩:=celm_ok ho hn
   have hcell:=hc off _ h1
   exact⟨fun m=>NV.av_ok h2 m,by rw[NV.av_den];simp[loadVar,Sem.run_bind,hagg,hcell]⟩
def ldw (d:TypeDesc)(s off n:Nat)(xs:List Int)(q:List Bool)(l:List Ob):Option RR:=
 if d.isRow then some (.agg [.nums s (seg off s xs)],q,(off+s<=n) :: l)
 else match d with
  |.int .u64=>some (.num .u64 (nth xs off),q,(off<n) :: l)
  |_=>none
def symV (P:Program)(C:Cx)(bl:Nat->Option Bk)(sl:List AV)(q:List Bool):Op->Option RR
 |.binOp op _ x y _=>match (ev sl x).bind numOf,(ev sl y).bind numOf with
  |some (k,a),some (k',b)=>match (if C.sg then arithT op k a k' b q else none) with
   |some r=>some r
   |none=>arith op k a k' b q
  |_,_=>none
 |.unOp .neg _ x=>match (ev sl x).bind numOf with
  |some (k,a)=>some (.num k (-a),q,[k.wrap (-a)=-a])
  |none=>none
 |.convert src dst x=>match (ev sl x).bind numOf,P.underlying src,P.underlying dst with
  |some (_,a),some (.int _),some (.int k)=>some (.num k a,q,[k.wrap a=a,rng k a])
  |_,_,_=>none
 |.slice t x none none none=>match ev sl x,P.underlying t with
  |some (.ptr k off),some (.array n e)=>match P.info? e with
   |some _=>some (.slc k off n n,q,[])
   |none=>none
  |_,_=>none
 |.indexAddr t x ix=>match ev sl x,(ev sl ix).bind numOf,P.underlying t with
  |some (.ptr k off),some (_,i),some (.array len e)=>match P.info? e with
   |some ie=>some (.ptrS k (off+i.toNat*ie.size),q,[0<=i/\i<len])
   |none=>none
  |some (.ptrS k off),some (_,i),some (.array len e)=>match P.info? e with
   |some ie=>some (.ptrS k (off+i.toNat*ie.size),q,[0<=i/\i<len])
   |none=>none
  |some (.slc k off n _),some (_,i),some (.slice e)=>match P.info? e with
   |some ie=>some (.ptrS k (off+i.toNat*ie.size),q,[0<=i/\i<n])
   |none=>none
  |some (.ext A n _ l),some (_,i),some (.slice e)=>match P.info? e with
   |some ie=>some (.extp A (i.toNat*ie.size) (n*ie.size) l,q,[0<=i/\i<n,C.D A (n*ie.size) l/\0<ie.size])
   |none=>none
  |some (.xr A n _ r),some (_,i),some (.slice e)=>match P.info? e with
   |some ie=>some (.xp A (i.toNat*ie.size) r,q,[0<=i/\i<n,C.R A r/\0<sz r])
   |none=>none
  |_,_,_=>none
 |.fieldAddr t x f=>match ev sl x,P.underlying t with
  |some (.ptrS k off),some (.struct fields)=>match fields[f]? with
   |some fd=>match P.info? fd.type with
    |some i=>if i.size=0 then none else some (.ptrS k (off+fd.offset),q,[])
    |none=>none
   |none=>none
  |some (.xp A off r),some (.struct fields)=>match fields[f]? with
   |some fd=>match P.info? fd.type with
    |some i=>if i.size=0 then none else some (.xp A (off+fd.offset) r,q,[C.R A r/\0<sz r])
    |none=>none
   |none=>none
  |_,_=>none
 |.load t x=>match ev sl x,P.underlying t,P.info? t with
  |some (.ptr k off),some d,some _=>match bl k with
   |some (_,r)=>if d.isRow then none else match celm r off with
    |some v=>some (v.av,q,[])
    |none=>none
   |none=>none
  |some (.ptrS k off),some d,some i=>match bl k with
   |some (_,r)=>match mg r with
    |some (n,xs)=>ldw d i.size off n xs q []
    |none=>none
   |none=>none
  |some (.extp A off N l),some d,some i=>ldw d i.size off N l q [C.D A N l/\0<N]
  |some (.xp A off r),some d,some i=>match ldr d r off i.size with
   |some v=>some (v,q,[C.R A r/\0<sz r])
   |none=>none
  |_,_,_=>none
 |.call c=>match c.callee with
  |.builtin .len=>match c.argTypes[0]?.bind P.underlying,evs sl c.args.toList with
   |some (.slice _),some [.ext _ n _ _]=>some (.num .i64 n,q,[])
   |some (.slice _),some [.xr _ n _ _]=>some (.num .i64 n,q,[])
   |_,_=>none
  |.value g=>match ev sl g,evs sl c.args.toList with
   |some (.val (.func (.func F) first caps)),some vs=>if first.size=0/\caps.size=0 then (match look2 C.T2 F with
    |some e=>match e C.D C.R bl vs with
     |some (v,ps)=>some (v,q,ps)
     |none=>none
    |none=>none) else none
   |some (.fn F caps),some vs=>match look2 C.T2 F with
    |some e=>match e C.D C.R bl (vs++caps.map (.ptr · 0)) with
     |some (v,ps)=>some (v,q,ps)
     |none=>none
    |none=>none
   |_,_=>none
  |_=>none
 |_=>none
def gload (P:Program)(C:Cx)(sl:List AV):Op->Option AV
 |.load t x=>match ev sl x,P.underlying t,P.info? t with
  |some (.val (.pointer (some ⟨g,off,none⟩))),some d,some i=>match lookG C.Gl g with
   |some r=>if d.isRow then (part r off i.size).map .agg else (cel r off).map .val
   |none=>none
  |_,_,_=>none
 |_=>none
def stepR0 (P:Program)(C:Cx)(ops:Array Oper)(bl:Nat->Option Bk)(sl:List AV)(q:List Bool)(o:Oper):Option RR:=
 match wantA ops sl o with
 |none=>none
 |some false=>some (.val undef,q,[])
 |some true=>match gload P C sl o.op with
  |some v=>some (v,q,[])
  |none=>match (if C.sy then symL P bl sl o.op else none) with
  |some v=>some (v,q,[])
  |none=>match evalV P C.T bl sl o.op with
  |some v=>some (v,q,[])
  |none=>match (if C.sy then symV P C bl sl q o.op else none) with
  |some r=>some r
  |none=>match o.op with
  |.binOp .eql t x y _=>match sidesOf C.E sl t x y,q with
   |some (xs,ys),b :: q'=>some (.val (.bool b),q',[qb b (xs=ys)])
   |_,_=>match sidesM C.EM sl t x y,q with
    |some (xs,i,ys,j),b :: q'=>some (.val (.bool b),q',[qb b (xs=ys/\i=j)])
    |_,_=>none
  |.binOp .neq t x y _=>match sidesOf C.E sl t x y,q with
   |some (xs,ys),b :: q'=>some (.val (.bool (!b)),q',[qb b (xs=ys)])
   |_,_=>match sidesM C.EM sl t x y,q with
    |some (xs,i,ys,j),b :: q'=>some (.val (.bool (!b)),q',[qb b (xs=ys/\i=j)])
    |_,_=>none
  |_=>none
def resol:Option RR->Option RR
 |some (.bl b,c :: q,o)=>some (.val (.bool c),q,o++[b=c])
 |r=>r
def stepR (P:Program)(C:Cx)(ops:Array Oper)(bl:Nat->Option Bk)(sl:List AV)(q:List Bool)(o:Oper):Option RR:=resol (stepR0 P C ops bl sl q o)
def putA (sl:List AV)(d:Option Tmp)(v:AV):List AV:=match d with
 |none=>sl
 |some d=>sl.set d v
def rds (P:Program)(C:Cx)(ops:Array Oper)(bl:Nat->Option Bk):List Oper->List AV->List Bool->Option (List AV×List Bool×List Ob)
 |[],sl,q=>some (sl,q,[])
 |o :: l,sl,q=>match stepR P C ops bl sl q o with
  |none=>none
  |some (v,q1,o1)=>match rds P C ops bl l (putA sl o.dst v) q1 with
   |none=>none
   |some (sl2,q2,o2)=>some (sl2,q2,o1++o2)
section
variable {P:Program} {C:Cx} {G:World->Prop} {gs:List Nat} {sl:List AV} {a:Act} {bl:Nat->Option Bk} {u:World} {ops:Array Oper} {S:World->Prop}
theorem sl_put {d:Option Tmp}{v:AV}(h:Sl gs sl a):Sl gs (putA sl d v) (a.put d (v.den gs)):=by
 cases d with
 |none=>exact h
 |some d=>
  refine⟨by simp[Act.put,putA,h.1],fun i u hi hu=>?_⟩
  simp only[Act.put,putA] at hi ⊢
  rw[List.getElem?_set] at hi
  rw[Array.getElem?_setIfInBounds]
  split at hi
  ·rename_i hd
   subst hd
   split at hi
   ·rename_i hl
    obtain rfl:=Option.some.inj hi
    rw[if_pos rfl,if_pos (by rw[h.1];exact hl)]
   ·cases hi
  ·rename_i hd
   rw[if_neg hd]
   exact h.2 i u hi hu
theorem sok_put {d:Option Tmp}{v:AV}{n:Nat}(h:SOk n sl)(hv:v.Ok n):SOk n (putA sl d v):=by
 cases d with
 |none=>exact h
 |some d=>
  intro x hx
  rcases List.mem_or_eq_of_mem_set hx with hx|rfl
  ·exact h x hx
  ·exact hv
theorem want_ok (h:Sl gs sl a){o:Oper}{b:Bool}(hw:wantA ops sl o=some b):Region.wanted o (yielded ops a.tmps)=b:=by
 unfold wantA at hw
 unfold Region.wanted
 split at hw
 ·rename_i hg
  obtain rfl:=Option.some.inj hw
  rw[hg]
 ·rename_i j w hg
  rw[hg]
  split at hw
  ·rename_i d hd
   have ht:∀v,sl[d]? = some v->v≠.unk->a.tmps[d]? = some (v.den gs):=fun v hv hu=>h.2 d v hv hu
   split at hw
   ·rename_i c hc
    obtain rfl:=Option.some.inj hw
    simp[yielded,hd,ht _ hc (by simp),AV.den]
   ·rename_i c hc
    obtain rfl:=Option.some.inj hw
    simp[yielded,hd,ht _ hc (by simp),AV.den]
   ·cases hw
  ·cases hw
theorem eql_at {P:Program}{a:Act}{o:Oper}{t r:TypeId}{x y:Operand}{xs ys:List Int}{n:Nat}{b:Bool}(ho:o.op=.binOp .eql t x y r)(hx:a.eval x=.agg (vals .u64 xs))(hy:a.eval y=.agg (vals .u64 ys))(hE:EqOK P 10000 t n)(hg:P.eqGuardType P.depth t=false)
  (hl:xs.length=n) (hl':ys.length=n) (hb:decide (xs=ys)=b) (w:World):o.quietAt P a (fun z=>RowKit.Below w.heap.size w z) w (.bool b):=by
 have h:=hE w xs ys hl hl'
 rw[hb] at h
 unfold Oper.quietAt
 simp only[execOp,ho,hx,hy]
 go_simp<;>exact⟨rfl,rfl⟩
theorem neq_at {P:Program}{a:Act}{o:Oper}{t r:TypeId}{x y:Operand}{xs ys:List Int}{n:Nat}{b:Bool}(ho:o.op=.binOp .neq t x y r)(hx:a.eval x=.agg (vals .u64 xs))(hy:a.eval y=.agg (vals .u64 ys))(hE:EqOK P 10000 t n)(hg:P.eqGuardType P.depth t=false)
  (hl:xs.length=n) (hl':ys.length=n) (hb:decide (xs=ys)=b) (w:World):o.quietAt P a (fun z=>RowKit.Below w.heap.size w z) w (.bool (!b)):=by
 have h:=hE w xs ys hl hl'
 rw[hb] at h
 unfold Oper.quietAt
 simp only[execOp,ho,hx,hy]
 go_simp<;>exact⟨rfl,rfl⟩
theorem sides_ok {P:Program}{E:List (TypeId×Nat)}(hE:EqT P E)(h:Sl gs sl a)(ho:SOk gs.length sl){t:TypeId}{x y:Operand}{xs ys:List Int}(he:sidesOf E sl t x y=some (xs,ys)) :
  ∃n,a.eval x=.agg (vals .u64 xs)/\a.eval y=.agg (vals .u64 ys)/\EqOK P 10000 t n/\P.eqGuardType P.depth t=false/\xs.length=n/\ys.length=n:=by
 unfold sidesOf at he
 split at he
 ·rename_i n r s h1 h2 h3
  split at he
  ·rename_i k xs' m ys' h4 h5
   split at he
   ·rename_i hc
    obtain⟨e1,o1⟩:=ev_ok h ho h2
    obtain⟨e2,o2⟩:=ev_ok h ho h3
    obtain⟨n1,d1⟩:=mg_ok o1 h4
    obtain⟨n2,d2⟩:=mg_ok o2 h5
    obtain⟨g1,g2⟩:=eqn_ok hE h1
    injection he with he
    injection he with ea eb
    subst ea eb
    exact⟨n,by rw[e1,AV.den,d1];rfl,by rw[e2,AV.den,d2];rfl,g1,g2,by rw[n1.len,hc.1],by rw[n2.len,hc.2]⟩
   ·cases he
  ·cases he
 ·cases he
theorem numOf_den {v:AV}{k:IntKind}{x:Int}(h:numOf v=some (k,x)):v.den gs=.int k x:=by
 unfold numOf at h
 split at h
 ·injection h with h;injection h with e1 e2;subst e1 e2;rfl
 ·injection h with h;injection h with e1 e2;subst e1 e2;rfl
 ·cases h
theorem ev_num (h:Sl gs sl a)(ho:SOk gs.length sl){x:Operand}{k:IntKind}{n:Int}(he:(ev sl x).bind numOf=some (k,n)):a.eval x=.int k n:=by
 obtain⟨v,hv,hn⟩:=Option.bind_eq_some_iff.1 he
 rw[(ev_ok h ho hv).1,numOf_den hn]
theorem rng_wrap (k:IntKind)(x:Int):rng k (k.wrap x):=by
 cases k<;>first|trivial|(show 0<=IntKind.u64.wrap x/\IntKind.u64.wrap x<18446744073709551616;rw[IntKind.wrap_u64];omega)
theorem rng_of_wrap {k:IntKind}{x:Int}(h:k.wrap x=x):rng k x:=h▸rng_wrap k x
theorem arith_ok {op:BinOp}{k k':IntKind}{x y:Int}{q q1:List Bool}{v:AV}{o1:List Ob}(he:arith op k x k' y q=some (v,q1,o1))(hH:Holds o1)(t:TypeId)(p r:Operand)(w:World) :
    (∀n,v.Ok n)/\((do eqGuard op t p r (.int k x) (.int k' y);binOp op t (.int k x) (.int k' y)):Sem Value).run P w=.ok (v.den gs) w:=by
  have hg:∀op,(eqGuard op t p r (.int k x) (.int k' y)).run P w=.ok () w:=fun op=>by cases op<;>simp[eqGuard]
  rw[Sem.run_bind,hg,Result.andThen_ok]
  unfold arith at he
  split at he
  · injection he with he
    injection he with e1 e2
    injection e2 with e2 e3
    subst e1 e3
    obtain⟨⟨h1,h2⟩,h3,_⟩:=hH
    refine⟨fun n=>h3,?_⟩
    have e:min y.toNat k.bits=y.toNat:=by omega
    simp only[binOp,Op.shift,AV.den]
    rw[if_neg (by omega),e]
    show Result.ok (Value.int k (x.fdiv (2^y.toNat))) w=_
    rw[Int.fdiv_eq_ediv_of_nonneg _ (Int.le_of_lt (Int.pow_pos (by decide)))]
  · injection he with he
    injection he with e1 e2
    injection e2 with e2 e3
    subst e1 e3
    obtain⟨⟨h1,h2⟩,_⟩:=hH
    refine⟨fun n=>rng_wrap _ _,?_⟩
    have e:min y.toNat k.bits=y.toNat:=by omega
    simp only[binOp,Op.shift,AV.den]
    rw[if_neg (by omega),e]
    rfl
  · rename_i op' n1 n2
    split at he
    · rename_i hk
      subst hk
      have cmp:∀{c:Bool} {p:Prop} [Decidable p] {q':List Bool} {o:BinOp},qb c p->(∀n,(AV.val (.bool c)).Ok n)/\Result.ok (Value.bool (decide p)) w=Result.ok ((AV.val (.bool c)).den gs) w:=fun {c p _ q' o} h=>⟨fun _=>trivial,by rw[qb_dec h];rfl⟩
      split at he
      · split at he
        · injection he with he
          injection he with e1 e2
          injection e2 with e2 e3
          subst e1 e3
          exact⟨fun n=>rng_of_wrap hH.1,by simp[binOp,Op.intArith,AV.den,hH.1]⟩
        · injection he with he
          injection he with e1 e2
          injection e2 with e2 e3
          subst e1 e3
          exact⟨fun n=>rng_wrap _ _,by simp[binOp,Op.intArith,AV.den]⟩
      · split at he
        · injection he with he
          injection he with e1 e2
          injection e2 with e2 e3
          subst e1 e3
          exact⟨fun n=>rng_of_wrap hH.1,by simp[binOp,Op.intArith,AV.den,hH.1]⟩
        · injection he with he
          injection he with e1 e2
          injection e2 with e2 e3
          subst e1 e3
          exact⟨fun n=>rng_wrap _ _,by simp[binOp,Op.intArith,AV.den]⟩
      · split at he
        · injection he with he
          injection he with e1 e2
          injection e2 with e2 e3
          subst e1 e3
          exact⟨fun n=>rng_of_wrap hH.1,by simp[binOp,Op.intArith,AV.den,hH.1]⟩
        · injection he with he
          injection he with e1 e2
          injection e2 with e2 e3
          subst e1 e3
          exact⟨fun n=>rng_wrap _ _,by simp[binOp,Op.intArith,AV.den]⟩
      · injection he with he
        injection he with e1 e2
        injection e2 with e2 e3
        subst e1 e3
        obtain⟨⟨h1,h2⟩,h3,_⟩:=hH
        refine⟨fun n=>rng_of_wrap h3,?_⟩
        have e:x.tdiv y=x/y:=Int.tdiv_eq_ediv_of_nonneg h1
        simp[binOp,Op.intDiv,AV.den,e,h3,show y≠0 by omega]
      · injection he with he
        injection he with e1 e2
        injection e2 with e2 e3
        subst e1 e3
        obtain⟨⟨h1,h2⟩,h3,_⟩:=hH
        refine⟨fun n=>h3,?_⟩
        have e:x.tmod y=x%y:=Int.tmod_eq_emod_of_nonneg h1
        simp[binOp,Op.intDiv,AV.den,e,show y≠0 by omega]
      · injection he with he
        injection he with e1 e2
        injection e2 with e2 e3
        subst e1 e3
        exact⟨fun n=>hH.1,by simp only[binOp_and,intBits_and];rfl⟩
      · injection he with he
        injection he with e1 e2
        injection e2 with e2 e3
        subst e1 e3
        exact⟨fun n=>hH.1,by simp only[binOp_or,intBits_or];rfl⟩
      · injection he with he
        injection he with e1 e2
        injection e2 with e2 e3
        subst e1 e3
        exact⟨fun n=>hH.1,by simp only[binOp_xor,intBits_xor];rfl⟩
      all_goals first
        | cases he
        | (split at he
           · injection he with he
             injection he with e1 e2
             injection e2 with e2 e3
             subst e1 e3
             refine⟨fun n=>trivial,?_⟩
             have hq:=qb_dec hH.1
             simp[binOp,Op.intCmp,AV.den,<-hq,bne,BEq.beq]
           · cases he)
    · cases he
theorem arithT_ok {op:BinOp}{k k':IntKind}{x y:Int}{q q1:List Bool}{v:AV}{o1:List Ob}(he:arithT op k x k' y q=some (v,q1,o1))(hH:Holds o1)(t:TypeId)(p r:Operand)(w:World) :
  (∀n,v.Ok n)/\((do eqGuard op t p r (.int k x) (.int k' y);binOp op t (.int k x) (.int k' y)):Sem Value).run P w=.ok (v.den gs) w:=by
 have hg:∀op,(eqGuard op t p r (.int k x) (.int k' y)).run P w=.ok () w:=fun op=>by cases op<;>simp[eqGuard]
 rw[Sem.run_bind,hg,Result.andThen_ok]
 unfold arithT at he
 split at he
 ·split at he
  ·rename_i hk
   subst hk
   injection he with he
   injection he with e1 e2
   injection e2 with e2 e3
   subst e1 e3
   obtain⟨h1,h3,_⟩:=hH
   exact⟨fun n=>rng_of_wrap h3,by simp[binOp,Op.intDiv,AV.den,h3,h1]⟩
  ·cases he
 ·split at he
  ·rename_i hk
   subst hk
   injection he with he
   injection he with e1 e2
   injection e2 with e2 e3
   subst e1 e3
   obtain⟨h1,h3,_⟩:=hH
   exact⟨fun n=>h3,by simp[binOp,Op.intDiv,AV.den,h1]⟩
  ·cases he
 ·cases he
theorem symL_ok (h:Sl gs sl a)(ho:SOk gs.length sl){o:Oper}{v:AV}(h0:∃u,G u/\BOk gs bl u)(he:symL P bl sl o.op=some v) :
  v.Ok gs.length/\∀u,G u->BOk gs bl u->o.quietAt P a (fun z=>RowKit.Below u.heap.size u z) u (v.den gs):=by
 obtain⟨u0,hg0,hb0⟩:=h0
 unfold Oper.quietAt execOp
 unfold symL at he
 split at he
 ·rename_i t x hop
  split at he
  ·rename_i k off h1 h2
   split at he
   ·rename_i tt r h4
    obtain⟨e1,o1⟩:=ev_ok h ho h1
    obtain⟨n,hn,rfl⟩:=Option.map_eq_some_iff.1 he
    obtain⟨hc,hr⟩:=celn_ok (hb0 _ _ _ h4).2 hn
    refine⟨hr,fun u _ hB=>?_⟩
    have hl:=load_cel (hB _ _ _ h4).1 (hB _ _ _ h4).2 h2 rfl hc
    rw[List.getD_eq_getElem?_getD] at hl
    simp[hop,e1,AV.den,Instr.loadAt,Instr.sureAddr,hl,Oper.quietUpon]
   ·cases he
  ·cases he
 ·cases he
theorem ldw_ok {P:Program}{d:TypeDesc}{i:TypeInfo}{ty:TypeId}{b o off n:Nat}{xs:List Int}{q q1:List Bool}{l o1:List Ob}{v:AV}{u:World}(hu:P.underlying ty=some d)(hi:P.info? ty=some i)(hx:Nm n xs)(hc:∀j,j<n->u.cell? ⟨b,o+j,none⟩=some (.int .u64 (nth xs j)))
  (he:ldw d i.size off n xs q l=some (v,q1,o1)) (hH:Holds o1):Holds l/\(∀m,v.Ok m)/\(loadVar ty ⟨b,o+off,none⟩).run P u=.ok (v.den gs) u:=by
 unfold ldw at he
 split at he
 ·rename_i hd
  injection he with he
  injection he with e1 e2
  injection e2 with e2 e3
  subst e1 e3
  have hs:=hx.seg hH.1
  refine⟨hH.2,fun m=>⟨hs,trivial⟩,?_⟩
  have hl:=run_loadVar_mid (P:=P) u b (o+off) ty ((seg off i.size xs).map (.int .u64)) d (fun j w hv=>?_) hu hd (by rw[hi];simp[hs.len])
  ·rw[hl]
   simp[AV.den,den,Sg.den]
  ·have hj:j<i.size:=by
    have:=(List.getElem?_eq_some_iff.1 hv).1
    simpa [hs.len] using this
   have hle:off+i.size<=n:=hH.1
   rw[Nat.add_assoc,hc (off+j) (by omega)]
   rw[List.getElem?_map,seg,List.getElem?_take_of_lt hj,List.getElem?_drop] at hv
   obtain⟨y,hy,rfl⟩:=Option.map_eq_some_iff.1 hv
   simp[nth,hy]
 ·rename_i hd
  split at he
  ·injection he with he
   injection he with e1 e2
   injection e2 with e2 e3
   subst e1 e3
   have hw:=hx.words off
   refine⟨hH.2,fun m=>⟨hw.1,by omega⟩,?_⟩
   have hagg:(isAgg ty).run P u=.ok false u:=by
    unfold isAgg
    rw[Sem.run_bind,run_underlying hu u]
    rfl
   have hcell:=hc off hH.1
   simp[loadVar,Sem.run_bind,hagg,hcell,AV.den]
  ·cases he
theorem symV_ok (hC:CxB P C G)(h:Sl gs sl a)(ho:SOk gs.length sl){q q1:List Bool}{o:Oper}{v:AV}{o1:List Ob}(h0:∃u,G u/\BOk gs bl u)(he:symV P C bl sl q o.op=some (v,q1,o1))(hH:Holds o1) :
  v.Ok gs.length/\∀u,G u->BOk gs bl u->o.quietAt P a (fun z=>RowKit.Below u.heap.size u z) u (v.den gs):=by
 obtain⟨u0,hg0,hb0⟩:=h0
 unfold Oper.quietAt execOp
 unfold symV at he
 split at he
 ·rename_i op t x y r hop
  split at he
  ·rename_i k n k' n' h1 h2
   have e1:=ev_num h ho h1
   have e2:=ev_num h ho h2
   split at he
   ·rename_i r0 hr0
    obtain rfl:=Option.some.inj he
    split at hr0
    ·refine⟨(arithT_ok (P:=P) (gs:=gs) hr0 hH t x y u0).1 _,fun u _ _=>?_⟩
     have hr:=(arithT_ok (P:=P) (gs:=gs) hr0 hH t x y u).2
     simp only[hop,e1,e2]
     rw[Sem.run_bind,hr]
     simp[Oper.quietUpon]
    ·cases hr0
   refine⟨(arith_ok (P:=P) (gs:=gs) he hH t x y u0).1 _,fun u _ _=>?_⟩
   have hr:=(arith_ok (P:=P) (gs:=gs) he hH t x y u).2
   simp only[hop,e1,e2]
   rw[Sem.run_bind,hr]
   simp[Oper.quietUpon]
  ·cases he
 ·rename_i t x hop
  split at he
  ·rename_i k n h1
   have e1:=ev_num h ho h1
   injection he with he
   injection he with e3 e4
   injection e4 with e4 e5
   subst e3 e5
   refine⟨rng_of_wrap hH.1,fun u _ _=>?_⟩
   simp[hop,e1,AV.den,Op.unary,Op.intArith,hH.1,Oper.quietUpon]
  ·cases he
 ·rename_i src dst x hop
  split at he
  ·rename_i k0 n k1 k h1 h2 h3
   have e1:=ev_num h ho h1
   injection he with he
   injection he with e3 e4
   injection e4 with e4 e5
   subst e3 e5
   refine⟨hH.2.1,fun u _ _=>?_⟩
   have hc:(convert src dst (.int k0 n)).run P u=.ok (.int k n) u:=by
    simp[convert,run_underlying h2,run_underlying h3,Conv.intToInt,hH.1]
   simp[hop,e1,hc,AV.den,Oper.quietUpon]
  ·cases he
 ·rename_i t x hop
  split at he
  ·rename_i k off n e h1 h2
   split at he
   ·rename_i ie h4
    injection he with he
    injection he with e3 e4
    injection e4 with e4 e5
    subst e3 e5
    obtain⟨e1,p1⟩:=ev_ok h ho h1
    refine⟨p1,fun u _ _=>?_⟩
    have ha:∀A:Addr,A.add 0=A:=fun A=>by cases A;rfl
    simp[hop,e1,AV.den,Instr.sliceAt,Instr.sliceBounds,run_underlying h2,Instr.sureAddr,sizeOf,typeInfo,h4,Oper.quietUpon,ha]
   ·cases he
  ·cases he
 ·rename_i t x ix hop
  split at he
  ·rename_i k off kk i len e h1 h2 h3
   split at he
   ·rename_i ie h4
    injection he with he
    injection he with e3 e4
    injection e4 with e4 e5
    subst e3 e5
    obtain⟨e1,p1⟩:=ev_ok h ho h1
    have e2:=ev_num h ho h2
    refine⟨p1,fun u _ _=>?_⟩
    simp[hop,e1,e2,AV.den,Instr.indexAt,run_underlying h3,Instr.sureAddr,asIntOf,sizeOf,typeInfo,h4,hH.1,Oper.quietUpon,add_at]
   ·cases he
  ·rename_i k off kk i len e h1 h2 h3
   split at he
   ·rename_i ie h4
    injection he with he
    injection he with e3 e4
    injection e4 with e4 e5
    subst e3 e5
    obtain⟨e1,p1⟩:=ev_ok h ho h1
    have e2:=ev_num h ho h2
    refine⟨p1,fun u _ _=>?_⟩
    simp[hop,e1,e2,AV.den,Instr.indexAt,run_underlying h3,Instr.sureAddr,asIntOf,sizeOf,typeInfo,h4,hH.1,Oper.quietUpon,add_at]
   ·cases he
  ·rename_i k off n c kk i e h1 h2 h3
   split at he
   ·rename_i ie h4
    injection he with he
    injection he with e3 e4
    injection e4 with e4 e5
    subst e3 e5
    obtain⟨e1,p1⟩:=ev_ok h ho h1
    have e2:=ev_num h ho h2
    refine⟨p1,fun u _ _=>?_⟩
    simp[hop,e1,e2,AV.den,Instr.indexAt,run_underlying h3,asIntOf,sizeOf,typeInfo,h4,hH.1,Oper.quietUpon,add_at]
   ·cases he
  ·rename_i A n c l kk i e h1 h2 h3
   split at he
   ·rename_i ie h4
    injection he with he
    injection he with e3 e4
    injection e4 with e4 e5
    subst e3 e5
    obtain⟨e1,p1⟩:=ev_ok h ho h1
    have e2:=ev_num h ho h2
    obtain⟨hi,⟨hD,hs⟩,_⟩:=hH
    obtain⟨_,B,hB⟩:=hC.D _ _ _ hD
    obtain⟨b,o,rfl,_,_⟩:=(hB u0 hg0).2.at_ (Nat.mul_pos (by omega) hs)
    refine⟨trivial,fun u _ _=>?_⟩
    simp[hop,e1,e2,AV.den,Instr.indexAt,run_underlying h3,asIntOf,sizeOf,typeInfo,h4,hi,Oper.quietUpon,add_at]
   ·cases he
  ·rename_i A n c r kk i e h1 h2 h3
   split at he
   ·rename_i ie h4
    injection he with he
    injection he with e3 e4
    injection e4 with e4 e5
    subst e3 e5
    obtain⟨e1,p1⟩:=ev_ok h ho h1
    have e2:=ev_num h ho h2
    obtain⟨hi,hR,_⟩:=hH
    obtain⟨_,b,o,rfl,_⟩:=hC.R.at_ hR
    refine⟨trivial,fun u _ _=>?_⟩
    simp[hop,e1,e2,AV.den,Instr.indexAt,run_underlying h3,asIntOf,sizeOf,typeInfo,h4,hi,Oper.quietUpon,add_at]
   ·cases he
  ·cases he
 ·rename_i t x f hop
  split at he
  ·rename_i k off fields h1 h2
   split at he
   ·rename_i fd h3
    split at he
    ·rename_i i h4
     split at he
     ·cases he
     ·rename_i h5
      injection he with he
      injection he with e3 e4
      subst e3
      obtain⟨e1,p1⟩:=ev_ok h ho h1
      refine⟨p1,fun u _ _=>?_⟩
      simp[hop,e1,AV.den,Instr.fieldAt,run_underlying h2,h3,Instr.sureAddr,fieldPlace,sizeOf,typeInfo,h4,h5,Oper.quietUpon,add_at]
    ·cases he
   ·cases he
  ·rename_i A off r fields h1 h2
   split at he
   ·rename_i fd h3
    split at he
    ·rename_i i h4
     split at he
     ·cases he
     ·rename_i h5
      injection he with he
      injection he with e3 e4
      injection e4 with e4 e5
      subst e3 e5
      obtain⟨e1,p1⟩:=ev_ok h ho h1
      obtain⟨_,b,o,rfl,_⟩:=hC.R.at_ hH.1
      refine⟨trivial,fun u _ _=>?_⟩
      simp[hop,e1,AV.den,Instr.fieldAt,run_underlying h2,h3,Instr.sureAddr,fieldPlace,sizeOf,typeInfo,h4,h5,Oper.quietUpon,add_at,Nat.add_assoc]
    ·cases he
   ·cases he
  ·cases he
 ·rename_i t x hop
  split at he
  ·rename_i k off d i h1 h2 h3
   split at he
   ·rename_i tt r h4
    split at he
    ·cases he
    ·rename_i hd
     split at he
     ·rename_i v' h5
      injection he with he
      injection he with e3 e4
      subst e3
      obtain⟨e1,p1⟩:=ev_ok h ho h1
      obtain⟨hc,ov⟩:=celm_ok (hb0 _ _ _ h4).2 h5
      refine⟨NV.av_ok ov _,fun u _ hB=>?_⟩
      have hl:(loadVar t ⟨gs.getD k 0,off,none⟩).run P u=.ok v'.den u:=by
       have hagg:(isAgg t).run P u=.ok false u:=by
        unfold isAgg
        rw[Sem.run_bind,run_underlying h2 u]
        cases d<;>first|rfl|(simp[TypeDesc.isRow] at hd)
       have hcell:=(hB _ _ _ h4).1.cell off
       rw[show (Sx.den r).toArray[off]? = some v'.den by simpa using hc,List.getD_eq_getElem?_getD] at hcell
       simp[loadVar,Sem.run_bind,hagg,hcell]
      rw[List.getD_eq_getElem?_getD] at hl
      rw[NV.av_den]
      simp[hop,e1,AV.den,Instr.loadAt,Instr.sureAddr,hl,Oper.quietUpon]
     ·cases he
   ·cases he
  ·rename_i k off d i h1 h2 h3
   split at he
   ·rename_i tt r h4
    split at he
    ·rename_i n xs h5
     obtain⟨e1,p1⟩:=ev_ok h ho h1
     obtain⟨m1,d1⟩:=mg_ok (hb0 _ _ _ h4).2 h5
     have key:∀u,BOk gs bl u->(loadVar t ⟨gs.getD k 0,off,none⟩).run P u=.ok (v.den gs) u/\∀m,v.Ok m:=fun u hB=>by
      have hh:=(hB _ _ _ h4).1
      rw[d1] at hh
      have:=ldw_ok (P:=P) (gs:=gs) (b:=gs.getD k 0) (o:=0) (u:=u) h2 h3 m1 (fun j hj=>by rw[Nat.zero_add];have:=hh.val (i:=j) (by rw[m1.len];exact hj);simpa using this) he hH
      rw[Nat.zero_add] at this
      exact⟨this.2.2,this.2.1⟩
     refine⟨(key u0 hb0).2 _,fun u _ hB=>?_⟩
     have hl:=(key u hB).1
     rw[List.getD_eq_getElem?_getD] at hl
     simp[hop,e1,AV.den,Instr.loadAt,Instr.sureAddr,hl,Oper.quietUpon]
    ·cases he
   ·cases he
  ·rename_i A off N l d i h1 h2 h3
   obtain⟨e1,p1⟩:=ev_ok h ho h1
   obtain⟨hD,hN⟩:C.D A N l/\0<N:=by
    unfold ldw at he
    split at he
    ·injection he with he
     injection he with e3 e4
     injection e4 with e4 e5
     subst e5
     exact hH.2.1
    ·split at he
     ·injection he with he
      injection he with e3 e4
      injection e4 with e4 e5
      subst e5
      exact hH.2.1
     ·cases he
   obtain⟨hw,B,hB⟩:=hC.D _ _ _ hD
   obtain⟨b,o,rfl,_,_⟩:=(hB u0 hg0).2.at_ hN
   have key:∀u,G u->(loadVar t ⟨b,o+off,none⟩).run P u=.ok (v.den gs) u/\∀m,v.Ok m:=fun u hG=>by
    have hr:=(hB u hG).2
    obtain⟨b',o',e,_,hcell⟩:=hr.at_ hN
    injection e with e
    injection e with ea eb
    subst ea eb
    have:=ldw_ok (P:=P) (gs:=gs) (u:=u) h2 h3 ⟨hr.len,hw⟩ hcell he hH
    exact⟨this.2.2,this.2.1⟩
   refine⟨(key u0 hg0).2 _,fun u hG _=>?_⟩
   have hl:=(key u hG).1
   simp[hop,e1,AV.den,Instr.loadAt,Instr.sureAddr,hl,Oper.quietUpon,add_at]
  ·rename_i A off r d i h1 h2 h3
   split at he
   ·rename_i v' h4
    injection he with he
    injection he with e3 e4
    injection e4 with e4 e5
    subst e3 e5
    obtain⟨e1,p1⟩:=ev_ok h ho h1
    obtain⟨hr,b,o,rfl,hcell⟩:=hC.R.at_ hH.1
    refine⟨(ldr_ok (P:=P) (gs:=gs) h2 h3 hr (hcell u0 hg0) h4).1 _,fun u hG _=>?_⟩
    have hl:=(ldr_ok (P:=P) (gs:=gs) h2 h3 hr (hcell u hG) h4).2
    simp[hop,e1,AV.den,Instr.loadAt,Instr.sureAddr,hl,Oper.quietUpon,add_at]
   ·cases he
  ·cases he
 ·rename_i c hop
  split at he
  ·rename_i hb
   split at he
   ·rename_i e A n cp l h1 h2
    injection he with he
    injection he with e3 e4
    subst e3
    obtain⟨e2,o2⟩:=evs_ok h ho h2
    obtain⟨t,ht,hu⟩:=Option.bind_eq_some_iff.1 h1
    have ha:c.args.map a.eval=#[.slice A n cp]:=by
     have:(c.args.map a.eval)=(c.args.toList.map a.eval).toArray:=by rw[<-Array.toList_map]
     rw[this,e2]
     rfl
    exact⟨trivial,fun u _ _=>by simp[hop,resolve,hb,ha,invoke,builtin,Builtin.len_,ht,run_underlying hu,goInt,AV.den,Oper.quietUpon]⟩
   ·rename_i e A n cp r h1 h2
    injection he with he
    injection he with e3 e4
    subst e3
    obtain⟨e2,o2⟩:=evs_ok h ho h2
    obtain⟨t,ht,hu⟩:=Option.bind_eq_some_iff.1 h1
    have ha:c.args.map a.eval=#[.slice A n cp]:=by
     have:(c.args.map a.eval)=(c.args.toList.map a.eval).toArray:=by rw[<-Array.toList_map]
     rw[this,e2]
     rfl
    exact⟨trivial,fun u _ _=>by simp[hop,resolve,hb,ha,invoke,builtin,Builtin.len_,ht,run_underlying hu,goInt,AV.den,Oper.quietUpon]⟩
   ·cases he
  ·rename_i g hg
   split at he
   ·rename_i F first caps vs h1 h2
    split at he
    ·rename_i hc
     split at he
     ·rename_i e h3
      split at he
      ·rename_i v' ps h4
       injection he with he
       injection he with e3 e4
       injection e4 with e4 e5
       subst e3 e5
       obtain⟨e1,o1⟩:=ev_ok h ho h1
       obtain⟨e2,o2⟩:=evs_ok h ho h2
       have hE:=look2_ok hC.T2 h3
       have hcc:=hE.ok G C.D C.R bl vs _ _ gs (fun _ h=>h) hC.D hC.R h4 hH o2
       refine⟨(hcc u0 hg0 hb0).1,fun u hG hB=>?_⟩
       have hf':first=#[]:=Array.eq_empty_of_size_eq_zero hc.1
       have hc':caps=#[]:=Array.eq_empty_of_size_eq_zero hc.2
       have ha:c.args.map a.eval=(vs.map (AV.den gs)).toArray:=by rw[<-e2,<-Array.toList_map]
       simp[hop,resolve,hg,e1,AV.den,Deferred.ofValue,hf',hc',ha,invoke,hE.enter,Oper.quietUpon]
       exact (hcc u hG hB).2
      ·cases he
     ·cases he
    ·cases he
   ·rename_i F caps vs h1 h2
    split at he
    ·rename_i e h3
     split at he
     ·rename_i v' ps h4
      injection he with he
      injection he with e3 e4
      injection e4 with e4 e5
      subst e3 e5
      obtain⟨e1,o1⟩:=ev_ok h ho h1
      obtain⟨e2,o2⟩:=evs_ok h ho h2
      have hE:=look2_ok hC.T2 h3
      have hcc:=hE.ok G C.D C.R bl _ _ _ gs (fun _ h=>h) hC.D hC.R h4 hH (fun w hw=>by
       rcases List.mem_append.1 hw with hw|hw
       ·exact o2 w hw
       ·obtain⟨k,hk,rfl⟩:=List.mem_map.1 hw
        exact o1 k hk)
      refine⟨(hcc u0 hg0 hb0).1,fun u hG hB=>?_⟩
      have ha:c.args.map a.eval=(vs.map (AV.den gs)).toArray:=by rw[<-e2,<-Array.toList_map]
      have hc2:=(hcc u hG hB).2
      rw[List.map_append,List.map_map] at hc2
      simp[hop,resolve,hg,e1,AV.den,Deferred.ofValue,ha,invoke,hE.enter,Oper.quietUpon]
      simpa [AV.den,Function.comp_def] using hc2
     ·cases he
    ·cases he
   ·cases he
  ·cases he
 ·cases he
theorem gload_ok (hC:CxB P C G)(h:Sl gs sl a)(ho:SOk gs.length sl){o:Oper}{v:AV}(h0:∃u,G u/\BOk gs bl u)(he:gload P C sl o.op=some v) :
  v.Ok gs.length/\∀u,G u->BOk gs bl u->o.quietAt P a (fun z=>RowKit.Below u.heap.size u z) u (v.den gs):=by
 obtain⟨u0,hg0,hb0⟩:=h0
 unfold Oper.quietAt execOp
 unfold gload at he
 split at he
 ·rename_i t x hop
  split at he
  ·rename_i g off d i h1 h2 h3
   split at he
   ·rename_i r h4
    obtain⟨e1,o1⟩:=ev_ok h ho h1
    obtain⟨gr,gH⟩:=hC.gl _ _ h4
    split at he
    ·rename_i hd
     obtain⟨out,hp,rfl⟩:=Option.map_eq_some_iff.1 he
     refine⟨(part_ok gr hp).2.1,fun u hG _=>?_⟩
     obtain⟨tt,hH⟩:=gH u hG
     have hr:=load_row hH gr h2 hd h3 hp (n:=0)
     simp[hop,e1,AV.den,Instr.loadAt,Instr.sureAddr,hr,Oper.quietUpon]
    ·rename_i hd
     obtain⟨w,hp,rfl⟩:=Option.map_eq_some_iff.1 he
     refine⟨trivial,fun u hG _=>?_⟩
     obtain⟨tt,hH⟩:=gH u hG
     have hr:=load_cel hH gr h2 (by simpa using hd) hp
     simp[hop,e1,AV.den,Instr.loadAt,Instr.sureAddr,hr,Oper.quietUpon]
   ·cases he
  ·cases he
 ·cases he
theorem eqlM_at {P:Program}{a:Act}{o:Oper}{t r:TypeId}{x y:Operand}{A B:Array Value}{b:Bool}(ho:o.op=.binOp .eql t x y r)(hx:a.eval x=.agg A)(hy:a.eval y=.agg B)(hE:∀w,(Op.equalIn 10000 t (.agg A) (.agg B)).run P w=.ok b w)(hg:P.eqGuardType P.depth t=false)(w:World):o.quietAt P a (fun z=>RowKit.Below w.heap.size w z) w (.bool (b)):=by
 have h:=hE w
 unfold Oper.quietAt
 simp only[execOp,ho,hx,hy]
 go_simp<;>exact⟨rfl,rfl⟩
theorem neqM_at {P:Program}{a:Act}{o:Oper}{t r:TypeId}{x y:Operand}{A B:Array Value}{b:Bool}(ho:o.op=.binOp .neq t x y r)(hx:a.eval x=.agg A)(hy:a.eval y=.agg B)(hE:∀w,(Op.equalIn 10000 t (.agg A) (.agg B)).run P w=.ok b w)(hg:P.eqGuardType P.depth t=false)(w:World):o.quietAt P a (fun z=>RowKit.Below w.heap.size w z) w (.bool (!b)):=by
 have h:=hE w
 unfold Oper.quietAt
 simp only[execOp,ho,hx,hy]
 go_simp<;>exact⟨rfl,rfl⟩
theorem sidesM_ok {P:Program}{E:List (TypeId×Nat)}(hE:EqTM P E)(h:Sl gs sl a)(ho:SOk gs.length sl){t:TypeId}{x y:Operand}{xs ys:List Int}{i j:Bool}(he:sidesM E sl t x y=some (xs,i,ys,j)) :
  ∃n,a.eval x=.agg (vals .u64 xs ++ #[.bool i])/\a.eval y=.agg (vals .u64 ys ++ #[.bool j])/\EqOB P 10000 t n/\P.eqGuardType P.depth t=false/\xs.length=n/\ys.length=n:=by
 unfold sidesM at he
 split at he
 ·rename_i n r s h1 h2 h3
  split at he
  ·rename_i k xs' b' m ys' c' h4 h5
   split at he
   ·rename_i hc
    obtain⟨e1,o1⟩:=ev_ok h ho h2
    obtain⟨e2,o2⟩:=ev_ok h ho h3
    obtain⟨n1,d1⟩:=mgb_ok o1 h4
    obtain⟨n2,d2⟩:=mgb_ok o2 h5
    obtain⟨g1,g2⟩:=eqnM_ok hE h1
    injection he with he
    injection he with ea he
    injection he with eb he
    injection he with ec ed
    subst ea eb ec ed
    exact⟨n,by rw[e1,AV.den,d1];simp[vals],by rw[e2,AV.den,d2];simp[vals],g1,g2,by rw[n1.len,hc.1],by rw[n2.len,hc.2]⟩
   ·cases he
  ·cases he
 ·cases he
theorem stepR0_ok (hC:CxB P C G)(h:Sl gs sl a)(ho:SOk gs.length sl){q q1:List Bool}{o:Oper}{v:AV}{o1:List Ob}(h0:∃u,G u/\BOk gs bl u)(he:stepR0 P C ops bl sl q o=some (v,q1,o1))(hH:Holds o1) :
  v.Ok gs.length/\∀S:World->Prop,(∀u,S u->G u/\BOk gs bl u)->Steady P ops S o (v.den gs) a:=by
 unfold stepR0 at he
 split at he
 ·cases he
 ·rename_i hw
  injection he with he
  injection he with e1 e2
  subst e1
  exact⟨trivial,fun S hS=>.inr ⟨want_ok h hw,rfl⟩⟩
 ·rename_i hw
  have hwt:=want_ok (a:=a) h hw
  split at he
  ·rename_i v' hv
   injection he with he
   injection he with e1 e2
   subst e1
   obtain⟨ov,hq⟩:=gload_ok hC h ho h0 hv
   exact⟨ov,fun S hS=>.inl ⟨hwt,fun u hu=>hq u (hS u hu).1 (hS u hu).2⟩⟩
  split at he
  ·rename_i v' hv
   injection he with he
   injection he with e1 e2
   subst e1
   split at hv
   ·obtain⟨ov,hq⟩:=symL_ok h ho h0 hv
    exact⟨ov,fun S hS=>.inl ⟨hwt,fun u hu=>hq u (hS u hu).1 (hS u hu).2⟩⟩
   ·cases hv
  split at he
  ·rename_i v' hv
   injection he with he
   injection he with e1 e2
   subst e1
   obtain⟨ov,hq⟩:=evalV_ok hC.T h ho h0 hv
   exact⟨ov,fun S hS=>.inl ⟨hwt,fun u hu=>hq u (hS u hu).1 (hS u hu).2⟩⟩
  split at he
  ·rename_i r' hv
   obtain rfl:=Option.some.inj he
   split at hv
   ·obtain⟨ov,hq⟩:=symV_ok hC h ho h0 hv hH
    exact⟨ov,fun S hS=>.inl ⟨hwt,fun u hu=>hq u (hS u hu).1 (hS u hu).2⟩⟩
   ·cases hv
  split at he
  ·rename_i t x y r hop
   split at he
   ·rename_i xs ys b q' h1 hno
    injection he with he
    injection he with e1 e2
    injection e2 with e2 e3
    subst e1 e3
    obtain⟨n,g1,g2,g3,g4,g5,g6⟩:=sides_ok hC.E h ho h1
    exact⟨trivial,fun S hS=>.inl ⟨hwt,fun u _=>eql_at hop g1 g2 g3 g4 g5 g6 (qb_dec hH.1) u⟩⟩
   ·split at he
    ·rename_i xs i ys j b q' h1 hn hv
     injection he with he
     injection he with e1 e2
     injection e2 with e2 e3
     subst e1 e3
     obtain⟨n,g1,g2,g3,g4,g5,g6⟩:=sidesM_ok hC.EM h ho h1
     exact⟨trivial,fun S hS=>.inl ⟨hwt,fun u _=>eqlM_at hop g1 g2 (fun w=>(g3 w _ _ _ _ g5 g6).trans (by rw[qb_dec hH.1])) g4 u⟩⟩
    ·cases he
  ·rename_i t x y r hop
   split at he
   ·rename_i xs ys b q' h1 hno
    injection he with he
    injection he with e1 e2
    injection e2 with e2 e3
    subst e1 e3
    obtain⟨n,g1,g2,g3,g4,g5,g6⟩:=sides_ok hC.E h ho h1
    exact⟨trivial,fun S hS=>.inl ⟨hwt,fun u _=>neq_at hop g1 g2 g3 g4 g5 g6 (qb_dec hH.1) u⟩⟩
   ·split at he
    ·rename_i xs i ys j b q' h1 hn hv
     injection he with he
     injection he with e1 e2
     injection e2 with e2 e3
     subst e1 e3
     obtain⟨n,g1,g2,g3,g4,g5,g6⟩:=sidesM_ok hC.EM h ho h1
     exact⟨trivial,fun S hS=>.inl ⟨hwt,fun u _=>neqM_at hop g1 g2 (fun w=>(g3 w _ _ _ _ g5 g6).trans (by rw[qb_dec hH.1])) g4 u⟩⟩
    ·cases he
  ·cases he
theorem stepR_ok (hC:CxB P C G)(h:Sl gs sl a)(ho:SOk gs.length sl){q q1:List Bool}{o:Oper}{v:AV}{o1:List Ob}(h0:∃u,G u/\BOk gs bl u)(he:stepR P C ops bl sl q o=some (v,q1,o1))(hH:Holds o1) :
  v.Ok gs.length/\∀S:World->Prop,(∀u,S u->G u/\BOk gs bl u)->Steady P ops S o (v.den gs) a:=by
 unfold stepR resol at he
 split at he
 ·rename_i b c q' o' hr
  injection he with he
  injection he with e1 e2
  injection e2 with e2 e3
  subst e1 e3
  obtain⟨hx,hy⟩:=holds_app hH
  obtain⟨_,hs⟩:=stepR0_ok hC h ho h0 hr hx
  have hb:b=c:=hy.1
  subst hb
  exact⟨trivial,hs⟩
 ·exact stepR0_ok hC h ho h0 he hH
theorem rds_ok (hC:CxB P C G)(h0:∃u,G u/\BOk gs bl u)(hS:∀u,S u->G u/\BOk gs bl u):∀{l:List Oper} {sl:List AV} {q:List Bool} {a:Act} {sl2:List AV} {q2:List Bool} {obs:List Ob} {K:Act->Prop},
  rds P C ops bl l sl q=some (sl2,q2,obs)->Sl gs sl a->SOk gs.length sl->Holds obs->(∀a',Sl gs sl2 a'->SOk gs.length sl2->a'.defers=a.defers->K a')->wpTake P ops S K l a
 |[],sl,q,a,sl2,q2,obs,K,he,h,ho,hH,hK=>by
  injection he with he
  injection he with e1 e2
  subst e1
  exact wpTake_nil (hK a h ho rfl)
 |o :: l,sl,q,a,sl2,q2,obs,K,he,h,ho,hH,hK=>by
  unfold rds at he
  split at he
  ·cases he
  ·rename_i v q1 o1 h1
   split at he
   ·cases he
   ·rename_i sl3 q3 o3 h2
    injection he with he
    injection he with e1 e2
    injection e2 with e2 e3
    subst e1 e2 e3
    obtain⟨ha,hbb⟩:=holds_app hH
    obtain⟨ov,hs⟩:=stepR_ok hC h ho h0 h1 ha
    refine wpTake_cons (hs S hS) (rds_ok hC h0 hS h2 (sl_put h) (sok_put ho ov) hbb (fun a' h3 h4 h5=>hK a' h3 h4 (h5.trans ?_)))
    cases o.dst<;>rfl
end
end Sx
namespace Sx
open Go Go.RowKit Reg Limb Fp2
theorem getD_new (gs:List Nat)(g:Nat):(gs++[g]).getD gs.length 0=g:=by simp[List.getD]
section
variable {S m:Nat} {w x y u:World} {gs:List Nat} {bs:List Bk} {P:Program} {G:World->Prop} {C:Cx}
theorem Wd.bk (H:Wd S w m gs bs x):BOk gs (pb bs) x:=fun k t r h=>by
 obtain⟨h1,h2⟩:=pb_at h
 have:=H.has k t r h1
 rw[denB,OkB,h2] at this
 exact this
theorem Wd.lt (H:Wd S w m gs bs x){k:Nat}(hk:k<gs.length):gs.getD k 0<x.heap.size:=by
 obtain⟨⟨t,r⟩,hb⟩:∃b,bs[k]? = some b:=⟨bs[k]'(H.len▸hk),List.getElem?_eq_getElem _⟩
 exact (H.has k t r hb).1.lt
theorem Wd.keep (H:Wd S w m gs bs x)(h:RowKit.Below x.heap.size x y):Wd S w m gs bs y:=
 ⟨H.bel.trans (h.mono H.sz),Nat.le_trans H.sz h.size,H.len,fun k t r hk=>⟨(H.has k t r hk).1.keep h,(H.has k t r hk).2⟩,H.lo,H.nd⟩
theorem Wd.of_but (H:Wd S w m gs bs x)(h:But x.heap.size x y):Wd S w m gs bs y:=
 ⟨H.bel.trans (h.below H.sz H.sz),Nat.le_trans H.sz h.size,H.len,fun k t r hk=>⟨h.has (H.has k t r hk).1 (Nat.ne_of_lt (H.has k t r hk).1.lt),(H.has k t r hk).2⟩,H.lo,H.nd⟩
theorem Wd.push (H:Wd S w m gs bs x){g t:Nat}{r:Row}(hh:Has x g t (den r).toArray)(hr:Ok r)(hg:S<=g)(hn:∀k,k<gs.length->gs.getD k 0≠g)(hm:m<=gs.length):Wd S w m (gs++[g]) (bs++[(t,r)]) x:=by
 have hlen:(gs++[g]).length=gs.length+1:=by simp
 refine⟨H.bel,H.sz,by simp[H.len],fun k t' r' hk=>?_,fun k hk hk'=>?_,fun j k hj hk hmj hkj=>?_⟩
 ·by_cases hlt:k<bs.length
  ·rw[List.getElem?_append_left hlt] at hk
   have h0:=H.has k t' r' hk
   rw[getD_ext (by rw[H.len];exact hlt),denB_ext h0.2 fun j hj=>getD_ext hj]
   exact⟨h0.1,h0.2.mono (by simp)⟩
  ·have hk2:k<bs.length+1:=by
    have:=(List.getElem?_eq_some_iff.1 hk).1
    simpa using this
   obtain rfl:k=bs.length:=by omega
   rw[List.getElem?_append_right (Nat.le_refl _),Nat.sub_self] at hk
   injection hk with hk
   injection hk with h1 h2
   subst h1 h2
   rw[<-H.len,getD_new,denB_ok hr]
   exact⟨hh,okB_ok hr⟩
 ·rw[hlen] at hk'
  by_cases hlt:k<gs.length
  ·rw[getD_ext hlt]
   exact H.lo k hk hlt
  ·obtain rfl:k=gs.length:=by omega
   rw[getD_new]
   exact hg
 ·rw[hlen] at hj hk
  by_cases h1:j<gs.length
  ·rw[getD_ext h1]
   by_cases h2:k<gs.length
   ·rw[getD_ext h2]
    exact H.nd j k h1 h2 hmj hkj
   ·obtain rfl:k=gs.length:=by omega
    rw[getD_new]
    exact fun he=>hn j h1 he.symm
  ·obtain rfl:j=gs.length:=by omega
   rw[getD_new]
   have h2:k<gs.length:=by omega
   rw[getD_ext h2]
   exact hn k h2
theorem Wd.setB (H:Wd S w m gs bs x){k t:Nat}{r r0:Row}(hk:bs[k]? = some (t,r0))(hm:m<=k)(hh:Has y (gs.getD k 0) t (denB gs r).toArray)(hr:OkB gs.length r)(hb:But (gs.getD k 0) x y):Wd S w m gs (bs.set k (t,r)) y:=by
 have hlt:k<bs.length:=(List.getElem?_eq_some_iff.1 hk).1
 have hlg:k<gs.length:=by rw[H.len];exact hlt
 refine⟨H.bel.trans (hb.below (H.lo k hm hlg) H.sz),Nat.le_trans H.sz hb.size,by simp[H.len],fun j t' r' hj=>?_,H.lo,H.nd⟩
 rw[List.getElem?_set] at hj
 split at hj
 ·rename_i he
  subst he
  injection hj with hj
  injection hj with h1 h2
  subst h1 h2
  exact⟨hh,hr⟩
 ·rename_i hne
  have:=H.has j t' r' hj
  have hjl:j<gs.length:=by
   have:=(List.getElem?_eq_some_iff.1 hj).1
   rw[H.len]
   exact this
  exact⟨hb.has this.1 (H.nd k j hlg hjl hm (Ne.symm hne)),this.2⟩
theorem Wd.set (H:Wd S w m gs bs x){k t:Nat}{r r0:Row}(hk:bs[k]? = some (t,r0))(hm:m<=k)(hh:Has y (gs.getD k 0) t (den r).toArray)(hr:Ok r)(hb:But (gs.getD k 0) x y):Wd S w m gs (bs.set k (t,r)) y:=H.setB hk hm (by rw[denB_ok hr];exact hh) (okB_ok hr) hb
theorem SOk.ext {n n':Nat}{sl:List AV}(h:SOk n sl)(hn:n<=n'):SOk n' sl:=fun v hv=>(h v hv).mono hn
theorem Sl.ext {gs:List Nat}{sl:List AV}{a:Act}{g:Nat}(h:Sl gs sl a)(ho:SOk gs.length sl):Sl (gs++[g]) sl a:=by
 exact⟨h.1,fun i v hi hu=>by rw[AV.den_ext (ho v (List.mem_of_getElem? hi))];exact h.2 i v hi hu⟩
theorem Sl.exts:∀{e gs:List Nat} {sl:List AV} {a:Act},Sl gs sl a->SOk gs.length sl->Sl (gs++e) sl a
 |[],gs,sl,a,h,_=>by rwa [List.append_nil]
 |g :: e,gs,sl,a,h,ho=>by
  rw[<-List.singleton_append,<-List.append_assoc]
  exact Sl.exts (h.ext ho) (ho.ext (by simp))
theorem wp_of_quiet {o:Oper}{a:Act}{v:Value}{K:Act->World->Prop}{Q:Exit->Act->World->Prop}(hq:o.quietAt P a (fun z=>RowKit.Below u.heap.size u z) u v)(hk:∀z,RowKit.Below u.heap.size u z->K (a.put o.dst v) z):o.wp P a u K Q:=by
 unfold Oper.quietAt at hq
 unfold Oper.wp
 generalize (execOp a.eval o).run P u=res at hq
 unfold Oper.quietUpon at hq
 split at hq
 ·obtain⟨rfl,rfl⟩:=hq
  exact hk _ (Below.refl _ _)
 ·obtain⟨rfl,rfl⟩:=hq
  exact hk _ (Below.refl _ _)
 ·obtain⟨rfl,hc⟩:=hq
  exact hc.mono fun e z ⟨he,hb⟩=>by subst he;exact hk z hb
 ·exact hq.elim
theorem wpList_quiet {ops:Array Oper}{o:Oper}{rest:List Oper}{a:Act}{v:Value}{Q:Exit->Act->World->Prop}(hs:Steady P ops (fun z=>z=u) o v a)(hk:∀z,RowKit.Below u.heap.size u z->wpList P ops Q rest (a.put o.dst v) z):wpList P ops Q (o :: rest) a u:=by
 unfold wpList
 rcases hs with ⟨hw,hq⟩|⟨hw,rfl⟩
 ·rw[if_pos hw]
  exact .inl (wp_of_quiet (hq u rfl) hk)
 ·rw[hw,if_neg (by decide)]
  exact hk u (Below.refl _ _)
end
def zeroOf (P:Program)(t:TypeId):Option Row:=(P.info? t).bind fun i=>i.zero.bind zrow
def mkRow (P:Program)(t:TypeId)(len:Nat):Option (Row×Nat):=match P.underlying t with
 |some (.slice e)=>match P.info? e with
  |some ie=>match ie.zero with
   |some z=>if len*ie.size<=2^24/\len*ie.size≠0 then (zrow (.agg ((Array.range (len*ie.size)).map (z.cells[· % z.cells.size]!)))).map (·,ie.size) else none
   |none=>none
  |none=>none
 |_=>none
def upd (off n:Nat)(ys xs:List Int):List Int:=xs.take off++(ys++xs.drop (off+n))
theorem upd_nm {off j n:Nat}{ys xs:List Int}(hy:Nm j ys)(hx:Nm n xs)(h:off+j<=n):Nm n (upd off j ys xs):=
 ⟨by rw[upd,List.length_append,List.length_append,List.length_take,List.length_drop,hy.len,hx.len];omega,words_append (words_take hx.words _) (words_append hy.words (words_drop hx.words _))⟩
def noPtr:AV->Bool
 |.ptr _ _ | .ptrS _ _=>false
 |_=>true
def stepP (P:Program)(C:Cx)(m:Nat)(ops:Array Oper)(sl:List AV)(bs:List Bk)(q:List Bool)(o:Oper):Option (List AV×List Bk×List Bool×List Ob):=
 match o.op with
 |.alloc t=>match o.guard,zeroOf P t with
  |none,some z=>some (putA sl o.dst (.ptr bs.length 0),bs++[(t,z)],q,[])
  |_,_=>none
 |.box t x=>match o.guard,(ev sl x).bind rowOf with
  |none,some r=>some (putA sl o.dst (.ptr bs.length 0),bs++[(t,r)],q,[])
  |_,_=>none
 |.buildSlice t len ps=>match o.guard,mkRow P t len,evp sl ps.toList,P.underlying t with
  |none,some (z,n),some vs,some (.slice e)=>match fillS (fun i=>some (i*n,n)) z vs with
   |some r=>some (putA sl o.dst (.slc bs.length 0 len len),bs++[(e,r)],q,[])
   |none=>none
  |_,_,_,_=>none
 |.store t p y=>match o.guard,o.dst,ev sl p,ev sl y with
  |none,none,some (.ptr k off),some v=>match rowOf v,pb bs k,P.info? t with
   |some r,some (tb,rb),some i=>match part rb 0 off,part rb (off+sz r) (sz rb-(off+sz r)) with
    |some l,some e=>if m<=k/\i.size=sz r/\off+sz r<=sz rb then some (sl,bs.set k (tb,l++r++e),q,[]) else none
    |_,_=>none
   |_,_,_=>none
  |none,none,some (.ptrS k off),some v=>match rowOf v,pb bs k,P.info? t with
   |some r,some (tb,rb),some i=>match mg r,mg rb with
    |some (j,ys),some (n,xs)=>if m<=k/\i.size=j then some (sl,bs.set k (tb,[.nums n (upd off j ys xs)]),q,[off+j<=n]) else none
    |_,_=>none
   |_,_,_=>none
  |_,_,_,_=>none
 |.call c=>match call3 C c with
  |some e=>match o.guard,evs sl c.args.toList with
   |none,some vs=>match e bs.length (pb bs) vs with
    |some (v,b,ps)=>if noPtr v then some (putA sl o.dst v,bs++[b],q,ps) else none
    |none=>none
   |_,_=>none
  |none=>match call4 C sl c with
   |some (e,F,caps)=>match o.guard,evs sl c.args.toList with
    |none,some vs=>match e m (vs++caps.map (.ptr · 0)) bs q with
     |some (v,bs1,q1,o1)=>some (putA sl o.dst v,bs1,q1,o1)
     |none=>none
    |_,_=>none
   |none=>match stepR P C ops (pb bs) sl q o with
    |some (v,q1,o1)=>some (putA sl o.dst v,bs,q1,o1)
    |none=>none
 |_=>match stepR P C ops (pb bs) sl q o with
  |some (v,q1,o1)=>some (putA sl o.dst v,bs,q1,o1)
  |none=>none
def storeF (P:Program)(m:Nat)(sl:List AV)(bs:List Bk)(o:Oper):Option (List Bk):=match o.op with
 |.store t p y=>match o.guard,o.dst,ev sl p,ev sl y with
  |none,none,some (.ptr k 0),some (.fn F caps)=>match bs[k]?,P.info? t with
   |some (tb,rb),some i=>if m<=k/\i.size=1/\sz rb=1 then some (bs.set k (tb,[.nm (.fn F caps)])) else none
   |_,_=>none
  |_,_,_,_=>none
 |_=>none
def loadF (P:Program)(sl:List AV)(bs:List Bk)(o:Oper):Option AV:=match o.op with
 |.load t p=>match o.guard,ev sl p,P.underlying t,P.info? t with
  |none,some (.ptr k 0),some d,some _=>match bs[k]? with
   |some (_,r)=>match fnr r with
    |some (F,caps)=>if d.isRow then none else some (.fn F caps)
    |none=>none
   |none=>none
  |_,_,_,_=>none
 |_=>none
def stepS0 (P:Program)(C:Cx)(m:Nat)(ops:Array Oper)(sl:List AV)(bs:List Bk)(q:List Bool)(o:Oper):Option (List AV×List Bk×List Bool×List Ob):=match storeF P m sl bs o with
 |some bs1=>some (sl,bs1,q,[])
 |none=>match loadF P sl bs o with
  |some v=>some (putA sl o.dst v,bs,q,[])
  |none=>stepP P C m ops sl bs q o
def stepS (P:Program)(C:Cx)(m:Nat)(ops:Array Oper)(sl:List AV)(bs:List Bk)(q:List Bool)(o:Oper):Option (List AV×List Bk×List Bool×List Ob):=
 match o.guard with
 |none=>stepS0 P C m ops sl bs q o
 |some _=>match wantA ops sl o with
  |some true=>stepS0 P C m ops sl bs q { o with guard:=none }
  |some false=>some (putA sl o.dst (.val undef),bs,q,[])
  |none=>none
def seqS (P:Program)(C:Cx)(m:Nat)(ops:Array Oper):List Oper->List AV->List Bk->List Bool->Option (List AV×List Bk×List Bool×List Ob)
 |[],sl,bs,q=>some (sl,bs,q,[])
 |o :: l,sl,bs,q=>match stepS P C m ops sl bs q o with
  |none=>none
  |some (sl1,bs1,q1,o1)=>match seqS P C m ops l sl1 bs1 q1 with
   |none=>none
   |some (sl2,bs2,q2,o2)=>some (sl2,bs2,q2,o1++o2)
section
variable {S m:Nat} {w x y u:World} {gs:List Nat} {bs:List Bk} {sl:List AV} {G:World->Prop} {P:Program} {C:Cx} {ops:Array Oper} {a:Act} {Q:Exit->Act->World->Prop}
theorem zeroOf_ok {P:Program}{t:TypeId}{z:Row}(h:zeroOf P t=some z):(∃inf v,P.info? t=some inf/\inf.zero=some v/\v.cells=(den z).toArray)/\Ok z:=by
 obtain⟨i,h1,h2⟩:=Option.bind_eq_some_iff.1 h
 obtain⟨v,h3,h4⟩:=Option.bind_eq_some_iff.1 h2
 obtain⟨e,o⟩:=zrow_ok h4
 exact⟨⟨i,v,h1,h3,e.symm⟩,o⟩
theorem store_any {P:Program}{rest:List Oper}{o:Oper}{t tb g off:Nat}{p y:Operand}{r rb l e:Row}{i:TypeInfo}(hg:o.guard=none)(ho:o.op=.store t p y)(hd:o.dst=none)(hx:a.eval p=.pointer (some ⟨g,off,none⟩))(hy:(a.eval y).cells=(den r).toArray)(hr:Ok r)(hi:P.info? t=some i)(hs:i.size=sz r)
  (hh:Has x g tb (den rb).toArray) (hrb:Ok rb) (hfit:off+sz r<=sz rb) (hl:part rb 0 off=some l) (he:part rb (off+sz r) (sz rb-(off+sz r))=some e) (h:wpList P ops Q rest a (x.setRow g (den (l++r++e)).toArray)):wpList P ops Q (o :: rest) a x:=by
 refine wpList_plain hg fun K hK=>?_
 obtain⟨l1,_,_⟩:=part_ok hrb hl
 obtain⟨e1,_,_⟩:=part_ok hrb he
 have hrl:=den_len hr
 have hbl:=den_len hrb
 have hst:=run_storeCells_at P g off tb (den r) 0 (den rb).toArray x hh.eq (by simp[hrl,hbl];omega) (fun v hv=>by
  have:=den_one hr
  rw[List.all_toArray,List.all_eq_true] at this
  exact this v hv)
 have e2:List.drop (off+sz r) (den rb)=den e:=by
  rw[<-e1,List.take_of_length_le (by rw[List.length_drop,hbl];omega)]
 rw[List.toList_toArray,Nat.add_zero,hrl,e2,<-List.drop_zero (l:=den rb),l1,<-den_app,<-den_app] at hst
 have hrun:(storeVar t ⟨g,off,none⟩ (a.eval y)).run P x=.ok () (x.setRow g (den (l++r++e)).toArray):=by
  simp[storeVar,sizeOf,typeInfo,hi,hy,hs,hrl,hst]
 unfold Oper.wp execOp
 simp only[ho,hx,Instr.storeAt,Instr.sureAddr,Sem.run_bind,Sem.run_pure,Result.andThen_ok,hrun]
 refine hK _ _ ?_
 rw[hd]
 exact h
theorem store_words {P:Program}{rest:List Oper}{o:Oper}{t tb g off n j:Nat}{p y:Operand}{ys xs:List Int}{i:TypeInfo}(hg:o.guard=none)(ho:o.op=.store t p y)(hd:o.dst=none)(hx:a.eval p=.pointer (some ⟨g,off,none⟩))(hy:(a.eval y).cells=(ys.map (Value.int .u64)).toArray)(hys:Nm j ys)(hi:P.info? t=some i)(hs:i.size=j)
  (hh:Has x g tb (xs.map (Value.int .u64)).toArray) (hxs:Nm n xs) (hfit:off+j<=n) (h:wpList P ops Q rest a (x.setRow g ((upd off j ys xs).map (Value.int .u64)).toArray)):wpList P ops Q (o :: rest) a x:=by
 refine wpList_plain hg fun K hK=>?_
 have hst:=run_storeCells_at P g off tb (ys.map (Value.int .u64)) 0 (xs.map (Value.int .u64)).toArray x hh.eq (by simp[hys.len,hxs.len];omega) (fun v hv=>by
  obtain⟨z,_,rfl⟩:=List.mem_map.1 hv
  rfl)
 have e2:(upd off j ys xs).map (Value.int .u64)=List.take off (xs.map (Value.int .u64))++ys.map (Value.int .u64)++List.drop (off+j) (xs.map (Value.int .u64)):=by
  rw[upd,List.map_append,List.map_append,List.map_take,List.map_drop,List.append_assoc]
 rw[List.toList_toArray,Nat.add_zero,List.length_map,hys.len,<-e2] at hst
 have hrun:(storeVar t ⟨g,off,none⟩ (a.eval y)).run P x=.ok () (x.setRow g ((upd off j ys xs).map (Value.int .u64)).toArray):=by
  simp[storeVar,sizeOf,typeInfo,hi,hy,hs,hys.len,hst]
 unfold Oper.wp execOp
 simp only[ho,hx,Instr.storeAt,Instr.sureAddr,Sem.run_bind,Sem.run_pure,Result.andThen_ok,hrun]
 refine hK _ _ ?_
 rw[hd]
 exact h
theorem oneP_ok (hC:CxB P C G)(hG:∀u,RowKit.Below S w u->G u){o:Oper}{l:List Oper}{q:List Bool}{sl1:List AV}{bs1:List Bk}{q1:List Bool}{o1:List Ob}(h1:stepP P C m ops sl bs q o=some (sl1,bs1,q1,o1))(h:Sl gs sl a)(ho:SOk gs.length sl)(hm:m<=gs.length)(H:Wd S w m gs bs x)(hH:Holds o1)
  (hK:∀gs' a' x',(∃e,gs'=gs++e)->Sl gs' sl1 a'->SOk gs'.length sl1->m<=gs'.length->a'.defers=a.defers->Wd S w m gs' bs1 x'->wpList P ops Q l a' x'):wpList P ops Q (o :: l) a x:=by
 have hput:∀(v:Value),(a.put o.dst v).defers=a.defers:=fun v=>by cases o.dst<;>rfl
 have fresh:∀(t:TypeId) (r:Row) (c:Array Value) (v:AV) (vd:Value),c=(den r).toArray->Ok r->v.Ok (gs.length+1)->v.den (gs++[x.heap.size])=vd->sl1=putA sl o.dst v->bs1=bs++[(t,r)]->wpList P ops Q l (a.put o.dst vd) (x.alloc (.cells c t)):=by
  intro t r c v vd hc hr hvo hvd e1 e2
  subst hc e1 e2 hvd
  have hb:RowKit.Below x.heap.size x (x.alloc (.cells (den r).toArray t)):=(Below.refl _ _).alloc (Nat.le_refl _) _
  have H':=(H.keep hb).push (g:=x.heap.size) (t:=t) (r:=r) (Has.new _ _ _) hr H.sz (fun k hk=>Nat.ne_of_lt (H.lt hk)) hm
  have hl:(gs++[x.heap.size]).length=gs.length+1:=by simp
  have hsl:=sl_put (d:=o.dst) (v:=v) (h.ext (g:=x.heap.size) ho)
  exact hK _ _ _ ⟨_,rfl⟩ hsl (sok_put (ho.ext (by omega)) (by rw[hl];exact hvo)) (by omega) (hput _) H'
 have pden:∀g,(AV.ptr bs.length 0).den (gs++[g])=.pointer (some ⟨g,0,none⟩):=fun g=>by rw[AV.den,<-H.len,getD_new]
 have pok:(AV.ptr bs.length 0).Ok (gs.length+1):=by
  show bs.length<gs.length+1
  rw[H.len]
  omega
 unfold stepP at h1
 split at h1
 ·rename_i t hop
  split at h1
  ·rename_i z hg hz
   injection h1 with h1
   injection h1 with e1 e2
   injection e2 with e2 e3
   obtain⟨⟨inf,v,i1,i2,i3⟩,oz⟩:=zeroOf_ok hz
   refine wpList_plain hg fun K hKK=>?_
   unfold Oper.wp execOp
   have hrun:(Instr.alloc t true (.tuple #[])).run P x=.ok (.pointer (some ⟨x.heap.size,0,none⟩)) (x.alloc (.cells v.cells t)):=by
    simp[Instr.alloc,zeroValue,typeInfo,i1,i2,newVar,newRow]
   simp only[hop,Sem.run_bind,hrun,Result.andThen_ok,Sem.run_pure,Oper.upon]
   exact hKK _ _ (fresh t z v.cells _ _ i3 oz pok (pden _) e1.symm e2.symm)
  ·cases h1
 ·rename_i t e hop
  split at h1
  ·rename_i r hg hr
   injection h1 with h1
   injection h1 with e1 e2
   injection e2 with e2 e3
   obtain⟨v,hv,hrr⟩:=Option.bind_eq_some_iff.1 hr
   obtain⟨v1,v2⟩:=ev_ok h ho hv
   obtain⟨c1,oz⟩:=rowOf_ok (gs:=gs) v2 hrr
   refine wpList_plain hg fun K hKK=>?_
   unfold Oper.wp execOp
   have hrun:(Instr.box t (a.eval e)).run P x=.ok (.pointer (some ⟨x.heap.size,0,none⟩)) (x.alloc (.cells (a.eval e).cells t)):=by
    simp[Instr.box,newVar,newRow]
   simp only[hop,Sem.run_bind,hrun,Result.andThen_ok,Sem.run_pure,Oper.upon]
   exact hKK _ _ (fresh t r _ _ _ (by rw[v1,c1]) oz pok (pden _) e1.symm e2.symm)
  ·cases h1
 ·rename_i t len ps hop
  split at h1
  ·rename_i z n vs e hg hz hv hu
   split at h1
   ·rename_i r hr
    injection h1 with h1
    injection h1 with e1 e2
    injection e2 with e2 e3
    obtain⟨v1,v2⟩:=evp_ok h ho hv
    have hmk:∃ie z0,P.info? e=some ie/\ie.zero=some z0/\ie.size=n/\len*ie.size<=2^24/\len*ie.size≠0/\(den z).toArray=(Array.range (len*ie.size)).map (z0.cells[· % z0.cells.size]!)/\Ok z:=by
     unfold mkRow at hz
     rw[hu] at hz
     simp only at hz
     split at hz
     ·rename_i ie hie
      split at hz
      ·rename_i z0 hz0
       split at hz
       ·rename_i hcc
        obtain⟨z1,hz1,he⟩:=Option.map_eq_some_iff.1 hz
        injection he with ea eb
        subst ea
        obtain⟨d1,d2⟩:=zrow_ok hz1
        exact⟨ie,z0,hie,hz0,eb,hcc.1,hcc.2,d1,d2⟩
       ·cases hz
      ·cases hz
     ·cases hz
    obtain⟨ie,z0,g1,g2,g3,g4,g5,g6,g7⟩:=hmk
    obtain⟨f1,f2⟩:=fillS_ok (gs:=gs) g7 v2 hr
    rw[<-v1,g6] at f1
    subst g3
    refine wpList_buildSlice hg t e len ps hop (den r).toArray ie z0 hu g1 g2 (by omega) g5 ?_ ?_
    ·rw[Array.toList_map]
     exact f1
    ·exact fresh e r _ (.slc bs.length 0 len len) _ rfl f2 pok (by rw[AV.den,<-H.len,getD_new]) e1.symm e2.symm
   ·cases h1
  ·cases h1
 ·rename_i t p y hop
  split at h1
  ·rename_i k off v hg hd hp hy
   split at h1
   ·rename_i r tb rb i hv hb hi
    split at h1
    ·rename_i ll ee hl he
     split at h1
     ·rename_i hc
      injection h1 with h1
      injection h1 with e1 e2
      injection e2 with e2 e3
      subst e1 e2
      obtain⟨p1,p2⟩:=ev_ok h ho hp
      obtain⟨y1,y2⟩:=ev_ok h ho hy
      obtain⟨c1,hr⟩:=rowOf_ok (gs:=gs) y2 hv
      obtain⟨hh,hrb⟩:=H.bk k tb rb hb
      have hb:=(pb_at hb).1
      refine store_any hg hop hd p1 (by rw[y1,c1]) hr hi hc.2.1 hh hrb hc.2.2 hl he ?_
      exact hK _ _ _ ⟨[],(List.append_nil _).symm⟩ h ho hm rfl (H.set hb hc.1 (hh.row _) (ok_app (ok_app (part_ok hrb hl).2.1 hr) (part_ok hrb he).2.1) ⟨rfl,rfl,rfl,by simp,fun j hj hne=>setRow_other x _ j _ hne⟩)
     ·cases h1
    ·cases h1
   ·cases h1
  ·rename_i k off v hg hd hp hy
   split at h1
   ·rename_i r tb rb i hv hb hi
    split at h1
    ·rename_i j ys n xs hmr hmb
     split at h1
     ·rename_i hc
      injection h1 with h1
      injection h1 with e1 e2
      injection e2 with e2 e3
      injection e3 with e3 e4
      subst e1 e2 e4
      obtain⟨p1,p2⟩:=ev_ok h ho hp
      obtain⟨y1,y2⟩:=ev_ok h ho hy
      obtain⟨c1,hr⟩:=rowOf_ok (gs:=gs) y2 hv
      obtain⟨hh,hrb⟩:=H.bk k tb rb hb
      have hb:=(pb_at hb).1
      obtain⟨n1,d1⟩:=mg_ok hr hmr
      obtain⟨n2,d2⟩:=mg_ok hrb hmb
      rw[d2] at hh
      refine store_words hg hop hd p1 (by rw[y1,c1,d1]) n1 hi hc.2 hh n2 hH.1 ?_
      have hden:(den [.nums n (upd off j ys xs)]).toArray=((upd off j ys xs).map (Value.int .u64)).toArray:=by simp[den,Sg.den]
      rw[<-hden]
      exact hK _ _ _ ⟨[],(List.append_nil _).symm⟩ h ho hm rfl (H.set hb hc.1 (hh.row _) ⟨upd_nm n1 n2 hH.1,trivial⟩ ⟨rfl,rfl,rfl,by simp,fun j hj hne=>setRow_other x _ j _ hne⟩)
     ·cases h1
    ·cases h1
   ·cases h1
  ·cases h1
 ·rename_i c hop
  split at h1
  ·rename_i en hen
   split at h1
   ·rename_i vs hg hvs
    split at h1
    ·rename_i v b ps hev
     split at h1
     ·rename_i hnp
      injection h1 with h1
      injection h1 with e1 e2
      injection e2 with e2 e3
      injection e3 with e3 e4
      subst e1 e2 e4
      obtain⟨t,r⟩:=b
      obtain⟨a2,o2⟩:=evs_ok h ho hvs
      rw[<-H.len] at hev
      have hF:∃F,c.callee=.value (.func F)/\look3 C.T3 F=some en:=by
       unfold call3 at hen
       split at hen
       ·rename_i F hF
        exact⟨F,hF,hen⟩
       ·cases hen
      obtain⟨F,hF,hlk⟩:=hF
      have hE:=look3_ok hC.T3 hlk
      obtain⟨k1,k2,k3⟩:=hE.ok _ vs v t r ps gs hev hH o2 x (hG _ H.bel) H.bk
      refine wpList_plain hg fun K hKK=>?_
      unfold Oper.wp execOp
      have ha:c.args.map a.eval=(vs.map (AV.den gs)).toArray:=by rw[<-a2,<-Array.toList_map]
      simp only[hop,resolve,hF,Act.eval,Deferred.ofValue,ha,invoke,Array.append_empty,Array.empty_append,Sem.run_bind,Sem.run_pure,Result.andThen_ok,hE.enter]
      refine k3.mono fun e z hz=>?_
      obtain⟨g,g1,g2,rfl,g3⟩:=hz
      refine hKK _ _ ?_
      have H':=(H.keep g3).push (g:=g) g2 k1 (Nat.le_trans H.sz g1) (fun k hk=>Nat.ne_of_lt (Nat.lt_of_lt_of_le (H.lt hk) g1)) hm
      have hl:(gs++[g]).length=gs.length+1:=by simp
      have hsl:=sl_put (d:=o.dst) (v:=v) (h.ext (g:=g) ho)
      exact hK _ _ _ ⟨_,rfl⟩ hsl (sok_put (ho.ext (by omega)) (by rw[hl];exact k2)) (by omega) (hput _) H'
     ·cases h1
    ·cases h1
   ·cases h1
  ·split at h1
   ·rename_i en F caps hen
    split at h1
    ·rename_i vs hg hvs
     split at h1
     ·rename_i v bs5 q5 ps hev
      injection h1 with h1
      injection h1 with e1 e2
      injection e2 with e2 e3
      injection e3 with e3 e4
      subst e1 e2 e4
      obtain⟨g,hF,hg1,hlk⟩:=call4_ok hen
      have hE:=look4_ok hC.T4 hlk
      obtain⟨f1,o1⟩:=ev_ok h ho hg1
      obtain⟨a2,o2⟩:=evs_ok h ho hvs
      have hcall:=hE.ok hev hH (fun w hw=>by
       rcases List.mem_append.1 hw with hw|hw
       ·exact o2 w hw
       ·obtain⟨k,hk,rfl⟩:=List.mem_map.1 hw
        exact o1 k hk) hG hm H
      have ha:c.args.map a.eval=(vs.map (AV.den gs)).toArray:=by rw[<-a2,<-Array.toList_map]
      rw[List.map_append,List.map_map] at hcall
      have hall:(c.args.map a.eval)++(caps.map fun k=>Value.pointer (some ⟨gs.getD k 0,0,none⟩)).toArray=(vs.map (AV.den gs)++caps.map (AV.den gs∘fun k=>.ptr k 0)).toArray:=by
       rw[ha,List.append_toArray]
       rfl
      rw[<-hall] at hcall
      refine wpList_plain hg fun K hKK=>?_
      unfold Oper.wp execOp
      simp only[hop,resolve,hF,f1,AV.den,Deferred.ofValue,invoke,Array.append_empty,Array.empty_append,Sem.run_bind,Sem.run_pure,Result.andThen_ok,hE.enter]
      refine hcall.mono fun r z hz=>?_
      obtain⟨g',H',k1,k2,rfl⟩:=hz
      refine hKK _ _ ?_
      rw[<-k2 (gs++g')]
      exact hK _ _ _ ⟨g',rfl⟩ (sl_put (h.exts ho)) (sok_put (ho.ext (by simp)) (k1 _)) (by simp;omega) (hput _) H'
     ·cases h1
    ·cases h1
   ·split at h1
    ·rename_i v q5 o5 h5
     injection h1 with h1
     injection h1 with e1 e2
     injection e2 with e2 e3
     injection e3 with e3 e4
     subst e1 e2 e4
     obtain⟨ov,hs⟩:=stepR_ok hC h ho ⟨x,hG _ H.bel,H.bk⟩ h5 hH
     refine wpList_quiet (hs (fun z=>z=x) (fun z hz=>by subst hz;exact⟨hG _ H.bel,H.bk⟩)) (fun z hz=>?_)
     exact hK _ _ _ ⟨[],(List.append_nil _).symm⟩ (sl_put h) (sok_put ho ov) hm (hput _) (H.keep hz)
    ·cases h1
 ·split at h1
  ·rename_i v q5 o5 h5
   injection h1 with h1
   injection h1 with e1 e2
   injection e2 with e2 e3
   injection e3 with e3 e4
   subst e1 e2 e4
   obtain⟨ov,hs⟩:=stepR_ok hC h ho ⟨x,hG _ H.bel,H.bk⟩ h5 hH
   refine wpList_quiet (hs (fun z=>z=x) (fun z hz=>by subst hz;exact⟨hG _ H.bel,H.bk⟩)) (fun z hz=>?_)
   exact hK _ _ _ ⟨[],(List.append_nil _).symm⟩ (sl_put h) (sok_put ho ov) hm (hput _) (H.keep hz)
  ·cases h1
theorem one_ok (hC:CxB P C G)(hG:∀u,RowKit.Below S w u->G u){o:Oper}{l:List Oper}{q:List Bool}{sl1:List AV}{bs1:List Bk}{q1:List Bool}{o1:List Ob}(h1:stepS0 P C m ops sl bs q o=some (sl1,bs1,q1,o1))(h:Sl gs sl a)(ho:SOk gs.length sl)(hm:m<=gs.length)(H:Wd S w m gs bs x)(hH:Holds o1)
  (hK:∀gs' a' x',(∃e,gs'=gs++e)->Sl gs' sl1 a'->SOk gs'.length sl1->m<=gs'.length->a'.defers=a.defers->Wd S w m gs' bs1 x'->wpList P ops Q l a' x'):wpList P ops Q (o :: l) a x:=by
 have hput:∀(v:Value),(a.put o.dst v).defers=a.defers:=fun v=>by cases o.dst<;>rfl
 unfold stepS0 at h1
 split at h1
 ·rename_i bs2 hst
  injection h1 with h1
  injection h1 with e1 e2
  injection e2 with e2 e3
  subst e1 e2
  unfold storeF at hst
  split at hst
  ·rename_i t p y hop
   split at hst
   ·rename_i k F caps hg hd hp hy
    split at hst
    ·rename_i tb rb i hb hi
     split at hst
     ·rename_i hc
      obtain rfl:=Option.some.inj hst
      obtain⟨p1,p2⟩:=ev_ok h ho hp
      obtain⟨y1,y2⟩:=ev_ok h ho hy
      obtain⟨hh,hrb⟩:=H.has k tb rb hb
      have hlen:=denB_len (gs:=gs) hrb
      refine wpList_plain hg fun K hK'=>?_
      have hst:=run_storeCells_at P (gs.getD k 0) 0 tb [(AV.fn F caps).den gs] 0 (denB gs rb).toArray x hh.eq (by simp[hlen,hc.2.2]) (fun v hv=>by
       obtain rfl:=List.mem_singleton.1 hv
       rfl)
      have e2:List.drop (0+1) (denB gs rb)=[]:=List.drop_eq_nil_of_le (by omega)
      rw[List.toList_toArray,Nat.add_zero,List.length_singleton,e2,List.take_zero,List.nil_append,List.append_nil] at hst
      have hrun:(storeVar t ⟨gs.getD k 0,0,none⟩ (a.eval y)).run P x=.ok () (x.setRow (gs.getD k 0) #[(AV.fn F caps).den gs]):=by
       rw[y1]
       have hcs:((AV.fn F caps).den gs).cells=#[(AV.fn F caps).den gs]:=rfl
       simpa [storeVar,sizeOf,typeInfo,hi,hcs,hc.2.1] using hst
      unfold Oper.wp execOp
      simp only[hop,p1,AV.den,Instr.storeAt,Instr.sureAddr,Sem.run_bind,Sem.run_pure,Result.andThen_ok]
      simp only[AV.den] at hrun
      simp only[hrun,Result.andThen_ok]
      refine hK' _ _ ?_
      rw[hd]
      exact hK _ _ _ ⟨[],(List.append_nil _).symm⟩ h ho hm rfl (H.setB hb hc.1 (r:=[.nm (.fn F caps)]) (hh.row _) y2 ⟨rfl,rfl,rfl,by simp,fun j hj hne=>setRow_other x _ j _ hne⟩)
     ·cases hst
    ·cases hst
   ·cases hst
  ·cases hst
 ·split at h1
  ·rename_i v hld
   injection h1 with h1
   injection h1 with e1 e2
   injection e2 with e2 e3
   injection e3 with e3 e4
   subst e1 e2
   unfold loadF at hld
   split at hld
   ·rename_i t p hop
    split at hld
    ·rename_i k d i hg hp hu hi
     split at hld
     ·rename_i tb r hb
      split at hld
      ·rename_i F caps hf
       split at hld
       ·cases hld
       ·rename_i hd
        obtain rfl:=Option.some.inj hld
        obtain⟨p1,p2⟩:=ev_ok h ho hp
        obtain⟨hh,hrb⟩:=H.has k tb r hb
        rw[OkB,hf] at hrb
        rw[denB,hf] at hh
        have hagg:(isAgg t).run P x=.ok false x:=by
         unfold isAgg
         rw[Sem.run_bind,run_underlying hu x]
         cases d<;>first|rfl|(simp[TypeDesc.isRow] at hd)
        have hcell:x.cell? ⟨gs.getD k 0,0,none⟩=some ((AV.fn F caps).den gs):=hh.cell 0
        have hl:(loadVar t ⟨gs.getD k 0,0,none⟩).run P x=.ok ((AV.fn F caps).den gs) x:=by
         generalize gs.getD k 0=g at hcell
         generalize (AV.fn F caps).den gs=v at hcell
         simp[loadVar,Sem.run_bind,hagg,hcell]
        refine wpList_plain hg fun K hK'=>?_
        unfold Oper.wp execOp
        simp only[hop,p1,AV.den,Instr.loadAt,Instr.sureAddr,Sem.run_bind,Sem.run_pure,Result.andThen_ok]
        simp only[AV.den] at hl
        simp only[hl,Result.andThen_ok]
        refine hK' _ _ ?_
        exact hK _ _ _ ⟨[],(List.append_nil _).symm⟩ (sl_put (v:=.fn F caps) h) (sok_put ho (v:=.fn F caps) hrb) hm (hput _) H
      ·cases hld
     ·cases hld
    ·cases hld
   ·cases hld
  ·exact oneP_ok hC hG h1 h ho hm H hH hK
theorem seq_ok (hC:CxB P C G)(hG:∀u,RowKit.Below S w u->G u):∀{l:List Oper} {sl:List AV} {bs:List Bk} {q:List Bool} {gs:List Nat} {a:Act} {x:World} {sl2:List AV} {bs2:List Bk} {q2:List Bool} {obs:List Ob},
  seqS P C m ops l sl bs q=some (sl2,bs2,q2,obs)->Sl gs sl a->SOk gs.length sl->m<=gs.length->Wd S w m gs bs x->Holds obs ->
  (∀gs' a' x',(∃e,gs'=gs++e)->Sl gs' sl2 a'->SOk gs'.length sl2->m<=gs'.length->a'.defers=a.defers->Wd S w m gs' bs2 x'->Q .normal a' x')->wpList P ops Q l a x
 |[],sl,bs,q,gs,a,x,sl2,bs2,q2,obs,he,h,ho,hm,H,hH,hK=>by
  injection he with he
  injection he with e1 e2
  injection e2 with e2 e3
  subst e1 e2
  exact hK gs a x ⟨[],(List.append_nil _).symm⟩ h ho hm rfl H
 |o :: l,sl,bs,q,gs,a,x,sl2,bs2,q2,obs,he,h,ho,hm,H,hH,hK=>by
  unfold seqS at he
  split at he
  ·cases he
  ·rename_i sl1 bs1 q1 o1 h1
   split at he
   ·cases he
   ·rename_i sl3 bs3 q3 o3 h2
    injection he with he
    injection he with e1 e2
    injection e2 with e2 e3
    injection e3 with e3 e4
    subst e1 e2 e3 e4
    obtain⟨ha,hbb⟩:=holds_app hH
    have step:∀o',stepS0 P C m ops sl bs q o'=some (sl1,bs1,q1,o1)->wpList P ops Q (o' :: l) a x:=fun o' h0=>
     one_ok hC hG h0 h ho hm H ha (fun gs' a' x' pe p1 p2 p3 p4 p5=>seq_ok hC hG h2 p1 p2 p3 p5 hbb (fun gs2 a2 x2 pe2 r1 r2 r3 r4 r5=>hK gs2 a2 x2 (by
      obtain⟨e,rfl⟩:=pe
      obtain⟨e',rfl⟩:=pe2
      exact⟨_,List.append_assoc ..⟩) r1 r2 r3 (r4.trans p4) r5))
    unfold stepS at h1
    split at h1
    ·exact step o h1
    ·split at h1
     ·rename_i hw
      exact wpList_unguard (want_ok h hw) (step _ h1)
     ·rename_i hw
      injection h1 with h1
      injection h1 with e1 e2
      injection e2 with e2 e3
      injection e3 with e3 e4
      subst e1 e2 e4
      have hwt:=want_ok (a:=a) h hw
      unfold wpList
      rw[hwt,if_neg (by decide)]
      exact seq_ok hC hG h2 (sl_put h) (sok_put ho trivial) hm H hbb (fun gs' a' x' pe p1 p2 p3 p4 p5=>hK gs' a' x' pe p1 p2 p3 (p4.trans (by cases o.dst<;>rfl)) p5)
     ·cases h1
end
end Sx
namespace Sx
open Go Go.RowKit Reg Limb Fp2
class Rel where
 R:List Nat->List Nat->Prop
 refl:∀a,R a a
 trans:∀{a b c},R a b->R b c->R a c
 ext:∀a e,R a (a++e)
instance anyRel:Rel:=⟨fun _ _=>True,fun _=>trivial,fun _ _=>trivial,fun _ _=>trivial⟩
abbrev extRel:Rel:=⟨fun a b=>∃e,b=a++e,fun a=>⟨[],(List.append_nil _).symm⟩,fun ⟨e,h⟩ ⟨f,k⟩=>⟨e++f,by rw[k,h,List.append_assoc]⟩,fun a e=>⟨e,rfl⟩⟩
structure Thr [Rel] (gs:List Nat) (a:Act) (gs':List Nat) (a':Act):Prop where
 defers:a'.defers=a.defers
 rel:Rel.R gs gs'
theorem Thr.trans [Rel]{gs gs1 gs2:List Nat}{a a1 a2:Act}(h2:Thr gs1 a1 gs2 a2)(h1:Thr gs a gs1 a1):Thr gs a gs2 a2:=⟨h2.defers.trans h1.defers,Rel.trans h1.rel h2.rel⟩
theorem Thr.of [Rel]{gs:List Nat}{a a':Act}(h:a'.defers=a.defers):Thr gs a gs a':=⟨h,Rel.refl _⟩
theorem Thr.ext [Rel]{gs gs':List Nat}{a a':Act}(h:a'.defers=a.defers)(he:∃e,gs'=gs++e):Thr gs a gs' a':=by
 obtain⟨e,rfl⟩:=he
 exact⟨h,Rel.ext _ _⟩
def isRead (C:Cx):Op->Bool
 |.call c=>(call3 C c).isNone
 |.alloc _ | .store .. | .buildSlice .. | .box ..=>false
 |_=>true
def nReads (C:Cx):List Oper->Nat
 |[]=>0
 |o :: l=>if isRead C o.op then nReads C l+1 else 0
def nAllocs:List Oper->Nat
 |[]=>0
 |o :: l=>match o.op with
  |.alloc _=>nAllocs l+1
  |_=>0
def rdy (ops:Array Oper)(L:Array Bool)(is:List Nat):Bool:=decide (Region.ready .any ops L=is)
def dF (ops:Array Oper)(i:Nat):Tmp:=((ops[i]?).bind (·.dst)).getD 0
def alT:Op->TypeId
 |.alloc t=>t
 |_=>0
def tF (ops:Array Oper)(i:Nat):TypeId:=match ops[i]? with
 |some o=>alT o.op
 |none=>0
def zF (P:Program)(ops:Array Oper)(i:Nat):Array Value:=(den ((zeroOf P (tF ops i)).getD [])).toArray
def allocsI (P:Program)(ops:Array Oper):List Nat->List AV->List Bk->Option (List AV×List Bk)
 |[],sl,bs=>some (sl,bs)
 |i :: is,sl,bs=>match ops[i]? with
  |some o=>match o.op,o.dst,o.guard with
   |.alloc t,some d,none=>match zeroOf P t with
    |some z=>allocsI P ops is (sl.set d (.ptr bs.length 0)) (bs++[(t,z)])
    |none=>none
   |_,_,_=>none
  |none=>none
def storesB (P:Program)(ops:Array Oper)(b0:Nat)(sl:List AV):Nat->List Oper->List Bk->Array Bool->Option (List Bk)
 |i,[],bs,L=>if rdy ops L [] then some bs else none
 |i,o :: l,bs,L=>match o.op,o.guard,o.dst with
  |.store t p y,none,none=>match ev sl p,ev sl y with
   |some (.ptr k 0),some (.agg r)=>match pb bs k,P.info? t with
    |some (tb,rb),some inf=>if b0<=k/\inf.size=sz r/\sz rb=sz r/\rdy ops L [i]=true then storesB P ops b0 sl (i+1) l (bs.set k (tb,r)) (L.setIfInBounds i true) else none
    |_,_=>none
   |_,_=>none
  |_,_,_=>none
def tgt (sl:List AV)(k:Nat):List Oper->Bool
 |[]=>false
 |o :: l=>(match o.op with
  |.store _ p _=>(match ev sl p with
   |some (.ptr j _)=>Nat.beq j k
   |some (.ptrS j _)=>Nat.beq j k
   |_=>false)
  |_=>false)||tgt sl k l
def mask (ops:Array Oper)(sl:List AV)(bs:List Bk)(k:Nat):Option Bk:=if tgt sl k ops.toList then none else pb bs k
def sane (C:Cx)(ops:Array Oper):Bool:=ops.toList.all fun o=>match o.op with
 |.store _ (.tmp t) _=>ops.toList.all fun o'=>!(isRead C o'.op)||(match o'.dst with|some d=>!(Nat.beq d t)|none=>true)
 |.store ..=>false
 |_=>true
def opAt (ops:Array Oper)(i:Nat):Oper:=ops[i]?.getD default
def findR (C:Cx)(ops:Array Oper)(L:Array Bool)(p:Nat->Bool):List Nat->Option Nat
 |[]=>none
 |i :: l=>if isRead C (opAt ops i).op&&Region.free .any ops L i&&p i then some i else findR C ops L p l
abbrev Outs:=List (List AV×List Bk)×List Ob
def joinO:Option Outs->Option Outs->Option Outs
 |some (a,o),some (b,p)=>some (a++b,o++p)
 |_,_=>none
def exAll (f:Nat->Option Outs):List Nat->Option Outs
 |[]=>some ([],[])
 |i :: l=>joinO (f i) (exAll f l)
def ex (P:Program)(C:Cx)(m:Nat)(ops:Array Oper):Nat->Array Bool->List AV->List Bk->Option Outs
 |0,L,sl,bs=>if rdy ops L [] then some ([(sl,bs)],[]) else none
 |f+1,L,sl,bs=>match findR C ops L (fun i=>(stepR P C ops (mask ops sl bs) sl [true] (opAt ops i)).isSome) (Region.ready .any ops L) with
  |some i=>match stepR P C ops (mask ops sl bs) sl [true] (opAt ops i) with
   |some (v,_,o1)=>match ex P C m ops f (L.setIfInBounds i true) (putA sl (opAt ops i).dst v) bs with
    |some (outs,o2)=>some (outs,o1++o2)
    |none=>none
   |none=>none
  |none=>match Region.ready .any ops L with
   |[]=>none
   |r=>exAll (fun i=>if isRead C (opAt ops i).op then (match stepR P C ops (pb bs) sl [true] (opAt ops i) with
    |some (v,_,o1)=>match ex P C m ops f (L.setIfInBounds i true) (putA sl (opAt ops i).dst v) bs with
     |some (outs,o2)=>some (outs,o1++o2)
     |none=>none
    |none=>none) else match stepS P C m ops sl bs [] (opAt ops i) with
    |some (sl1,bs1,_,o1)=>(match ex P C m ops f (L.setIfInBounds i true) sl1 bs1 with
     |some (outs,o2)=>some (outs,o1++o2)
     |none=>none)
    |none=>none) r
def drawS0 (P:Program)(C:Cx)(m:Nat)(lo:List Oper)(sl:List AV)(bs:List Bk)(q:List Bool):Option (List AV×List Bk×List Bool×List Ob):=
 let n:=nReads C lo
 let L:=firstN n 0 (Array.replicate lo.toArray.size false)
 match lo.drop n with
 |[]=>if readsOK lo n 0&&rdy lo.toArray L [] then (match rds P C lo.toArray (pb bs) (lo.take n) sl q with
   |some (sl2,q2,o2)=>some (sl2,bs,q2,o2)
   |none=>none) else none
 |o :: rest=>if Region.lexTailB .any lo.toArray n then (match rds P C lo.toArray (pb bs) (lo.take n) sl q with
   |some (sl2,q2,o2)=>match seqS P C m lo.toArray (lo.drop n) sl2 bs q2 with
    |some (sl3,bs3,q3,o3)=>some (sl3,bs3,q3,o2++o3)
    |none=>none
   |none=>none)
  else
   let c:=nAllocs (o :: rest)
   let al:=List.range' n c
   if readsOK lo n (c+((o :: rest).drop c).length)&&decide (al.map (dF lo.toArray)).Nodup&&allocB .any lo.toArray al.length al L then (match rds P C lo.toArray (pb bs) (lo.take n) sl q with
    |some (sl2,q2,o2)=>match allocsI P lo.toArray al sl2 bs with
     |some (sl3,bs3)=>match storesB P lo.toArray bs.length sl3 (n+c) ((o :: rest).drop c) bs3 (lst L al) with
      |some bs4=>some (sl3,bs4,q2,o2)
      |none=>none
     |none=>none
    |none=>none) else none
abbrev O3:=List AV×List Bk×List Bool
def drawS (P:Program)(C:Cx)(m:Nat)(lo:List Oper)(sl:List AV)(bs:List Bk)(q:List Bool):Option (List O3×List Ob):=
 match drawS0 P C m lo sl bs q with
 |some (sl2,bs2,q2,o2)=>some ([(sl2,bs2,q2)],o2)
 |none=>if Region.noSelect lo.toArray&&sane C lo.toArray then (match ex P C m lo.toArray lo.toArray.size (Array.replicate lo.toArray.size false) sl bs with
  |some (outs,o)=>some (outs.map fun x=>(x.1,x.2,q),o)
  |none=>none) else none
section
variable {S m:Nat} {w x y u:World} {gs:List Nat} {bs:List Bk} {sl:List AV} {G:World->Prop} {C:Cx} {ops:Array Oper} {a:Act} {Q:Exit->Act->World->Prop} {P:Program}
theorem stores_ok {b0:Nat}(hb0:∀k,b0<=k->k<gs.length->x.heap.size<=gs.getD k 0)(hmb:m<=b0)(h:Sl gs sl a)(ho:SOk gs.length sl):∀{l:List Oper} {i:Nat} {bs bs2:List Bk} {L:Array Bool} {y:World},
  (∀j o,l[j]? = some o->ops[i+j]? = some o)->storesB P ops b0 sl i l bs L=some bs2->Wd S w m gs bs y->But x.heap.size x y->(∀z,Wd S w m gs bs2 z->Q .normal a z)->wpAnyU P .any ops Q (But x.heap.size x) l.length L a y
 |[],i,bs,bs2,L,y,hl,he,H,hy,hK=>by
  unfold storesB at he
  split at he
  ·rename_i hr
   obtain rfl:=Option.some.inj he
   exact wpAnyU_end (by simpa [rdy] using hr) (fun z hz=>hK z (H.keep hz))
  ·cases he
 |o :: l,i,bs,bs2,L,y,hl,he,H,hy,hK=>by
  unfold storesB at he
  split at he
  ·rename_i t p q hop hg hd
   split at he
   ·rename_i k r hp hq
    split at he
    ·rename_i tb rb inf hb hi
     split at he
     ·rename_i hc
      obtain⟨p1,p2⟩:=ev_ok h ho hp
      obtain⟨q1,q2⟩:=ev_ok h ho hq
      have hkl:k<gs.length:=p2
      refine wpAnyU_run (oi:=o) (hl 0 o rfl) (by simpa [rdy] using hc.2.2.2) (fun z hz=>?_)
      have Hz:=H.keep hz
      have hh:=(Hz.bk k tb rb hb).1
      have hrb:=(Hz.bk k tb rb hb).2
      have hge:=hb0 k hc.1 hkl
      refine wpList_store_rowTo hg t p q hop hd (gs.getD k 0) (den r).toArray p1 q1 tb _ hh.eq (by rw[hi,List.size_toArray,den_len q2];exact congrArg some hc.2.1) (by rw[List.size_toArray,List.size_toArray,den_len q2,den_len hrb];exact hc.2.2.1) (den_one q2) ?_
      have hbz:But x.heap.size x z:=hy.then hz
      have hbut:But x.heap.size x (z.setRow (gs.getD k 0) (den r).toArray):=⟨hbz.os,hbz.tape,hbz.output,by simpa using hbz.size,fun j hj hne=>(setRow_other z _ j _ (by omega)).trans (hbz.block j hj hne)⟩
      refine⟨hbut,stores_ok hb0 hmb h ho (fun j o' hj=>?_) he (Hz.set (pb_at hb).1 (Nat.le_trans hmb hc.1) (hh.row _) q2 ⟨rfl,rfl,rfl,by simp,fun j hj hne=>setRow_other z _ j _ hne⟩) hbut hK⟩
      have:=hl (j+1) o' (by simpa using hj)
      rwa [show i+(j+1)=i+1+j by omega] at this
     ·cases he
    ·cases he
   ·cases he
  ·cases he
theorem allocs_at:∀{is:List Nat} {sl:List AV} {bs:List Bk} {sl2:List AV} {bs2:List Bk},allocsI P ops is sl bs=some (sl2,bs2)->∀i∈is,AllocAt P ops i (dF ops i) (tF ops i) (zF P ops i)
 |[],_,_,_,_,_,i,hi=>by cases hi
 |j :: is,sl,bs,sl2,bs2,he,i,hi=>by
  unfold allocsI at he
  split at he
  ·rename_i o h1
   split at he
   ·rename_i t d h2 h3 h4
    split at he
    ·rename_i z h5
     rcases List.mem_cons.1 hi with rfl|hi
     ·have e1:dF ops i=d:=by simp[dF,h1,h3]
      have e2:tF ops i=t:=by simp[tF,h1,h2,alT]
      have e3:zF P ops i=(den z).toArray:=by simp[zF,e2,h5]
      rw[e1,e2,e3]
      exact⟨⟨o,h1,h4,h3,h2⟩,(zeroOf_ok h5).1⟩
     ·exact allocs_at he i hi
    ·cases he
   ·cases he
  ·cases he
theorem allocs_wd (hm:m<=gs.length)(hgs:∀k,k<gs.length->gs.getD k 0<x.heap.size)(G:Nat->Nat):∀{is:List Nat} {sl:List AV} {bs:List Bk} {sl2:List AV} {bs2:List Bk} {gs1:List Nat} {a:Act} {y:World},
  allocsI P ops is sl bs=some (sl2,bs2)->(∀i∈is,Has y (G i) (tF ops i) (zF P ops i)/\x.heap.size<=G i)->is.Nodup->(∀i∈is,∀j∈is,i≠j->G i≠G j)->S<=x.heap.size ->
  m<=gs1.length->(∀i∈is,∀k,k<gs1.length->gs1.getD k 0≠G i)->Sl gs1 sl a->SOk gs1.length sl->Wd S w m gs1 bs y->Sl (gs1++is.map G) sl2 (pts (dF ops) G a is)/\SOk (gs1++is.map G).length sl2/\Wd S w m (gs1++is.map G) bs2 y
 |[],sl,bs,sl2,bs2,gs1,a,y,he,hG,hnd,hd,hSx,hm1,hne,h,ho,H=>by
  injection he with he
  injection he with e1 e2
  subst e1 e2
  simp only[List.map_nil,List.append_nil]
  exact⟨h,ho,H⟩
 |i :: is,sl,bs,sl2,bs2,gs1,a,y,he,hG,hnd,hd,hSx,hm1,hne,h,ho,H=>by
  unfold allocsI at he
  split at he
  ·rename_i o h1
   split at he
   ·rename_i t d h2 h3 h4
    split at he
    ·rename_i z h5
     have e1:dF ops i=d:=by simp[dF,h1,h3]
     have e2:tF ops i=t:=by simp[tF,h1,h2,alT]
     have e3:zF P ops i=(den z).toArray:=by simp[zF,e2,h5]
     have hi:=hG i (by simp)
     rw[e2,e3] at hi
     have hnd':=List.nodup_cons.1 hnd
     have H':=H.push (g:=G i) hi.1 (zeroOf_ok h5).2 (Nat.le_trans hSx hi.2) (fun k hk=>hne i (by simp) k hk) hm1
     have hl:(gs1++[G i]).length=gs1.length+1:=by simp
     have hsl:=sl_put (d:=some d) (v:=.ptr bs.length 0) (h.ext (g:=G i) ho)
     rw[AV.den,<-H.len,getD_new] at hsl
     have hok:SOk (gs1++[G i]).length (sl.set d (.ptr bs.length 0)):=sok_put (d:=some d) (ho.ext (by omega)) (by rw[<-H.len];show gs1.length<_;omega)
     rw[<-H.len] at hok
     have ih:=allocs_wd hm hgs G (gs1:=gs1++[G i]) (a:=a.put (some d) (.pointer (some ⟨G i,0,none⟩))) he (fun j hj=>hG j (List.mem_cons_of_mem _ hj)) hnd'.2 (fun j hj k hk=>hd j (List.mem_cons_of_mem _ hj) k (List.mem_cons_of_mem _ hk)) hSx (by omega)
      (fun j hj k hk=>?_) (by rw[<-H.len];exact hsl) (by rw[<-H.len];exact hok) H'
     ·rw[List.append_assoc] at ih
      have e4:pts (dF ops) G a (i :: is)=pts (dF ops) G (a.put (some d) (.pointer (some ⟨G i,0,none⟩))) is:=by simp[pts,e1]
      rw[List.map_cons,e4]
      exact ih
     ·by_cases hlt:k<gs1.length
      ·rw[getD_ext hlt]
       exact hne j (List.mem_cons_of_mem _ hj) k hlt
      ·obtain rfl:k=gs1.length:=by omega
       rw[getD_new]
       exact hd i (by simp) j (List.mem_cons_of_mem _ hj) (fun e=>hnd'.1 (e▸hj))
    ·cases he
   ·cases he
  ·cases he
theorem firstN_app:∀(l:List Oper) (n j:Nat) (o:Oper),(l.drop n)[j]? = some o->l.toArray[n+j]? = some o:=fun l n j o h=>by
 rw[List.getElem?_drop] at h
 simpa using h
theorem pts_defers {dst:Nat->Tmp}{G:Nat->Nat}:∀(ex:List Nat) (a:Act),(pts dst G a ex).defers=a.defers
 |[],_=>rfl
 |i :: ex,a=>by
  unfold pts
  simp only[List.foldl_cons]
  exact pts_defers ex _
theorem rdq_ok (hC:CxB P C G){bl:Nat->Option Bk}(h0:∃u,G u/\BOk gs bl u)(hS:∀u,RowKit.Below x.heap.size x u->G u/\BOk gs bl u):∀{l:List Oper} {sl:List AV} {q:List Bool} {a:Act} {sl2:List AV} {q2:List Bool} {obs:List Ob} {K:Act->Prop},
  rds P C ops bl l sl q=some (sl2,q2,obs)->Sl gs sl a->SOk gs.length sl->Holds obs->(∀a',Sl gs sl2 a'->SOk gs.length sl2->a'.defers=a.defers->K a')->wpQuiet P ops (fun z=>RowKit.Below x.heap.size x z) K l a
 |[],sl,q,a,sl2,q2,obs,K,he,h,ho,hH,hK=>by
  injection he with he
  injection he with e1 e2
  subst e1
  exact hK a h ho rfl
 |o :: l,sl,q,a,sl2,q2,obs,K,he,h,ho,hH,hK=>by
  unfold rds at he
  split at he
  ·cases he
  ·rename_i v q1 o1 h1
   split at he
   ·cases he
   ·rename_i sl3 q3 o3 h2
    injection he with he
    injection he with e1 e2
    injection e2 with e2 e3
    subst e1 e2 e3
    obtain⟨ha,hbb⟩:=holds_app hH
    obtain⟨ov,hs⟩:=stepR_ok hC h ho h0 h1 ha
    have next:=rdq_ok hC h0 hS (a:=a.put o.dst (v.den gs)) (K:=K) h2 (sl_put h) (sok_put ho ov) hbb (fun a' h3 h4 h5=>hK a' h3 h4 (h5.trans (by cases o.dst<;>rfl)))
    unfold wpQuiet
    rcases hs _ hS with ⟨hw,hq⟩|⟨hw,hu⟩
    ·rw[if_pos hw]
     refine⟨_,fun u hu=>?_,next⟩
     have hqu:=hq u hu
     unfold Oper.quietAt at hqu ⊢
     generalize (execOp a.eval o).run P u=res at hqu
     unfold Oper.quietUpon at hqu ⊢
     split at hqu
     ·exact hqu
     ·exact hqu
     ·exact⟨hqu.1,hqu.2.mono fun e z ⟨e1,e2⟩=>⟨e1,hu.trans (e2.mono hu.size)⟩⟩
     ·exact hqu.elim
    ·rw[hw,if_neg (by decide),<-hu]
     exact next
theorem findR_ok {L:Array Bool}{p:Nat->Bool}:∀{l:List Nat} {i:Nat},findR C ops L p l=some i->i∈l/\isRead C (opAt ops i).op=true/\Region.free .any ops L i=true
 |[],_,h=>by cases h
 |j :: l,i,h=>by
  unfold findR at h
  split at h
  ·rename_i hc
   obtain rfl:=Option.some.inj h
   simp only[Bool.and_eq_true] at hc
   exact⟨by simp,hc.1.1,hc.1.2⟩
  ·obtain⟨a,b⟩:=findR_ok h
   exact⟨List.mem_cons_of_mem _ a,b⟩
theorem exAll_ok {f:Nat->Option Outs}:∀{l:List Nat} {outs:List (List AV×List Bk)} {ob:List Ob},exAll f l=some (outs,ob)->Holds ob->∀i∈l,∃o1 b1,f i=some (o1,b1)/\Holds b1/\∀x∈o1,x∈outs
 |[],_,_,_,_,i,hi=>by cases hi
 |j :: l,outs,ob,h,hH,i,hi=>by
  unfold exAll joinO at h
  split at h
  ·rename_i a o b p h1 h2
   injection h with h
   injection h with e1 e2
   subst e1 e2
   obtain⟨ha,hb⟩:=holds_app hH
   rcases List.mem_cons.1 hi with rfl|hi
   ·exact⟨a,o,h1,ha,fun x hx=>List.mem_append_left _ hx⟩
   ·obtain⟨o1,b1,q1,q2,q3⟩:=exAll_ok h2 hb i hi
    exact⟨o1,b1,q1,q2,fun x hx=>List.mem_append_right _ (q3 x hx)⟩
  ·cases h
theorem tgt_put {d:Tmp}{v:AV}{k:Nat}:∀{l:List Oper},(∀o∈l,∀t p y,o.op=.store t p y->∃q,p=.tmp q/\q≠d)->tgt (sl.set d v) k l=tgt sl k l
 |[],_=>rfl
 |o :: l,h=>by
  unfold tgt
  rw[tgt_put (fun o' ho'=>h o' (List.mem_cons_of_mem _ ho'))]
  congr 1
  cases hop:o.op with
  |store t p y=>
   obtain⟨q,rfl,hq⟩:=h o (by simp) t p y hop
   simp only[ev]
   rw[List.getElem?_set_ne (Ne.symm hq)]
  |_=>rfl
theorem sane_put (hs:sane C ops=true){o:Oper}(ho:o∈ops.toList)(hr:isRead C o.op=true){v:AV}{k:Nat}:tgt (putA sl o.dst v) k ops.toList=tgt sl k ops.toList:=by
 cases hd:o.dst with
 |none=>rfl
 |some d=>
  refine tgt_put (fun o' ho' t p y hop=>?_)
  have:=List.all_eq_true.1 hs o' ho'
  rw[hop] at this
  cases p with
  |tmp q=>
   refine⟨q,rfl,fun he=>?_⟩
   subst he
   have h2:=List.all_eq_true.1 this o ho
   rw[hr,hd] at h2
   simp at h2
  |_=>cases this
theorem tgt_new {d:Tmp}{v:AV}{k:Nat}(hv:∀j off,v=.ptr j off∨v=.ptrS j off->j≠k):∀{l:List Oper},tgt (putA sl (some d) v) k l=true->tgt sl k l=true
 |[],h=>by cases h
 |o :: l,h=>by
  unfold tgt at h ⊢
  simp only[Bool.or_eq_true] at h ⊢
  rcases h with h|h
  ·left
   cases hop:o.op with
   |store t p y=>
    rw[hop] at h
    simp only at h ⊢
    cases p with
    |tmp q=>
     simp only[ev,putA] at h ⊢
     by_cases hq:d=q
     ·subst hq
      by_cases hl:d<sl.length
      ·rw[List.getElem?_set_self hl] at h
       cases v with
       |ptr j off=>
        simp only at h
        exact absurd (Nat.eq_of_beq_eq_true h) (hv j off (.inl rfl))
       |ptrS j off=>
        simp only at h
        exact absurd (Nat.eq_of_beq_eq_true h) (hv j off (.inr rfl))
       |_=>cases h
      ·have hnone:(sl.set d v)[d]? = none:=List.getElem?_eq_none (by rw[List.length_set];exact Nat.le_of_not_lt hl)
       rw[hnone] at h
       cases h
     ·rw[List.getElem?_set_ne hq] at h
      exact h
    |_=>exact h
   |_=>rw[hop] at h;cases h
  ·right
   exact tgt_new hv h
def Sst (S:Nat)(w:World)(ops:Array Oper)(gs:List Nat)(sl:List AV)(bs:List Bk)(z:World):Prop:=RowKit.Below S w z/\BOk gs (mask ops sl bs) z
theorem sst_of (H:Wd S w m gs bs x):Sst S w ops gs sl bs x:=⟨H.bel,fun k t r hk=>by
 unfold mask at hk
 split at hk
 ·cases hk
 ·exact H.bk k t r hk⟩
theorem sst_up (hS:S<=x.heap.size):∀z z',(Sst S w ops gs sl bs z/\S<=z.heap.size)->RowKit.Below z.heap.size z z'->(Sst S w ops gs sl bs z'/\S<=z'.heap.size):=fun z z' h hb=>
 ⟨⟨h.1.1.trans (hb.mono h.2),fun k t r hk=>⟨(h.1.2 k t r hk).1.keep hb,(h.1.2 k t r hk).2⟩⟩,Nat.le_trans h.2 hb.size⟩
theorem step0_mask {q q1:List Bool}{sl1:List AV}{bs1:List Bk}{o:Oper}{o1:List Ob}(hop:∃o'∈ops.toList,o'.op=o.op)(hr:isRead C o.op=false)(he:stepS0 P C m ops sl bs q o=some (sl1,bs1,q1,o1)){k t:Nat}{r:Row}(hk:mask ops sl bs k=some (t,r)):mask ops sl1 bs1 k=some (t,r):=by
 unfold mask at hk ⊢
 split at hk
 ·cases hk
 ·rename_i hn
  have hkl:k<bs.length:=(List.getElem?_eq_some_iff.1 (pb_at hk).1).1
  have fresh:∀(v:AV) (b:Bk),(∀j off,v=.ptr j off∨v=.ptrS j off->j=bs.length)->sl1=putA sl o.dst v->bs1=bs++[b]->(if tgt sl1 k ops.toList=true then none else pb bs1 k)=some (t,r):=by
   intro v b hv e1 e2
   subst e1 e2
   have:tgt (putA sl o.dst v) k ops.toList=false:=by
    cases hd:o.dst with
    |none=>simpa [putA] using hn
    |some d=>
     cases hq:tgt (putA sl (some d) v) k ops.toList with
     |false=>rfl
     |true=>exact absurd (tgt_new (fun j off hj=>by rw[hv j off hj];omega) hq) hn
   rw[this,pb_app hkl]
   exact hk
  unfold stepS0 at he
  split at he
  ·rename_i bs2 hst
   injection he with he
   injection he with e1 he
   injection he with e2 e3
   subst e1 e2
   rw[if_neg hn]
   unfold storeF at hst
   split at hst
   ·rename_i tt p y hso
    split at hst
    ·rename_i k0 F caps hg hd hp hy
     split at hst
     ·split at hst
      ·obtain rfl:=Option.some.inj hst
       have hne:k0≠k:=fun e=>by
        subst e
        refine hn ?_
        obtain⟨o',ho',hoo⟩:=hop
        have hst':o'.op=.store tt p y:=hoo.trans hso
        have:∀l:List Oper,o'∈l->tgt sl k0 l=true:=by
         intro l
         induction l with
         |nil=>intro h;cases h
         |cons a l ih=>
          intro h
          unfold tgt
          rcases List.mem_cons.1 h with rfl|h
          ·rw[hst']
           simp[hp]
          ·rw[ih h,Bool.or_true]
        exact this _ ho'
       rw[pb_set hne]
       exact hk
      ·cases hst
     ·cases hst
    ·cases hst
   ·cases hst
  split at he
  ·rename_i v hld
   unfold loadF at hld
   split at hld
   ·rename_i tt p hlo
    rw[hlo] at hr
    cases hr
   ·cases hld
  unfold stepP at he
  split at he
  ·split at he
   ·injection he with he
    injection he with e1 he
    injection he with e2 e3
    exact fresh _ _ (fun j off h=>by rcases h with h|h<;>cases h;rfl) e1.symm e2.symm
   ·cases he
  ·split at he
   ·injection he with he
    injection he with e1 he
    injection he with e2 e3
    exact fresh _ _ (fun j off h=>by rcases h with h|h<;>cases h;rfl) e1.symm e2.symm
   ·cases he
  ·split at he
   ·split at he
    ·injection he with he
     injection he with e1 he
     injection he with e2 e3
     exact fresh _ _ (fun j off h=>by rcases h with h|h<;>cases h) e1.symm e2.symm
    ·cases he
   ·cases he
  ·rename_i tt p y hst
   split at he
   ·rename_i k0 off v hg hd hp hy
    split at he
    ·split at he
     ·split at he
      ·injection he with he
       injection he with e1 he
       injection he with e2 e3
       subst e1 e2
       rw[if_neg hn]
       have hne:k0≠k:=fun e=>by
        subst e
        refine hn ?_
        obtain⟨o',ho',hoo⟩:=hop
        have hst':o'.op=.store tt p y:=hoo.trans hst
        have:∀l:List Oper,o'∈l->tgt sl k0 l=true:=by
         intro l
         induction l with
         |nil=>intro h;cases h
         |cons a l ih=>
          intro h
          unfold tgt
          rcases List.mem_cons.1 h with rfl|h
          ·rw[hst']
           simp[hp]
          ·rw[ih h,Bool.or_true]
        exact this _ ho'
       rw[pb_set hne]
       exact hk
      ·cases he
     ·cases he
    ·cases he
   ·rename_i k0 off v hg hd hp hy
    split at he
    ·split at he
     ·split at he
      ·injection he with he
       injection he with e1 he
       injection he with e2 e3
       subst e1 e2
       rw[if_neg hn]
       have hne:k0≠k:=fun e=>by
        subst e
        refine hn ?_
        obtain⟨o',ho',hoo⟩:=hop
        have hst':o'.op=.store tt p y:=hoo.trans hst
        have:∀l:List Oper,o'∈l->tgt sl k0 l=true:=by
         intro l
         induction l with
         |nil=>intro h;cases h
         |cons a l ih=>
          intro h
          unfold tgt
          rcases List.mem_cons.1 h with rfl|h
          ·rw[hst']
           simp[hp]
          ·rw[ih h,Bool.or_true]
        exact this _ ho'
       rw[pb_set hne]
       exact hk
      ·cases he
     ·cases he
    ·cases he
   ·cases he
  ·rename_i c hc
   have hn3:call3 C c≠none:=fun h=>by
    rw[hc] at hr
    simp only[isRead,h] at hr
    cases hr
   split at he
   ·split at he
    ·split at he
     ·split at he
      ·rename_i hnp
       injection he with he
       injection he with e1 he
       injection he with e2 e3
       exact fresh _ _ (fun j off h=>by rcases h with h|h<;>(subst h;cases hnp)) e1.symm e2.symm
      ·cases he
     ·cases he
    ·cases he
   ·rename_i h
    exact absurd h hn3
  ·rename_i h1 h2 h3 h4 h5
   cases hq:o.op<;>first
    |exact (h1 _ hq).elim
    |exact (h2 _ _ hq).elim
    |exact (h3 _ _ _ hq).elim
    |exact (h4 _ _ _ hq).elim
    |exact (h5 _ hq).elim
    |(rw[hq] at hr;cases hr)
theorem stepS_mask {q q1:List Bool}{sl1:List AV}{bs1:List Bk}{o:Oper}{o1:List Ob}(hop:o∈ops.toList)(hr:isRead C o.op=false)(he:stepS P C m ops sl bs q o=some (sl1,bs1,q1,o1)){k t:Nat}{r:Row}(hk:mask ops sl bs k=some (t,r)):mask ops sl1 bs1 k=some (t,r):=by
 unfold stepS at he
 split at he
 ·exact step0_mask ⟨o,hop,rfl⟩ hr he hk
 ·split at he
  ·exact step0_mask (o:={ o with guard:=none }) ⟨o,hop,rfl⟩ hr he hk
  ·injection he with he
   injection he with e1 e2
   injection e2 with e2 e3
   subst e1 e2
   unfold mask at hk ⊢
   split at hk
   ·cases hk
   ·rename_i hn
    have:tgt (putA sl o.dst (.val undef)) k ops.toList=false:=by
     cases hd:o.dst with
     |none=>simpa [putA] using hn
     |some d=>
      cases hq:tgt (putA sl (some d) (.val undef)) k ops.toList with
      |false=>rfl
      |true=>exact absurd (tgt_new (fun j off hj=>by rcases hj with hj|hj<;>cases hj) hq) hn
    rw[this]
    exact hk
  ·cases he
theorem ex_ok [Rel](hC:CxB P C G)(hG:∀u,RowKit.Below S w u->G u)(hQ:∀c a d v w,Q (.panic c) (Act.put a d v) w->Q (.panic c) a w)(hsel:Region.noSelect ops=true)(hsane:sane C ops=true):∀{f:Nat} {L:Array Bool} {sl:List AV} {bs:List Bk} {gs:List Nat} {a:Act} {y:World} {outs:List (List AV×List Bk)} {obs:List Ob},
  ex P C m ops f L sl bs=some (outs,obs)->Sl gs sl a->SOk gs.length sl->m<=gs.length->Wd S w m gs bs y->Holds obs ->
  (∀sl2 bs2 gs' a' x',(sl2,bs2)∈outs->Sl gs' sl2 a'->SOk gs'.length sl2->m<=gs'.length->Thr gs a gs' a'->Wd S w m gs' bs2 x'->Q .normal a' x') ->
  wpAnyU P .any ops Q (fun z=>Sst S w ops gs sl bs z/\S<=z.heap.size) f L a y:=by
 intro f
 induction f with
 |zero=>
  intro L sl bs gs a y outs obs he h ho hm H hH hK
  unfold ex at he
  split at he
  ·rename_i hr
   injection he with he
   injection he with e1 e2
   subst e1
   exact wpAnyU_end (by simpa [rdy] using hr) (fun z hz=>hK sl bs gs a z (by simp) h ho hm (.of rfl) (H.keep hz))
  ·cases he
 |succ f ih=>
  intro L sl bs gs a y outs obs he h ho hm H hH hK
  have hget:∀i,i∈Region.ready .any ops L->∃o,ops[i]? = some o/\opAt ops i=o:=fun i hi=>by
   obtain⟨_,o,ho,_⟩:=mem_ready.1 hi
   exact⟨o,ho,by simp[opAt,ho]⟩
  unfold ex at he
  split at he
  ·rename_i i hi
   obtain⟨hmem,hrd,hfree⟩:=findR_ok hi
   obtain⟨o,hio,hoo⟩:=hget i hmem
   rw[hoo] at he hrd
   have hin:o∈ops.toList:=by
    rw[Array.mem_toList_iff]
    exact Array.mem_of_getElem? hio
   split at he
   ·rename_i v q1 o1 h1
    split at he
    ·rename_i outs' o2 h2
     injection he with he
     injection he with e1 e2
     subst e1 e2
     obtain⟨ha,hb⟩:=holds_app hH
     obtain⟨ov,hs⟩:=stepR_ok (a:=a) hC h ho ⟨y,hG _ H.bel,(sst_of H).2⟩ h1 ha
     refine wpAnyU_take (sst_up H.sz) hio hsel hfree (by simpa using hmem) hQ ⟨sst_of H,H.sz⟩ (hs _ (fun u hu=>⟨hG u hu.1.1,hu.1.2⟩)) ?_
     have:=ih h2 (sl_put h) (sok_put ho ov) hm H hb (fun sl2 bs2 gs' a' x' p0 p1 p2 p3 p4 p5=>hK sl2 bs2 gs' a' x' p0 p1 p2 p3 (p4.trans (.of (by cases o.dst<;>rfl))) p5)
     have e:mask ops (putA sl o.dst v) bs=mask ops sl bs:=by
      funext k
      unfold mask
      rw[sane_put hsane hin hrd]
     unfold Sst at this ⊢
     rw[e] at this
     exact this
    ·cases he
   ·cases he
  ·split at he
   ·cases he
   ·rename_i hne
    refine⟨fun e=>hne e,fun i hi z hz=>?_⟩
    obtain⟨o,hio,hoo⟩:=hget i hi
    have hin:o∈ops.toList:=by
     rw[Array.mem_toList_iff]
     exact Array.mem_of_getElem? hio
    obtain⟨o1,b1,hf,hb1,hsub⟩:=exAll_ok he hH i hi
    rw[hoo] at hf
    split at hf
    ·rename_i hrd
     split at hf
     ·rename_i v q1 ob1 h1
      split at hf
      ·rename_i outs' ob2 h2
       injection hf with hf
       injection hf with e1 e2
       subst e1 e2
       obtain⟨ha,hb⟩:=holds_app hb1
       have Hz:=H.keep hz
       obtain⟨ov,hs⟩:=stepR_ok (a:=a) hC h ho ⟨z,hG _ Hz.bel,Hz.bk⟩ h1 ha
       refine wpOp_of_list hio ?_
       refine wpList_quiet (hs (fun y=>y=z) (fun y hy=>by subst hy;exact⟨hG _ Hz.bel,Hz.bk⟩)) (fun y hy=>?_)
       have Hy:=Hz.keep hy
       have key:=ih h2 (sl_put h) (sok_put ho ov) hm Hy hb (fun sl2 bs2 gs' a' x' p0 p1 p2 p3 p4 p5=>hK sl2 bs2 gs' a' x' (hsub _ p0) p1 p2 p3 (p4.trans (.of (by cases o.dst<;>rfl))) p5)
       have e:mask ops (putA sl o.dst v) bs=mask ops sl bs:=by
        funext k
        unfold mask
        rw[sane_put hsane hin hrd]
       unfold Sst at key ⊢
       rw[e] at key
       exact⟨⟨sst_of Hy,Hy.sz⟩,key⟩
      ·cases hf
     ·cases hf
    ·rename_i hnr
     split at hf
     ·rename_i sl1 bs1 q1 ob1 h1
      split at hf
      ·rename_i outs' ob2 h2
       injection hf with hf
       injection hf with e1 e2
       subst e1 e2
       obtain⟨ha,hb⟩:=holds_app hb1
       refine wpOp_of_list hio ?_
       have hseq:seqS P C m ops [o] sl bs []=some (sl1,bs1,q1,ob1++[]):=by
        simp[seqS,h1]
       refine seq_ok hC hG (gs:=gs) hseq h ho hm (H.keep hz) (by simpa using ha) (fun gs' a' x' pe p1 p2 p3 p4 p5=>?_)
       have p4':Thr gs a gs' a':=.ext p4 pe
       obtain⟨e,rfl⟩:=pe
       have hup:∀k t r,mask ops sl bs k=some (t,r)->mask ops sl1 bs1 k=some (t,r)/\k<gs.length:=fun k t r hk=>by
        refine⟨stepS_mask hin (by simpa using hnr) h1 hk,?_⟩
        unfold mask at hk
        split at hk
        ·cases hk
        ·rw[H.len]
         exact (List.getElem?_eq_some_iff.1 (pb_at hk).1).1
       have hsub2:∀u,(Sst S w ops (gs++e) sl1 bs1 u/\S<=u.heap.size)->(Sst S w ops gs sl bs u/\S<=u.heap.size):=fun u hu=>⟨⟨hu.1.1,fun k t r hk=>by
        obtain⟨m1,m2⟩:=hup k t r hk
        have:=hu.1.2 k t r m1
        rwa [show (gs++e).getD k 0=gs.getD k 0 by simp[List.getD,List.getElem?_append_left m2]] at this⟩,hu.2⟩
       exact⟨hsub2 _ ⟨sst_of p5,p5.sz⟩,wpAnyU_weaken hsub2 (ih h2 p1 p2 p3 p5 hb (fun sl2 bs2 gs2 a2 x2 r0 r1 r2 r3 r4 r5=>hK sl2 bs2 gs2 a2 x2 (hsub _ r0) r1 r2 r3 (r4.trans p4') r5))⟩
      ·cases hf
     ·cases hf
theorem draw0_ok [Rel](hC:CxB P C G)(hG:∀u,RowKit.Below S w u->G u)(hQ:∀c a d v w,Q (.panic c) (Act.put a d v) w->Q (.panic c) a w){id:Nat}{lo:List Oper}{q q2:List Bool}{sl2:List AV}{bs2:List Bk}{obs:List Ob}
  (he:drawS0 P C m lo sl bs q=some (sl2,bs2,q2,obs)) (h:Sl gs sl a) (ho:SOk gs.length sl) (hm:m<=gs.length) (H:Wd S w m gs bs x) (hH:Holds obs)
  (hK:∀gs' a' x',Sl gs' sl2 a'->SOk gs'.length sl2->m<=gs'.length->Thr gs a gs' a'->Wd S w m gs' bs2 x'->Q .normal a' x'):(Code.region id lo.toArray true).wp P Q a x:=by
 have hquiet:∀u,But x.heap.size x u->G u/\BOk gs (pb bs) u:=fun u hu=>⟨hG u (H.of_but hu).bel,(H.of_but hu).bk⟩
 unfold drawS0 at he
 simp only at he
 split at he
 ·split at he
  ·rename_i hc
   simp only[readsOK,Bool.and_eq_true,rdy,decide_eq_true_eq] at hc
   split at he
   ·rename_i sl3 q3 o3 h1
    injection he with he
    injection he with e1 e2
    injection e2 with e2 e3
    injection e3 with e3 e4
    subst e1 e2 e4
    refine wp_reads (nReads C lo) 0 x.heap.size hC.mix hc.1.1.1 (Nat.eq_of_beq_eq_true hc.1.2) hc.1.1.2 hQ ?_
    refine rds_ok hC ⟨x,hG _ H.bel,H.bk⟩ hquiet h1 h ho hH (fun a' h3 h4 h5=>?_)
    exact wpAnyU_end hc.2 (fun z hz=>hK gs a' z h3 h4 hm (.of h5) (H.of_but ((but_drew _ _).then hz)))
   ·cases he
  ·cases he
 ·rename_i o rest hdrop
  have hat:∀j o',(o :: rest)[j]? = some o'->lo.toArray[nReads C lo+j]? = some o':=fun j o' hj=>firstN_app lo _ j o' (by rw[hdrop];exact hj)
  split at he
  ·rename_i hc
   split at he
   ·rename_i sl3 q3 o3 h1
    split at he
    ·rename_i sl4 bs4 q4 o4 h4
     injection he with he
     injection he with e1 e2
     injection e2 with e2 e3
     injection e3 with e3 e4
     subst e1 e2 e4
     obtain⟨ha,hb⟩:=holds_app hH
     refine wp_tail (fun z=>RowKit.Below x.heap.size x z) (nReads C lo) hC.mix hc ⟨rfl,rfl,rfl,Nat.le_refl _,fun _ _=>rfl⟩ ?_
     refine rdq_ok (x:=x) hC ⟨x,hG _ H.bel,H.bk⟩ (fun u hu=>⟨hG u (H.keep hu).bel,(H.keep hu).bk⟩) h1 h ho ha (fun a' h3 h4' h5 z hz=>?_)
     exact seq_ok hC hG h4 h3 h4' hm (H.keep hz) hb (fun gs' a2 x' pe p1 p2 p3 p4 p5=>hK gs' a2 x' p1 p2 p3 (.ext (p4.trans h5) pe) p5)
    ·cases he
   ·cases he
  ·split at he
   ·rename_i hc
    simp only[readsOK,Bool.and_eq_true,decide_eq_true_eq] at hc
    split at he
    ·rename_i sl3 q3 o3 h1
     split at he
     ·rename_i sl4 bs4 h4
      split at he
      ·rename_i bs5 h5
       injection he with he
       injection he with e1 e2
       injection e2 with e2 e3
       injection e3 with e3 e4
       subst e1 e2 e4
       obtain⟨⟨⟨⟨hs,hB⟩,hlen⟩,hnd⟩,hall⟩:=hc
       refine wp_reads (nReads C lo) _ x.heap.size hC.mix hs (Nat.eq_of_beq_eq_true hlen) hB hQ ?_
       refine rds_ok hC ⟨x,hG _ H.bel,H.bk⟩ hquiet h1 h ho hH (fun a' p3 p4 p5=>?_)
       have hnd2:(List.range' (nReads C lo) (nAllocs (o :: rest))).Nodup:=List.nodup_range' (step:=1)
       have hinj:∀i∈List.range' (nReads C lo) (nAllocs (o :: rest)),∀j∈List.range' (nReads C lo) (nAllocs (o :: rest)),i≠j->dF lo.toArray i≠dF lo.toArray j:=fun i hi j hj hij he=>hij (by
        obtain⟨i',hi',rfl⟩:=List.mem_iff_getElem.1 hi
        obtain⟨j',hj',rfl⟩:=List.mem_iff_getElem.1 hj
        have:=(List.getElem_inj (h₀:=by simpa using hi') (h₁:=by simpa using hj') hnd).1 (by simpa using he)
        subst this
        rfl)
       have key:=wpAnyU_allocs (P:=P) (md:=.any) (ops:=lo.toArray) (Q:=Q) (S:=But x.heap.size x) (f:=((o :: rest).drop (nAllocs (o :: rest))).length) (B:=x.heap.size) (List.range' (nReads C lo) (nAllocs (o :: rest))) (dF lo.toArray) (tF lo.toArray) (zF P lo.toArray) (listed:=firstN (nReads C lo) 0 (Array.replicate lo.toArray.size false)) (a:=a') (w:=x.drew)
        (fun _ _ h hb=>h.then hb) hnd2 hinj (allocs_at h4) hall (but_drew _ _) (but_drew x.heap.size x).size (fun G' y hy hG' hd'=>?_)
       ·rw[List.length_range'] at key
        exact key
       ·have hgs:∀k,k<gs.length->gs.getD k 0<x.heap.size:=fun k hk=>H.lt hk
        obtain⟨r1,r2,r3⟩:=allocs_wd (m:=m) (gs:=gs) (x:=x) (S:=S) (w:=w) hm hgs G' h4 hG' hnd2 hd' H.sz hm (fun i hi k hk=>Nat.ne_of_lt (Nat.lt_of_lt_of_le (hgs k hk) (hG' i hi).2)) p3 p4 (H.of_but hy)
        refine stores_ok (b0:=bs.length) (fun k hk hkl=>?_) (by rw[<-H.len];exact hm) r1 r2 (fun j o' hj=>?_) h5 r3 hy (fun z hz=>hK _ _ z r1 r2 (by simp;omega) (.ext ((pts_defers _ _).trans p5) ⟨_,rfl⟩) hz)
        ·rw[<-H.len] at hk
         have e:(gs++(List.range' (nReads C lo) (nAllocs (o :: rest))).map G').getD k 0=((List.range' (nReads C lo) (nAllocs (o :: rest))).map G').getD (k-gs.length) 0:=by
          simp[List.getD,List.getElem?_append_right hk]
         rw[e]
         have hk2:k-gs.length<((List.range' (nReads C lo) (nAllocs (o :: rest))).map G').length:=by
          simp only[List.length_append] at hkl
          omega
         have hmem:((List.range' (nReads C lo) (nAllocs (o :: rest))).map G').getD (k-gs.length) 0∈(List.range' (nReads C lo) (nAllocs (o :: rest))).map G':=by
          rw[List.getD_eq_getElem?_getD,List.getElem?_eq_getElem hk2]
          exact List.getElem_mem _
         obtain⟨i,hi,hie⟩:=List.mem_map.1 hmem
         rw[<-hie]
         exact (hG' i hi).2
        ·rw[List.getElem?_drop] at hj
         have:=hat _ o' hj
         rwa [<-Nat.add_assoc] at this
      ·cases he
     ·cases he
    ·cases he
   ·cases he
theorem draw_ok [Rel](hC:CxB P C G)(hG:∀u,RowKit.Below S w u->G u)(hQ:∀c a d v w,Q (.panic c) (Act.put a d v) w->Q (.panic c) a w){id:Nat}{lo:List Oper}{q:List Bool}{l:List O3}{obs:List Ob}
  (he:drawS P C m lo sl bs q=some (l,obs)) (h:Sl gs sl a) (ho:SOk gs.length sl) (hm:m<=gs.length) (H:Wd S w m gs bs x) (hH:Holds obs)
  (hK:∀sl2 bs2 q2,(sl2,bs2,q2)∈l->∀gs' a' x',Sl gs' sl2 a'->SOk gs'.length sl2->m<=gs'.length->Thr gs a gs' a'->Wd S w m gs' bs2 x'->Q .normal a' x'):(Code.region id lo.toArray true).wp P Q a x:=by
 unfold drawS at he
 split at he
 ·rename_i sl2 bs2 q2 o2 h1
  injection he with he
  injection he with e1 e2
  subst e1 e2
  exact draw0_ok hC hG hQ h1 h ho hm H hH (hK sl2 bs2 q2 (by simp))
 ·split at he
  ·rename_i hc
   simp only[Bool.and_eq_true] at hc
   split at he
   ·rename_i outs o h1
    injection he with he
    injection he with e1 e2
    subst e1 e2
    refine wp_regionU (S:=fun z=>Sst S w lo.toArray gs sl bs z/\S<=z.heap.size) hC.mix ?_
    have Hd:Wd S w m gs bs x.drew:=H.keep ⟨rfl,rfl,rfl,Nat.le_refl _,fun _ _=>rfl⟩
    exact ex_ok hC hG hQ hc.1 hc.2 h1 h ho hm Hd hH (fun sl2 bs2 gs' a' x' p0 p1 p2 p3 p4 p5=>hK sl2 bs2 q (List.mem_map.2 ⟨(sl2,bs2),p0,rfl⟩) gs' a' x' p1 p2 p3 p4 p5)
   ·cases he
  ·cases he
end
end Sx
end Go.Proofs.YtjamcbjghffboaaGreatDoor
