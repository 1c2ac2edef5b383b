/-
  Own text.
-/
import Derived.Test.YtjamcbjghffboaaGreatDoorMReg
import Derived.Laws.StructEq
import Derived.Deep.MidRow
set_option linter.unusedVariables false
set_option linter.unusedSectionVars false
namespace Go.Proofs.YtjamcbjghffboaaGreatDoor
namespace Reg
open Go
structure But (g:Nat) (w w':World):Prop where
 os:w'.os=w.os
 tape:w'.tape=w.tape
 output:w'.output=w.output
 size:w.heap.size<=w'.heap.size
 block:∀k,k<w.heap.size->k≠g->w'.heap[k]? = w.heap[k]?
section
variable {g B:Nat} {a w w':World}
theorem But.of (h:RowKit.Below w.heap.size w w')(g:Nat):But g w w':=⟨h.os,h.tape,h.output,h.size,fun k hk _=>h.block k hk⟩
theorem But.then (h:But g a w)(k:RowKit.Below w.heap.size w w'):But g a w':=
 ⟨k.os.trans h.os,k.tape.trans h.tape,k.output.trans h.output,Nat.le_trans h.size k.size,fun i hi hne=>(k.block i (Nat.lt_of_lt_of_le hi h.size)).trans (h.block i hi hne)⟩
theorem But.has (h:But g w w'){g':Nat}{t:TypeId}{cs:Array Value}(hh:Has w g' t cs)(hne:g'≠g):Has w' g' t cs:=⟨(h.block g' hh.lt hne).trans hh.eq⟩
theorem But.below (h:But g w w')(hB:B<=g)(hB':B<=w.heap.size):RowKit.Below B w w':=⟨h.os,h.tape,h.output,h.size,fun k hk=>h.block k (by omega) (by omega)⟩
end
section
variable {P:Program} {ops:Array Oper} {md:Region.Mode} {Q:Exit->Act->World->Prop} {S:World->Prop}
def wpTake (P:Program)(ops:Array Oper)(S:World->Prop)(K:Act->Prop):List Oper->Act->Prop
 |[],a=>K a
 |o :: rest,a=>∃v,Steady P ops S o v a/\wpTake P ops S K rest (a.put o.dst v)
def readsB (md:Region.Mode)(ops:Array Oper):Nat->Nat->Array Bool->Bool
 |0,_,_=>true
 |n+1,i,L=>Region.free md ops L i&&(Region.ready md ops L).contains i&&readsB md ops n (i+1) (L.setIfInBounds i true)
def firstN:Nat->Nat->Array Bool->Array Bool
 |0,_,L=>L
 |n+1,i,L=>firstN n (i+1) (L.setIfInBounds i true)
theorem wpAnyU_reads (hS:∀w w',S w->RowKit.Below w.heap.size w w'->S w')(hs:Region.noSelect ops=true)(hQ:∀c a d v w,Q (.panic c) (Act.put a d v) w->Q (.panic c) a w){f:Nat}{w:World}(hw:S w) :
  ∀(n i:Nat) (L:Array Bool) (l:List Oper) (a:Act),l.length=n->(∀j o,l[j]? = some o->ops[i+j]? = some o)->readsB md ops n i L=true ->
   wpTake P ops S (fun a'=>wpAnyU P md ops Q S f (firstN n i L) a' w) l a->wpAnyU P md ops Q S (n+f) L a w
 |0,i,L,l,a,hl,_,_,h=>by
  obtain rfl:l=[]:=List.eq_nil_of_length_eq_zero hl
  rw[Nat.zero_add]
  exact h
 |n+1,i,L,l,a,hl,ho,hB,h=>by
  obtain⟨o,rest,rfl⟩:∃o rest,l=o :: rest:=by
   cases l with
   |nil=>cases hl
   |cons o rest=>exact⟨o,rest,rfl⟩
  obtain⟨v,hv,hr⟩:=h
  simp only[readsB,Bool.and_eq_true] at hB
  rw[show n+1+f=(n+f)+1 by omega]
  refine wpAnyU_take hS (i:=i) (ho 0 o rfl) hs hB.1.1 hB.1.2 hQ hw hv ?_
  exact wpAnyU_reads hS hs hQ hw n (i+1) (L.setIfInBounds i true) rest (a.put o.dst v) (by simpa using hl) (fun j o' hj=>by
   have:=ho (j+1) o' (by simpa using hj)
   rwa [show i+(j+1)=i+1+j by omega] at this) hB.2 hr
theorem wp_reads {id:Nat}{a:Act}{w:World}{l:List Oper}(n f g:Nat)(hm:P.follows .mixedOrders=true)(hs:Region.noSelect l.toArray=true)(hlen:n+f=l.toArray.size)
  (hB:readsB .any l.toArray n 0 (Array.replicate l.toArray.size false)=true) (hQ:∀c a d v w,Q (.panic c) (Act.put a d v) w->Q (.panic c) a w)
  (h:wpTake P l.toArray (But g w) (fun a'=>wpAnyU P .any l.toArray Q (But g w) f (firstN n 0 (Array.replicate l.toArray.size false)) a' w.drew) (l.take n) a):(Code.region id l.toArray true).wp P Q a w:=by
 refine wp_regionU (S:=But g w) hm ?_
 rw[<-hlen]
 rw[hlen]
 have h0:l.length=n+f:=by have:=hlen;simp at this;omega
 have:=wpAnyU_reads (md:=.any) (Q:=Q) (S:=But g w) (fun _ _ h hb=>h.then hb) hs hQ (f:=f) (w:=w.drew) (But.of (w:=w) (w':=w.drew) ⟨rfl,rfl,rfl,Nat.le_refl _,fun _ _=>rfl⟩ g) n 0 (Array.replicate l.toArray.size false) (l.take n) a
  (by rw[List.length_take];omega) (fun j o hj=>by
   rw[Nat.zero_add]
   rw[List.getElem?_take] at hj
   split at hj
   ·simpa using hj
   ·cases hj) hB h
 rwa [hlen] at this
theorem wpTake_nil {K:Act->Prop}{a:Act}(h:K a):wpTake P ops S K [] a:=h
theorem wpTake_cons {K:Act->Prop}{o:Oper}{rest:List Oper}{a:Act}{v:Value}(h1:Steady P ops S o v a)(h2:wpTake P ops S K rest (a.put o.dst v)):wpTake P ops S K (o :: rest) a:=⟨v,h1,h2⟩
end
def seg (off n:Nat)(l:List Int):List Int:=(l.drop off).take n
theorem seg_len {off n m:Nat}{l:List Int}(hl:l.length=m)(h:off+n<=m):(seg off n l).length=n:=by rw[seg,List.length_take,List.length_drop];omega
end Reg
namespace Reg
open Go
def EqOK (P:Program)(d:Nat)(t:TypeId)(n:Nat):Prop:=∀(w:World) (xs ys:List Int),xs.length=n->ys.length=n->(Op.equalIn d t (.agg (vals .u64 xs)) (.agg (vals .u64 ys))).run P w=.ok (decide (xs=ys)) w
theorem eqok_arr {P:Program}{d n:Nat}{t e:TypeId}{k':IntKind}(hu:P.underlying t=some (.array n e))(he:P.underlying e=some (.int k'))(hi:(P.info? e).isSome=true)(hc:P.cellsOf e=1):EqOK P (d+2) t n:=
 fun w xs ys hx hy=>equalIn_vals (d:=d) hu he hi hc hx hy
theorem part_seg {P:Program}{w:World}{e:TypeId}{n off:Nat}{d:TypeDesc}{xs:List Int}(hu:P.underlying e=some d)(hd:(match d with | .struct _ | .array _ _=>true|_=>false)=true)(hi:(P.info? e).map (·.size)=some n) :
  (part e (vals .u64 xs) off).run P w=.ok (.agg (vals .u64 (seg off n xs))) w:=by
 have hagg:(isAgg e).run P w=.ok true w:=by
  unfold isAgg
  rw[Sem.run_bind,run_underlying hu w]
  cases d<;>simp_all
 cases hq:P.info? e with
 |none=>simp[hq] at hi
 |some i=>
  have hs:i.size=n:=by simpa [hq] using hi
  have he:(vals .u64 xs).extract off (off+n)=vals .u64 (seg off n xs):=by
   simp[vals,seg,List.extract_toArray,List.extract_eq_take_drop,List.map_take,List.map_drop]
  simp[part,Sem.run_bind,hagg,sizeOf,typeInfo,hq,hs,he]
theorem eqFields_segs {P:Program}{w:World}{d n:Nat}{e:TypeId}{de:TypeDesc}{xs ys:List Int}(h:EqOK P d e n)(hu:P.underlying e=some de)(hd:(match de with | .struct _ | .array _ _=>true|_=>false)=true)(hi:(P.info? e).map (·.size)=some n):∀fs:List Field,
  (∀f∈fs,f.name≠"_"/\f.type=e/\f.offset+n<=xs.length/\f.offset+n<=ys.length)->(Op.eqFields d (vals .u64 xs) (vals .u64 ys) fs).run P w=.ok (fs.all fun f=>decide (seg f.offset n xs=seg f.offset n ys)) w
 |[],_=>by simp[Op.eqFields]
 |f :: fs,hf=>by
  obtain⟨h1,h2,h3,h4⟩:=hf f (by simp)
  have ih:=eqFields_segs (w:=w) (xs:=xs) (ys:=ys) h hu hd hi fs (fun g hg=>hf g (by simp[hg]))
  have hx:=part_seg (w:=w) (off:=f.offset) (xs:=xs) hu hd hi
  have hy:=part_seg (w:=w) (off:=f.offset) (xs:=ys) hu hd hi
  have he:=h w (seg f.offset n xs) (seg f.offset n ys) (seg_len rfl h3) (seg_len rfl h4)
  subst h2
  simp only[Op.eqFields,if_pos h1,Sem.run_bind,hx,hy,Result.andThen_ok,he]
  by_cases hq:seg f.offset n xs=seg f.offset n ys
  ·simp[hq,ih]
  ·simp[hq]
theorem seg_all {n m:Nat}{l:List Int}(hl:l.length=n+m):l=seg 0 n l++seg n m l:=by
 have e:seg n m l=l.drop n:=List.take_of_length_le (by rw[List.length_drop,hl];omega)
 rw[e,show seg 0 n l=l.take n from rfl,List.take_append_drop]
theorem eqok_two {P:Program}{d n:Nat}{t e:TypeId}{de:TypeDesc}(h:EqOK P d e n)(hu:P.underlying e=some de)(hd:(match de with | .struct _ | .array _ _=>true|_=>false)=true)(hi:(P.info? e).map (·.size)=some n)(ht:P.underlying t=some (.struct (P.fieldsOf t)))(hp:P.stoodInHeld t=false)
  (hf:(P.fieldsOf t).toList.map (fun f=>(decide (f.name = "_"),f.type,f.offset))=[(false,e,0),(false,e,n)]):EqOK P (d+1) t (n+n):=fun w xs ys hx hy=>by
 rw[run_equalIn_struct w d t _ _ ht hp]
 generalize (P.fieldsOf t).toList=fs at hf
 rcases fs with _|⟨f,_|⟨g,_|⟨k,r⟩⟩⟩
 ·simp at hf
 ·simp at hf
 ·simp only[List.map_cons,List.map_nil,List.cons.injEq,Prod.mk.injEq,decide_eq_false_iff_not,and_true] at hf
  obtain⟨⟨f1,f2,f3⟩,g1,g2,g3⟩:=hf
  rw[eqFields_segs h hu hd hi [f,g] (fun k hk=>by
   rcases List.mem_cons.1 hk with rfl|hk
   ·exact⟨f1,f2,by omega,by omega⟩
   ·obtain rfl:k=g:=by simpa using hk
    exact⟨g1,g2,by omega,by omega⟩)]
  congr 1
  rw[Bool.eq_iff_iff]
  simp only[List.all_cons,List.all_nil,Bool.and_true,Bool.and_eq_true,decide_eq_true_eq,f3,g3]
  exact⟨fun hh=>by rw[seg_all hx,seg_all hy,hh.1,hh.2],fun hh=>by rw[hh];exact⟨rfl,rfl⟩⟩
 ·simp at hf
section
variable {P:Program} {ops:Array Oper} {S:World->Prop} {K:Act->Prop} {o:Oper} {rest:List Oper} {a:Act}
end
end Reg
namespace Reg
open Go
theorem segs_eq {n:Nat}:∀(m:Nat) (xs ys:List Int),xs.length=m*n->ys.length=m*n->(∀i,i<m->seg (i*n) n xs=seg (i*n) n ys)->xs=ys
 |0,xs,ys,hx,hy,_=>by
  rw[Nat.zero_mul] at hx hy
  rw[List.eq_nil_of_length_eq_zero hx,List.eq_nil_of_length_eq_zero hy]
 |m+1,xs,ys,hx,hy,h=>by
  rw[Nat.succ_mul] at hx hy
  have h0:=h 0 (by omega)
  rw[Nat.zero_mul,seg,seg,List.drop_zero,List.drop_zero] at h0
  have h1:=segs_eq (n:=n) m (xs.drop n) (ys.drop n) (by rw[List.length_drop];omega) (by rw[List.length_drop];omega) (fun i hi=>by
   rw[seg,seg,List.drop_drop,List.drop_drop,show n+i*n=(i+1)*n by rw[Nat.succ_mul,Nat.add_comm]]
   exact h (i+1) (by omega))
  rw[<-List.take_append_drop n xs,<-List.take_append_drop n ys,h0,h1]
theorem eqok_parts {P:Program}{d n m:Nat}{t e:TypeId}{de:TypeDesc}(h:EqOK P d e n)(hu:P.underlying e=some de)(hd:(match de with | .struct _ | .array _ _=>true|_=>false)=true)(hi:(P.info? e).map (·.size)=some n)(ht:P.underlying t=some (.struct (P.fieldsOf t)))(hp:P.stoodInHeld t=false)
  (hf:(P.fieldsOf t).toList.map (fun f=>(decide (f.name = "_"),f.type,f.offset))=(List.range m).map fun i=>(false,e,i*n)):EqOK P (d+1) t (m*n):=fun w xs ys hx hy=>by
 rw[run_equalIn_struct w d t _ _ ht hp]
 generalize (P.fieldsOf t).toList=fs at hf
 have hl:fs.length=m:=by
  have:=congrArg List.length hf
  simpa using this
 have at_:∀i f,fs[i]? = some f->i<m/\f.name≠"_"/\f.type=e/\f.offset=i*n:=fun i f hif=>by
  have h1:i<fs.length:=(List.getElem?_eq_some_iff.1 hif).1
  have h2:(fs.map (fun f=>(decide (f.name = "_"),f.type,f.offset)))[i]? = some (decide (f.name = "_"),f.type,f.offset):=by rw[List.getElem?_map,hif];rfl
  rw[hf,List.getElem?_map,List.getElem?_range (by omega)] at h2
  simp only[Option.map_some,Option.some.injEq,Prod.mk.injEq] at h2
  exact⟨by omega,by simpa using h2.1.symm,h2.2.1.symm,h2.2.2.symm⟩
 have le_:∀i,i<m->i*n+n<=m*n:=fun i hi=>by
  have:=Nat.mul_le_mul_right n (show i+1<=m by omega)
  rwa [Nat.succ_mul] at this
 rw[eqFields_segs h hu hd hi fs (fun f hm=>by
  obtain⟨i,hif⟩:=List.mem_iff_getElem?.1 hm
  obtain⟨h1,h2,h3,h4⟩:=at_ i f hif
  have:=le_ i h1
  exact⟨h2,h3,by rw[h4,hx];exact this,by rw[h4,hy];exact this⟩)]
 congr 1
 rw[Bool.eq_iff_iff]
 simp only[List.all_eq_true,decide_eq_true_eq]
 constructor
 ·intro hh
  refine segs_eq m xs ys hx hy (fun i hi=>?_)
  obtain⟨f,hif⟩:∃f,fs[i]? = some f:=⟨_,List.getElem?_eq_getElem (by omega)⟩
  have:=hh f (List.mem_of_getElem? hif)
  rwa [(at_ i f hif).2.2.2] at this
 ·intro hh f _
  rw[hh]
end Reg
namespace Reg
open Go
class Cz (n:outParam Nat) (cs:Array Value):Prop where
 sz:cs.size=n
 one:cs.all (·.oneCell')=true
def aggD:TypeDesc->Bool
 |.struct _ | .array _ _=>true
 |_=>false
class Agg (P:Program) (t:TypeId) (n:outParam Nat):Prop where
 und:∃d,P.underlying t=some d/\aggD d=true
 inf:(P.info? t).map (·.size)=some n
theorem Agg.of {P:Program}{t:TypeId}{n:Nat}{d:TypeDesc}(hu:P.underlying t=some d)(hi:(P.info? t).map (·.size)=some n)(hd:aggD d=true):Agg P t n:=⟨⟨d,hu,hd⟩,hi⟩
structure Blk where
 g:Nat
 t:TypeId
 cs:Array Value
structure Kn (S:Nat) (w:World) (l:List Blk) (x:World):Prop where
 bel:RowKit.Below S w x
 sz:S<=x.heap.size
 has:∀b∈l,Has x b.g b.t b.cs
 lo:∀g∈l.map Blk.g,S<=g
 nd:(l.map Blk.g).Nodup
theorem map_set_g:∀{l:List Blk} {j:Nat} {b v:Blk},l[j]? = some b->v.g=b.g->(l.set j v).map Blk.g=l.map Blk.g
 |[],_,_,_,h,_=>by simp at h
 |c :: l,0,b,v,h,hg=>by
  obtain rfl:c=b:=by simpa using h
  simp[hg]
 |c :: l,j+1,b,v,h,hg=>by
  have:=map_set_g (l:=l) (j:=j) (b:=b) (v:=v) (by simpa using h) hg
  simp[this]
section
variable {S:Nat} {w x y:World} {l:List Blk} {b:Blk} {j n:Nat} {P:Program} {ops:Array Oper} {rest:List Oper} {o:Oper} {a:Act} {Q:Exit->Act->World->Prop} {md:Region.Mode} {K:Act->Prop}
theorem Kn.at {g t:Nat}{cs:Array Value}(H:Kn S w l x)(i:Nat)(hi:l[i]? = some ⟨g,t,cs⟩):Has x g t cs:=H.has ⟨g,t,cs⟩ (List.mem_of_getElem? hi)
theorem Kn.keep (H:Kn S w l x)(h:RowKit.Below x.heap.size x y):Kn S w l y:=⟨H.bel.trans (h.mono H.sz),Nat.le_trans H.sz h.size,fun b hb=>(H.has b hb).keep h,H.lo,H.nd⟩
theorem Kn.nil (hS:w.heap.size=S):Kn S w [] w:=⟨RowKit.Below.refl _ _,by omega,fun _ h=>by simp at h,fun _ h=>by simp at h,by simp⟩
theorem Kn.push (H:Kn S w l x){g:Nat}(c:Array Value)(t:TypeId)(hx:x.heap.size=g):Kn S w (l++[⟨g,t,c⟩]) (x.alloc (.cells c t)):=by
 subst hx
 have hb:RowKit.Below x.heap.size x (x.alloc (.cells c t)):=(RowKit.Below.refl _ _).alloc (Nat.le_refl _) _
 have H':=H.keep hb
 refine⟨H'.bel,H'.sz,fun b hb=>?_,fun g hg=>?_,?_⟩
 ·rcases List.mem_append.1 hb with h|h
  ·exact H'.has b h
  ·obtain rfl:b=⟨x.heap.size,t,c⟩:=by simpa using h
   exact Has.new _ _ _
 ·rw[List.map_append] at hg
  rcases List.mem_append.1 hg with h|h
  ·exact H.lo g h
  ·obtain rfl:g=x.heap.size:=by simpa using h
   exact H.sz
 ·rw[List.map_append,List.nodup_append]
  refine⟨H.nd,by simp,fun g hg k hk=>?_⟩
  obtain rfl:k=x.heap.size:=by simpa using hk
  obtain⟨b,hb,rfl⟩:=List.mem_map.1 hg
  exact Nat.ne_of_lt (H.has b hb).lt
theorem but_drew (g:Nat)(x:World):But g x x.drew:=.of (w:=x) (w':=x.drew) ⟨rfl,rfl,rfl,Nat.le_refl _,fun _ _=>rfl⟩ g
class Mix (P:Program):Prop where
 mix:P.follows .mixedOrders=true
def readsOK (lo:List Oper)(n f:Nat):Bool:=Region.noSelect lo.toArray&&readsB .any lo.toArray n 0 (Array.replicate lo.toArray.size false)&&Nat.beq (n+f) lo.toArray.size
section
variable {ty t g off m:Nat} {xs:List Int} {p q:Operand} {g':Nat}
theorem ldwOf {cs:Array Value}(hh:Has x g t cs)(hne:g≠g')[hA:Agg P ty n][hC:Cz n cs](hgd:Region.wanted o (yielded ops a.tmps)=true)(ho:o.op=.load ty p)(hx:a.eval p=.pointer (some ⟨g,0,none⟩))
  (h:wpTake P ops (But g' x) K rest (a.put o.dst (.agg cs))):wpTake P ops (But g' x) K (o :: rest) a:=by
 obtain⟨d,hu,hd⟩:=hA.und
 refine wpTake_cons (v:=.agg cs) (.inl ⟨hgd,fun w1 hw=>?_⟩) h
 have hr:=run_loadVar_row w1 g t ty cs (0,0) d (hw.has hh hne).eq hu (by cases d<;>first|rfl|(simp[aggD] at hd)) (by rw[hC.sz];exact hA.inf)
 unfold Oper.quietAt execOp
 simp only[ho,hx,Instr.loadAt,Instr.sureAddr,Sem.run_bind,Sem.run_pure,Result.andThen_ok,hr]
 exact⟨rfl,rfl⟩
end
section
variable {T:World->Prop} {v:Value}
class Eqs (P:Program) (t:TypeId) (n:outParam Nat):Prop where
 ok:EqOK P 10000 t n
 gd:P.eqGuardType P.depth t=false
section
variable {t r:TypeId} {p q:Operand} {xs ys:List Int}
end
end
section
variable {ty t g:Nat} {p q:Operand} {i f:Nat} {L:Array Bool} {cs:Array Value}
end
end
end Reg
namespace Reg
open Go
section
variable {S:Nat} {w x y:World} {l k:List Blk} {P:Program} {ops:Array Oper} {md:Region.Mode} {Q:Exit->Act->World->Prop} {a:Act} {L:Array Bool} {f:Nat}
end
section
variable {S:Nat} {w x:World} {l:List Blk} {P:Program} {ops:Array Oper} {md:Region.Mode} {Q:Exit->Act->World->Prop} {a:Act} {L:Array Bool}
end
end Reg
namespace Reg
open Go
class Prt (cs:Array Value) (off n:Nat) (out:outParam (Array Value)):Prop where
 eq:cs.extract off (off+n)=out
 sz:out.size=n
class Cel (cs:Array Value) (off:Nat) (v:outParam Value):Prop where
 eq:cs[off]? = some v
section
variable {A B:Array Value} {m n off:Nat} {out:Array Value} {v:Value}
instance cz_bool {b:Bool}:Cz 1 #[.bool b]:=⟨rfl,by simp[Value.oneCell']⟩
instance cz_int {k:IntKind} {z:Int}:Cz 1 #[.int k z]:=⟨rfl,by simp[Value.oneCell']⟩
instance part_all [a:Cz n A]:Prt A 0 n A:=⟨by rw[Nat.zero_add,<-a.sz,Array.extract_size],a.sz⟩
end
class Sca (P:Program) (t:TypeId):Prop where
 und:∃d,P.underlying t=some d/\aggD d=false
section
variable {S:Nat} {w x y:World} {l:List Blk} {n off:Nat} {P:Program} {ops:Array Oper} {rest:List Oper} {o:Oper} {a:Act} {Q:Exit->Act->World->Prop} {K:Act->Prop} {ty t g:Nat} {p:Operand} {cs out:Array Value} {v:Value} {T:World->Prop}
theorem run_part (hh:Has x g t cs)[hA:Agg P ty n][hP:Prt cs off n out]:(loadVar ty ⟨g,off,none⟩).run P x=.ok (.agg out) x:=by
 obtain⟨d,hu,hd⟩:=hA.und
 have h:=run_loadVar_mid x g off ty out.toList d (fun j v hv=>by
  rw[hh.cell]
  have he:out.toList[j]? = out[j]?:=Array.getElem?_toList ..
  rw[he,<-hP.eq,Array.getElem?_extract] at hv
  split at hv
  ·exact hv
  ·cases hv) hu (by cases d<;>first|rfl|(simp[aggD] at hd)) (by rw[Array.length_toList,hP.sz];exact hA.inf)
 simpa using h
theorem tpart (hh:∀u,T u->Has u g t cs)(hgd:Region.wanted o (yielded ops a.tmps)=true)(ho:o.op=.load ty p)(hx:a.eval p=.pointer (some ⟨g,off,none⟩))[hA:Agg P ty n][hP:Prt cs off n out](h:wpTake P ops T K rest (a.put o.dst (.agg out))):wpTake P ops T K (o :: rest) a:=by
 refine wpTake_cons (v:=.agg out) (.inl ⟨hgd,fun w1 hw=>?_⟩) h
 unfold Oper.quietAt execOp
 simp only[ho,hx,Instr.loadAt,Instr.sureAddr,Sem.run_bind,Sem.run_pure,Result.andThen_ok,run_part (hh w1 hw)]
 exact⟨rfl,rfl⟩
end
section
variable {P:Program} {ops:Array Oper} {rest:List Oper} {o:Oper} {a:Act} {Q:Exit->Act->World->Prop} {K:Act->Prop} {x:World} {t:TypeId} {cells:Array Value} {T:World->Prop}
end
section
variable {S:Nat} {w x:World} {l:List Blk} {n i j f:Nat} {P:Program} {ops:Array Oper} {md:Region.Mode} {o o':Oper} {a:Act} {Q:Exit->Act->World->Prop} {ty gb tb:Nat} {cb cs:Array Value} {p q:Operand} {L:Array Bool} {v:Value}
end
end Reg
end Go.Proofs.YtjamcbjghffboaaGreatDoor
