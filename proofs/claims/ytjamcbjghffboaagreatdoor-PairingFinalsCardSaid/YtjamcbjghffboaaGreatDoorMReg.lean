/-
  Own text.
-/
import Derived.StillTail
import Derived.Deep.Quiet
import Derived.Below
import Derived.Laws.Rows
import Derived.Great.BuildSlice
import Derived.Laws.CopyOwn
import Derived.Orders
import Derived.Maps.AppendAt
import Derived.Deep.AppendLies
import Derived.Laws.MakeOwn
import Derived.ChangeKeysEq
import Derived.Laws.StructEq
import Derived.Lib.AppendZeros
import Derived.Deep.Onto
import Derived.Test.YtjamcbjghffboaaGreatDoorProg
import Derived.WalkKit
import Derived.WalkSpells
import Derived.WalkLawsBesides
import Derived.Deep.QuietTactic
import Derived.BigQuiet
import Derived.BigRegion
import Derived.OpenShut
namespace Go.Proofs.YtjamcbjghffboaaGreatDoor
namespace Reg
open Go
section
variable {P:Program} {ops:Array Oper} {md:Region.Mode} {C:World->Prop}
def anyHead (P:Program)(md:Region.Mode)(ops:Array Oper)(C:World->Prop)(n:Nat)(L:Array Bool->Act->Prop):Nat->Array Bool->Act->Prop
 |0,listed,a=>L listed a
 |f+1,listed,a=>Region.ready md ops listed≠[]/\∀i∈Region.ready md ops listed,i<n/\qOp P ops C i (anyHead P md ops C n L f (listed.setIfInBounds i true)) a
theorem any_of_head {n g:Nat}{L:Array Bool->Act->Prop}{Q':Exit->Act->World->Prop}(hL:∀listed a w,C w->L listed a->wpAny P md ops Q' g listed a w) :
  ∀(f:Nat) (listed:Array Bool) (a:Act) (w:World),C w->anyHead P md ops C n L f listed a->wpAny P md ops Q' (f+g) listed a w
 |0,listed,a,w,hC,h=>by rw[Nat.zero_add];exact hL _ _ _ hC h
 |f+1,listed,a,w,hC,h=>by
  rw[show f+1+g=(f+g)+1 by omega]
  exact⟨fun h0=>absurd h0 h.1,fun i hi=>wpOp_of_qOp (C:=C) hC (fun a' w' hC' h'=>any_of_head hL f _ a' w' hC' h') (h.2 i hi).2⟩
theorem head_first {n i:Nat}{oi:Oper}{v:Value}{L:Array Bool->Act->Prop}(hi:ops[i]? = some oi)(hsel:∀(j:Nat) (o:Oper) cs b,ops[j]? = some o->o.op≠.select cs b)
  (hs:Region.sinkB md ops n=true) (hc:Region.chainB md ops n=true) (hn:n<ops.size) (hin:i<n)
  (hdone:∀listed a,L listed a->∀j∈Region.ready md ops listed,n<=j) :
  ∀(f:Nat) (listed:Array Bool) (a:Act),HeadInv md ops n listed ->
   (∀j oj,ops[j]? = some oj->j≠i->listed.getD j true=false->(∀e∈oj.after,Region.binds md e=true->e.on≠i)->oi.apart ops oj=true) ->
   i∈Region.ready md ops listed->YieldsIn P ops C oi v a ->
   anyHead P md ops C n L f (listed.setIfInBounds i true) (a.put oi.dst v)->anyHead P md ops C n L (f+1) listed a:=by
 intro f
 induction f with
 |zero=>
  intro listed a inv _ hr hy H
  have hun:=(mem_ready.1 hr).1
  refine⟨fun h=>(by rw[h] at hr;cases hr),fun j hj=>?_⟩
  have hjn:j<n:=by
   rcases Nat.lt_or_ge j n with h|h
   ·exact h
   ·exact absurd hj (tail_waits hs hc hn inv _ i rfl hin hun j h)
  refine⟨hjn,?_⟩
  by_cases hji:j=i
  ·subst hji;exact YieldsIn.qOp hi hy H
  ·have:=hdone _ _ H j (ready_mono hj hji)
   omega
 |succ f ih=>
  intro listed a inv hfree hr hy H
  have hun:=(mem_ready.1 hr).1
  refine⟨fun h=>(by rw[h] at hr;cases hr),fun j hj=>?_⟩
  have hjn:j<n:=by
   rcases Nat.lt_or_ge j n with h|h
   ·exact h
   ·exact absurd hj (tail_waits hs hc hn inv _ i rfl hin hun j h)
  refine⟨hjn,?_⟩
  by_cases hji:j=i
  ·subst hji;exact YieldsIn.qOp hi hy H
  ·have h1:=(H.2 j (ready_mono hj hji)).2
   obtain⟨hjun,oj,hoj,hall⟩:=mem_ready.1 hj
   have hnot:∀e∈oj.after,Region.binds md e=true->e.on≠i:=fun e he hb heq=>by
    have h1:=hall e he hb
    rw[heq,getD_both hun] at h1
    cases h1
   have h2:=qOp_put hoj (hfree j oj hoj hji hjun hnot) (fun cs b=>hsel i oi cs b hi) (fun cs b=>hsel j oj cs b hoj) hy h1
   have hfree':∀k ok,ops[k]? = some ok->k≠i->(listed.setIfInBounds j true).getD k true=false ->
     (∀e∈ok.after,Region.binds md e=true->e.on≠i)->oi.apart ops ok=true:=fun k ok hk hki hun hno=>by
    refine hfree k ok hk hki ?_ hno
    by_cases hjk:j=k
    ·subst hjk;exact hjun
    ·rw[getD_set_ne true hjk] at hun;exact hun
   refine qOp_mono (fun a' h3=>ih (listed.setIfInBounds j true) a' (inv.set hj hjn) hfree' (ready_mono hr (Ne.symm hji)) h3.1 ?_) h2
   rw[Array.setIfInBounds_comm _ _ hji]
   exact h3.2
theorem head_lex {n g:Nat}{Lq:Act->Prop}(hsel:Region.noSelect ops=true)(hs:Region.sinkB md ops n=true)(hc:Region.chainB md ops n=true)(hn:n<ops.size) :
  ∀(l:List Oper) (k:Nat) (listed:Array Bool) (a:Act),(∀j,j<l.length->l[j]? = ops[k+j]?)->k+l.length=n->HeadInv md ops n listed ->
  Region.lexHead md ops g l.length k listed=true->wpQuiet P ops C Lq l a ->
  anyHead P md ops C n (fun listed' a'=>Region.seqB md ops g n listed'=true/\Lq a') l.length listed a
 |[],k,listed,a,_,hk,_,hB,h=>by
  have:k=n:=by simpa using hk
  subst this
  exact⟨by simpa [Region.lexHead] using hB,h⟩
 |o :: l,k,listed,a,hl,hk,inv,hB,h=>by
  have h0:ops[k]? = some o:=by simpa using (hl 0 (by simp)).symm
  simp only[List.length_cons,Region.lexHead,Bool.and_eq_true] at hB
  obtain⟨⟨hr,hf⟩,hB'⟩:=hB
  have hkn:k<n:=by simp only[List.length_cons] at hk;omega
  have hr':k∈Region.ready md ops listed:=by simpa using hr
  have hst:qOp P ops C k (wpQuiet P ops C Lq l) a:=by unfold qOp;simp only[h0];exact h
  obtain⟨v,hy,hK⟩:=yieldsIn_of_qOp h0 hst
  exact head_first h0 (Region.noSelect_spec hsel) hs hc hn hkn (fun listed' a' hL=>seqB_ready hL.1) l.length listed a inv (Region.free_spec h0 hf) hr' hy
   (head_lex hsel hs hc hn l (k+1) _ _ (fun j hj=>by have:=hl (j+1) (by simp;omega);simpa [Nat.add_assoc,Nat.add_comm 1 j] using this) (by simp only[List.length_cons] at hk;omega) (inv.set hr' hkn) hB' hK)
end
theorem wp_tail {P:Program}{id:Nat}{Q:Exit->Act->World->Prop}{a:Act}{w:World}{l:List Oper}(C:World->Prop)(n:Nat)(hm:P.follows .mixedOrders=true)(hB:Region.lexTailB .any l.toArray n=true)
  (hC:C { w with drawn:=w.drawn+1 })
  (h:wpQuiet P l.toArray C (fun a'=>∀w',C w'->wpList P l.toArray Q (l.drop n) a' w') (l.take n) a):(Code.region id l.toArray true).wp P Q a w:=by
 simp only[Region.lexTailB,Bool.and_eq_true,decide_eq_true_eq] at hB
 obtain⟨⟨⟨⟨hsel,hn⟩,hs⟩,hc⟩,hlex⟩:=hB
 have hn':n<l.length:=by simpa using hn
 have htl:(l.take n).length=n:=by simp;omega
 have hdl:(l.drop n).length=l.toArray.size-n:=by simp
 have inv0:HeadInv .any l.toArray n (Array.replicate l.toArray.size false):=
  ⟨by simp,fun j oj _ hl=>(by rw[getD_replicate_false] at hl;cases hl),fun t _ ht=>getD_in (by simpa using ht) (getD_replicate_false _ _)⟩
 have H:=head_lex (md:=.any) (C:=C) (g:=l.toArray.size-n) hsel hs hc hn (l.take n) 0 _ a (fun j hj=>by
  have hj':j<n:=by rw[htl] at hj;exact hj
  simp[hj']) (by simpa using htl) inv0 (by rw[htl];exact hlex) h
 refine wp_region_any hm ?_
 have:=any_of_head (Q':=Q) (g:=l.toArray.size-n) (fun listed a' w' hC' hL=>by
  have:=wpAny_of_seq (md:=.any) (Q':=Q) (l.drop n) n listed a' w' (fun j=>by simp[List.getElem?_drop]) (by rw[hdl];exact hL.1) (hL.2 w' hC')
  rwa [hdl] at this) _ _ _ { w with drawn:=w.drawn+1 } hC H
 rw[htl,show n+(l.toArray.size-n)=l.toArray.size by omega] at this
 exact this
theorem wp_all {P:Program}{id:Nat}{Q:Exit->Act->World->Prop}{a:Act}{w:World}{l:List Oper}(C:World->Prop)(hm:P.follows .mixedOrders=true)(hB:Region.lexB .any l.toArray=true)
  (hC:C { w with drawn:=w.drawn+1 })
  (h:wpQuiet P l.toArray C (fun a'=>∀w',C w'->Q .normal a' w') l a):(Code.region id l.toArray true).wp P Q a w:=
 wp_region_quiet (C:=C) hm hB hC (by simpa using h)
theorem fam (w:World):∃(I:Type) (_:Nonempty I) (f:I->World),(∀i,RowKit.Below w.heap.size w (f i))/\(∀w',RowKit.Below w.heap.size w w'->∃i,w'=f i):=
 ⟨{ w':World // RowKit.Below w.heap.size w w' },⟨⟨w,RowKit.Below.refl _ _⟩⟩,Subtype.val,fun i=>i.2,fun w' h=>⟨⟨w',h⟩,rfl⟩⟩
theorem quiet_post {P:Program}{ops:Array Oper}{C:World->Prop}{Q Q':Act->Prop}(h:∀a,Q a->Q' a):∀(l:List Oper) (a:Act),wpQuiet P ops C Q l a->wpQuiet P ops C Q' l a
 |[],a,hh=>h a hh
 |o :: l,a,hh=>by
  unfold wpQuiet at hh ⊢
  split
  ·rename_i hw;rw[if_pos hw] at hh;exact Oper.quiet_mono (fun a=>quiet_post h l a) hh
  ·rename_i hw;rw[if_neg hw] at hh;exact quiet_post h l _ hh
theorem wp_fam {P:Program}{id:Nat}{Q:Exit->Act->World->Prop}{a:Act}{w:World}{l:List Oper}(n:Nat)(hm:P.follows .mixedOrders=true)(hB:Region.lexTailB .any l.toArray n=true)
  (h:∀(I:Type) (_:Nonempty I) (f:I->World),(∀i,RowKit.Below w.heap.size w (f i))->(∀w',RowKit.Below w.heap.size w w'->∃i,w'=f i) ->
   wpQuiet P l.toArray (fun w'=>∃i,w'=f i) (fun a'=>∀w',RowKit.Below w.heap.size w w'->wpList P l.toArray Q (l.drop n) a' w') (l.take n) a):(Code.region id l.toArray true).wp P Q a w:=by
 obtain⟨I,hI,f,hf,hb⟩:=fam w
 exact wp_tail (fun w'=>∃i,w'=f i) n hm hB (hb _ ⟨rfl,rfl,rfl,Nat.le_refl _,fun _ _=>rfl⟩) (quiet_post (fun a' h' w' ⟨i,hi⟩=>h' w' (by rw[hi];exact hf i)) _ _ (h I hI f hf hb))
theorem wp_fam_all {P:Program}{id:Nat}{Q:Exit->Act->World->Prop}{a:Act}{w:World}{l:List Oper}(hm:P.follows .mixedOrders=true)(hB:Region.lexB .any l.toArray=true)
  (h:∀(I:Type) (_:Nonempty I) (f:I->World),(∀i,RowKit.Below w.heap.size w (f i))->(∀w',RowKit.Below w.heap.size w w'->∃i,w'=f i) ->
   wpQuiet P l.toArray (fun w'=>∃i,w'=f i) (fun a'=>∀w',RowKit.Below w.heap.size w w'->Q .normal a' w') l a):(Code.region id l.toArray true).wp P Q a w:=by
 obtain⟨I,hI,f,hf,hb⟩:=fam w
 exact wp_all (fun w'=>∃i,w'=f i) hm hB (hb _ ⟨rfl,rfl,rfl,Nat.le_refl _,fun _ _=>rfl⟩) (quiet_post (fun a' h' w' ⟨i,hi⟩=>h' w' (by rw[hi];exact hf i)) _ _ (h I hI f hf hb))
theorem calls_fam {P:Program}{g:FuncId}{args:Array Value}{w:World}{I:Type}{f:I->World}(hf:∀i,RowKit.Below w.heap.size w (f i))(hb:∀w',RowKit.Below w.heap.size w w'->∃i,w'=f i)
  {v:Value} {i:I} (h:Calls P g args (f i) fun e w'=>e=.returned v/\RowKit.Below (f i).heap.size (f i) w'):Calls P g args (f i) fun e w''=>e=.returned v/\∃j,w''=f j:=
 h.mono fun _ _ ⟨he,hw⟩=>⟨he,hb _ ((hf i).trans (hw.mono (hf i).size))⟩
structure Keep (p:Prop):Prop where
 out:p
theorem old_alloc (w:World)(o:Obj)(i:Nat)(h:i<w.heap.size):(w.alloc o).heap[i]? = w.heap[i]?:=by
 show (w.heap.push o)[i]? = w.heap[i]?
 rw[Array.getElem?_push,if_neg (by omega)]
structure Has (w:World) (g:Nat) (t:TypeId) (cs:Array Value):Prop where
 eq:w.heap[g]? = some (.cells cs t (0,0))
section
variable {w w':World} {g:Nat} {t:TypeId} {cs:Array Value}
theorem Has.lt (h:Has w g t cs):g<w.heap.size:=by
 rcases Nat.lt_or_ge g w.heap.size with hlt|hge
 ·exact hlt
 ·have:=h.eq;rw[Array.getElem?_eq_none hge] at this;cases this
theorem Has.cell (h:Has w g t cs)(i:Nat):w.cell? ⟨g,i,none⟩=cs[i]?:=cell_of_row w g i cs t (0,0) h.eq
theorem Has.frozen (h:Has w g t cs)(i:Nat):w.frozen? ⟨g,i,none⟩=false:=frozen_of_row w g i cs t h.eq
theorem Has.new (w:World)(t:TypeId)(cs:Array Value):Has (w.alloc (.cells cs t)) w.heap.size t cs:=⟨heap_alloc_new w _⟩
theorem Has.new' (w:World){g:Nat}(hg:g=w.heap.size)(t:TypeId)(cs:Array Value):Has (w.alloc (.cells cs t)) g t cs:=by subst hg;exact Has.new w t cs
theorem Has.alloc (h:Has w g t cs)(o:Obj):Has (w.alloc o) g t cs:=⟨(old_alloc w o g h.lt).trans h.eq⟩
theorem Has.set_ (h:Has w g t cs)(i:Nat)(u:Value):Has (w.setCell ⟨g,i,none⟩ u) g t (cs.setIfInBounds i u):=⟨heap_setCell_same w g i cs t u h.eq⟩
theorem Has.far (h:Has w g t cs){p:Addr}(hp:g≠p.block)(u:Value):Has (w.setCell p u) g t cs:=⟨(heap_setCell_other w p g u hp).trans h.eq⟩
theorem Has.below {B:Nat}(h:Has w g t cs)(hb:RowKit.Below B w w')(hg:g<B):Has w' g t cs:=⟨(hb.block g hg).trans h.eq⟩
theorem Has.keep (h:Has w g t cs)(hb:RowKit.Below w.heap.size w w'):Has w' g t cs:=h.below hb h.lt
theorem Has.drew (h:Has w g t cs):Has w.drew g t cs:=⟨h.eq⟩
end
theorem Has.row {w:World}{g:Nat}{t:TypeId}{cs:Array Value}(h:Has w g t cs)(cs':Array Value):Has (w.setRow g cs') g t cs':=⟨setRow_heap w g cs cs' t (0,0) h.eq⟩
theorem Has.rowFar {w:World}{g g':Nat}{t:TypeId}{cs:Array Value}(h:Has w g t cs)(hg:g≠g')(cs':Array Value):Has (w.setRow g' cs') g t cs:=⟨(setRow_other w g' g cs' hg).trans h.eq⟩
theorem below_row {B:Nat}{a w:World}(h:RowKit.Below B a w){g:Nat}(hg:B<=g)(cs:Array Value):RowKit.Below B a (w.setRow g cs):=
 h.trans ⟨rfl,rfl,rfl,by simp,fun k hk=>setRow_other w g k cs (by omega)⟩
theorem store_abs {P:Program}{w:World}{ops:Array Oper}{rest:List Oper}{o:Oper}{a:Act}{Q:Exit->Act->World->Prop}(hgd:o.guard=none)(ty:TypeId)(x y:Operand)(ho:o.op=.store ty x y)
  (hd:o.dst=none) (g:Nat) (cells:Array Value) (hx:a.eval x=.pointer (some ⟨g,0,none⟩)) (hy:a.eval y=.agg cells)
  (t:TypeId) (old:Array Value) (hg:Has w g t old) (hi:(P.info? ty).map (·.size)=some cells.size)
  (hold:old.size=cells.size) (h1:cells.all (·.oneCell')=true) (B:Nat) (w0:World) (hb:RowKit.Below B w0 w) (hB:B<=g)
  (h:∀w',Has w' g t cells->(∀g' t' cs',Has w g' t' cs'->g'≠g->Has w' g' t' cs')->RowKit.Below B w0 w'->wpList P ops Q rest a w'):wpList P ops Q (o :: rest) a w:=
 wpList_store_rowTo hgd ty x y ho hd g cells hx hy t old hg.eq hi hold h1 (h _ (hg.row cells) (fun _ _ _ hh hne=>hh.rowFar hne cells) (below_row hb hB cells))
def nth (l:List Int)(i:Nat):Int:=l.getD i 0
theorem nth_set (l:List Int)(i j:Nat)(x:Int)(h:i<l.length):nth (l.set i x) j=if i=j then x else nth l j:=by
 unfold nth
 by_cases e:i=j
 ·subst e;simp[h]
 ·simp[e]
theorem nth_append_left (l m:List Int)(i:Nat)(h:i<l.length):nth (l++m) i=nth l i:=by simp[nth,List.getElem?_append_left h]
theorem nth_append_right (l m:List Int)(i:Nat)(h:l.length<=i):nth (l++m) i=nth m (i-l.length):=by simp[nth,List.getElem?_append_right h]
theorem ext_nth {l m:List Int}(h:l.length=m.length)(g:∀i,i<l.length->nth l i=nth m i):l=m:=by
 refine List.ext_getElem h fun i h1 h2=>?_
 have:=g i h1
 simpa [nth,h1,h2] using this
def vals (k:IntKind)(xs:List Int):Array Value:=(xs.map (Value.int k)).toArray
theorem vals_get {k:IntKind}{xs:List Int}{i:Nat}(h:i<xs.length):(vals k xs)[i]? = some (.int k (nth xs i)):=by
 simp[vals,nth,h]
theorem vals_set {k:IntKind}{xs:List Int}{i:Nat}{x:Int}:(vals k xs).setIfInBounds i (.int k x)=vals k (xs.set i x):=by
 simp[vals,List.map_set]
theorem vals_one {k:IntKind}{xs:List Int}:(vals k xs).all (·.oneCell')=true:=by
 simp[vals,Value.oneCell']
theorem vals_size {k:IntKind}{xs:List Int}:(vals k xs).size=xs.length:=by simp[vals]
theorem Has.src {w:World}{g:Nat}{t:TypeId}{k:IntKind}{xs ys:List Int}(h:Has w g t (vals k xs)){off n:Nat}(hy:ys=(xs.drop off).take n) :
  ∀(j:Nat) (v:Value),(ys.map (Value.int k))[j]? = some v->w.cell? ((⟨g,off,none⟩:Addr).add j)=some v:=by
 intro j v hv
 have hadd:(⟨g,off,none⟩:Addr).add j=⟨g,off+j,none⟩:=by unfold Addr.add;split<;>simp_all
 rw[hadd,h.cell]
 subst hy
 rw[List.getElem?_map] at hv
 simp only[vals,List.getElem?_toArray,List.getElem?_map]
 have hj:j<((xs.drop off).take n).length:=by
  rcases Nat.lt_or_ge j ((xs.drop off).take n).length with h|h
  ·exact h
  ·rw[List.getElem?_eq_none h] at hv;cases hv
 rw[List.getElem?_take_of_lt (by simp at hj;omega),List.getElem?_drop] at hv
 exact hv
theorem Has.val {w:World}{g:Nat}{t:TypeId}{k:IntKind}{xs:List Int}(h:Has w g t (vals k xs)){i:Nat}(hi:i<xs.length):w.cell? ⟨g,i,none⟩=some (.int k (nth xs i)):=
 (h.cell i).trans (vals_get hi)
def tab (n:Nat)(F:Nat->Int):List Int:=(List.range n).map F
theorem tab_len (n:Nat)(F:Nat->Int):(tab n F).length=n:=by simp[tab]
theorem tab_nth {n:Nat}(F:Nat->Int){j:Nat}(hj:j<n):nth (tab n F) j=F j:=by simp[tab,nth,hj]
end Reg
namespace Reg
open Go
section
variable {P:Program} {ops:Array Oper} {md:Region.Mode}
def listB (md:Region.Mode)(ops:Array Oper):List Nat->Array Bool->Bool
 |[],listed=>(Region.ready md ops listed).isEmpty
 |k :: ks,listed=>decide (Region.ready md ops listed=[k])&&listB md ops ks (listed.setIfInBounds k true)
theorem wpAny_of_list {Q':Exit->Act->World->Prop}:∀(ks:List Nat) (listed:Array Bool) (a:Act) (w:World),
  listB md ops ks listed=true->wpList P ops Q' (ks.filterMap (ops[·]?)) a w->wpAny P md ops Q' ks.length listed a w
 |[],_,_,_,hB,h=>⟨by simpa [listB] using hB,h⟩
 |k :: ks,listed,a,w,hB,h=>by
  simp only[listB,Bool.and_eq_true,decide_eq_true_eq] at hB
  have hk:k∈Region.ready md ops listed:=by rw[hB.1];simp
  obtain⟨_,o,ho,_⟩:=mem_ready.1 hk
  rw[List.filterMap_cons_some ho] at h
  refine⟨fun h1=>(by rw[h1] at hk;cases hk),fun i hi=>?_⟩
  rw[hB.1] at hi
  have hik:i=k:=by simpa using hi
  subst hik
  have hw:wpOp P ops Q' i (wpList P ops Q' (ks.filterMap (ops[·]?))) a w:=by unfold wpOp;simp only[ho];exact h
  exact wpOp_mono (fun a' w' h'=>wpAny_of_list ks _ a' w' hB.2 h') hw
def frontB (md:Region.Mode)(ops:Array Oper)(rest:List Nat):List Nat->Array Bool->Bool
 |[],listed=>listB md ops rest listed
 |i :: is,listed=>(Region.ready md ops listed).contains i&&Region.free md ops listed i&&frontB md ops rest is (listed.setIfInBounds i true)
def wpFront (P:Program)(ops:Array Oper)(K:Act->Prop):List Oper->Act->Prop
 |[],a=>K a
 |o :: os,a=>∃v,Yields P ops o v a/\wpFront P ops K os (a.put o.dst v)
theorem wpAny_of_front {Q':Exit->Act->World->Prop}{rest:List Nat}{w:World}(hs:Region.noSelect ops=true)(hQ:∀c a d v w,Q' (.panic c) (Act.put a d v) w->Q' (.panic c) a w) :
  ∀(is:List Nat) (listed:Array Bool) (a:Act),frontB md ops rest is listed=true ->
   wpFront P ops (fun a'=>wpList P ops Q' (rest.filterMap (ops[·]?)) a' w) (is.filterMap (ops[·]?)) a->wpAny P md ops Q' (is.length+rest.length) listed a w
 |[],listed,a,hB,h=>by
  simp only[List.length_nil,Nat.zero_add]
  exact wpAny_of_list rest listed a w hB h
 |i :: is,listed,a,hB,h=>by
  simp only[frontB,Bool.and_eq_true] at hB
  have hk:i∈Region.ready md ops listed:=by simpa using hB.1.1
  obtain⟨_,o,ho,_⟩:=mem_ready.1 hk
  rw[List.filterMap_cons_some ho] at h
  obtain⟨v,hy,h⟩:=h
  rw[List.length_cons,show is.length+1+rest.length=(is.length+rest.length)+1 by omega]
  exact wpAny_take ho hs hB.1.2 hB.1.1 (fun c a w=>hQ c a o.dst v w) hy (wpAny_of_front hs hQ is _ _ hB.2 h)
end
theorem wp_front {P:Program}{id:Nat}{Q:Exit->Act->World->Prop}{a:Act}{w:World}{l:List Oper}(front rest:List Nat)(hm:P.follows .mixedOrders=true)
  (hlen:front.length+rest.length=l.toArray.size) (hs:Region.noSelect l.toArray=true) (hB:frontB .any l.toArray rest front (Array.replicate l.toArray.size false)=true)
  (hQ:∀c a d v w,Q (.panic c) (Act.put a d v) w->Q (.panic c) a w)
  (h:wpFront P l.toArray (fun a'=>wpList P l.toArray Q (rest.filterMap (l[·]?)) a' w.drew) (front.filterMap (l[·]?)) a):(Code.region id l.toArray true).wp P Q a w:=by
 refine wp_region_any hm ?_
 have:=wpAny_of_front (md:=.any) (Q':=Q) (w:=w.drew) hs hQ front _ a hB (by simpa using h)
 rwa [hlen] at this
theorem wpList_ops {P:Program}{ops ops':Array Oper}{Q:Exit->Act->World->Prop}:∀(l:List Oper) (a:Act) (w:World),(l.all fun o=>o.guard.isNone)=true->wpList P ops' Q l a w->wpList P ops Q l a w
 |[],_,_,_,h=>h
 |o :: l,a,w,hg,h=>by
  simp only[List.all_cons,Bool.and_eq_true] at hg
  have hn:o.guard=none:=by simpa using hg.1
  have h1:∀f,Region.wanted o f=true:=fun f=>by simp[Region.wanted,hn]
  unfold wpList at h ⊢
  rw[if_pos (h1 _)] at h ⊢
  exact h.imp (fun h=>Oper.wp_mono (fun a w h=>wpList_ops l a w hg.2 h) h) id
theorem wpList_own {P:Program}{ops:Array Oper}{Q:Exit->Act->World->Prop}{l:List Oper}{a:Act}{w:World}(hg:(l.all fun o=>o.guard.isNone)=true)(h:wpList P l.toArray Q l a w):wpList P ops Q l a w:=
 wpList_ops l a w hg h
end Reg
namespace Reg
open Go
section
variable {P:Program} {ops:Array Oper} {md:Region.Mode}
end
end Reg
namespace Reg
open Go
theorem store_abs2 {P:Program}{w:World}{ops:Array Oper}{rest:List Oper}{o:Oper}{a:Act}{Q:Exit->Act->World->Prop}(hgd:o.guard=none)(ty:TypeId)(x y:Operand)(ho:o.op=.store ty x y)
  (hd:o.dst=none) (g:Nat) (cells:Array Value) (hx:a.eval x=.pointer (some ⟨g,0,none⟩)) (hy:a.eval y=.agg cells)
  (t:TypeId) (old:Array Value) (hg:Has w g t old) (hi:(P.info? ty).map (·.size)=some cells.size)
  (hold:old.size=cells.size) (h1:cells.all (·.oneCell')=true)
  (h:∀w',Has w' g t cells->(∀g' t' cs',Has w g' t' cs'->g'≠g->Has w' g' t' cs')->RowKit.Below g w w'->wpList P ops Q rest a w'):wpList P ops Q (o :: rest) a w:=
 wpList_store_rowTo hgd ty x y ho hd g cells hx hy t old hg.eq hi hold h1 (h _ (hg.row cells) (fun _ _ _ hh hne=>hh.rowFar hne cells) (below_row (RowKit.Below.refl _ _) (Nat.le_refl _) cells))
structure Rd (w:World) (B:Nat) (A:Option Addr) (n:Nat) (k:IntKind) (xs:List Int):Prop where
 len:xs.length=n
 at_:0<n->∃b off,A=some ⟨b,off,none⟩/\b<B/\∀j,j<n->w.cell? ⟨b,off+j,none⟩=some (.int k (nth xs j))
section
variable {w w':World} {B b off:Nat} {A:Option Addr} {n:Nat} {k:IntKind} {xs:List Int}
theorem Rd.keepB (h:Rd w B A n k xs)(hb:RowKit.Below B w w'):Rd w' B A n k xs:=
 ⟨h.len,fun hn=>by
  obtain⟨b,off,e,hlt,hc⟩:=h.at_ hn
  exact⟨b,off,e,hlt,fun j hj=>(hb.cell (p:=⟨b,off+j,none⟩) hlt).trans (hc j hj)⟩⟩
theorem Rd.keep (h:Rd w B A n k xs){B':Nat}(hb:RowKit.Below B' w w')(hB:B<=B'):Rd w' B A n k xs:=h.keepB (hb.mono hB)
theorem Rd.more (h:Rd w B A n k xs){B':Nat}(hB:B<=B'):Rd w B' A n k xs:=
 ⟨h.len,fun hn=>by
  obtain⟨b,off,e,hlt,hc⟩:=h.at_ hn
  exact⟨b,off,e,by omega,hc⟩⟩
theorem Rd.of_has {g:Nat}{t:TypeId}{off m:Nat}{ys:List Int}(h:Has w g t (vals k xs))(hg:g<B)(hy:ys=(xs.drop off).take m)(hm:off+m<=xs.length):Rd w B (some ⟨g,off,none⟩) m k ys:=
 ⟨by subst hy;simp;omega,fun _=>⟨g,off,rfl,hg,fun j hj=>by
  have:=h.val (i:=off+j) (by omega)
  rw[this];subst hy
  simp[nth,List.getElem?_take_of_lt hj]⟩⟩
theorem Rd.src (h:Rd w B (some (⟨b,off,none⟩:Addr)) n k xs)(hn:0<n):∀(j:Nat) (v:Value),(xs.map (Value.int k))[j]? = some v->w.cell? ((⟨b,off,none⟩:Addr).add j)=some v:=by
 intro j v hv
 obtain⟨b',off',e,_,hc⟩:=h.at_ hn
 injection e with e
 injection e with e1 e2
 subst e1 e2
 have hadd:(⟨b,off,none⟩:Addr).add j=⟨b,off+j,none⟩:=by unfold Addr.add;split<;>simp_all
 have hj:j<xs.length:=by
  rcases Nat.lt_or_ge j xs.length with h|h
  ·exact h
  ·rw[List.getElem?_eq_none (by simpa using h)] at hv;cases hv
 rw[hadd,hc j (by have:=h.len;omega)]
 rw[List.getElem?_map,List.getElem?_eq_getElem hj] at hv
 rw[<-hv]
 simp[nth,hj]
end
structure Own (w:World) (base:Nat) (e:TypeId) (k:IntKind) (A:Option Addr) (n c:Nat) (xs:List Int):Prop where
 own:w.ownsRow base e 1 (.slice A n c) n (xs.map (Value.int k))
section
variable {w w':World} {base:Nat} {e:TypeId} {A:Option Addr} {n c:Nat} {k:IntKind} {xs:List Int}
theorem Own.len (h:Own w base e k A n c xs):xs.length=n:=by have:=h.own.1;simpa using this
theorem Own.at_ (h:Own w base e k A n c xs)(hn:0<n):∃g,A=some ⟨g,0,none⟩/\base<=g/\g<w.heap.size/\n<=c/\(∀j,j<n->w.cell? ⟨g,j,none⟩=some (.int k (nth xs j)))/\(∀j,w.frozen? ⟨g,j,none⟩=false):=by
 have hl:=h.len
 rcases h.own.2 with ⟨_,h0⟩|⟨g,cap,cur,hv,hg,hh,hnc,hcm,hcs,htk⟩
 ·omega
 ·injection hv with e1 e2 e3
  subst e1 e3
  have hlt:g<w.heap.size:=(Array.getElem?_eq_some_iff.1 hh).1
  refine⟨g,rfl,hg,hlt,hnc,fun j hj=>?_,fun j=>?_⟩
  ·have h1:w.cell? ⟨g,j,none⟩=cur[j]?:=cell_of_row w g j cur e (0,0) hh
   rw[h1]
   have h2:(cur.toList.take (n*1))[j]? = cur[j]?:=by
    rw[List.getElem?_take_of_lt (by omega),Array.getElem?_toList]
   rw[<-h2,htk,List.getElem?_map,List.getElem?_eq_getElem (by omega)]
   simp[nth,hl,hj]
  ·exact frozen_of_row w g j cur e hh
theorem Own.of_has {g:Nat}(h:Has w g e (vals k xs))(hg:base<=g)(hm:xs.length<=maxLen):Own w base e k (some ⟨g,0,none⟩) xs.length xs.length xs:=
 ⟨by simp,.inr ⟨g,xs.length,vals k xs,rfl,hg,h.eq,Nat.le_refl _,hm,by simp[vals],by simp only[vals,Nat.mul_one];exact List.take_of_length_le (by simp)⟩⟩
end
structure IntElem (P:Program) (e:TypeId) (k:IntKind) (bytes:Nat):Prop where
 get:∃i,P.info? e=some i/\i.zero=some (.int k 0)/\i.size=1/\i.bytes=bytes
theorem IntElem.of {P:Program}{e:TypeId}{k:IntKind}{bytes:Nat}(h1:(P.info? e).map (fun i=>(i.size,i.bytes))=some (1,bytes))(h2:(P.info? e).bind (·.zero)=some (.int k 0)):IntElem P e k bytes:=by
 cases hi:P.info? e with
 |none=>rw[hi] at h1;cases h1
 |some i=>
  rw[hi] at h1 h2
  simp at h1
  exact⟨i,hi,h2,h1.1,h1.2⟩
theorem append_abs {P:Program}{w:World}{ops:Array Oper}{rest:List Oper}{o:Oper}{a:Act}{Q:Exit->Act->World->Prop}(hgd:o.guard=none)(s x:Operand)(t:TypeId)
  (ho:o.op=.call { callee:=.builtin .append,args:=#[s,x],argTypes:=#[t,t] })
  (base:Nat) (e:TypeId) (k:IntKind) (bytes:Nat) (ht:P.underlying t=some (.slice e)) (he:IntElem P e k bytes)
  (A:Option Addr) (n c:Nat) (xs:List Int) (hs:a.eval s=.slice A n c) (hown:Own w base e k A n c xs)
  (B:Nat) (A2:Option Addr) (m c2:Nat) (ys:List Int) (hx:a.eval x=.slice A2 m c2) (hr:Rd w B A2 m k ys)
  (N:Nat) (hN:n+m=N) (zs:List Int) (hzs:xs++ys=zs) (hbytes:N*bytes<=140737488355328) (h63:N<=maxLen) (hbase:base<=w.heap.size)
  (h:∀A' c' w',Own w' base e k A' N c' zs->RowKit.Below base w w'->wpList P ops Q rest (a.put o.dst (.slice A' N c')) w'):wpList P ops Q (o :: rest) a w:=by
 subst hN hzs
 obtain⟨i,hi,hz,hsize,hby⟩:=he.get
 have hl:=hr.len
 have hbel:∀w',w.grownBy w' (Value.slice A n c).ownBlock->RowKit.Below base w w':=fun w' hg=>
  ⟨hg.os,hg.tape,hg.output,hg.size,fun q hq=>hg.block q (by omega) (fun he=>by
   rcases hown.own.2 with ⟨hv,_⟩|⟨g,cap,cur,hv,hge,_⟩
   ·rw[hv] at he;simp[Value.ownBlock] at he
   ·rw[hv] at he;simp[Value.ownBlock] at he;omega)⟩
 rcases A2 with _|ad
 ·have hm:m=0:=by
   rcases Nat.eq_zero_or_pos m with h0|h0
   ·exact h0
   ·obtain⟨b,off,he,_⟩:=hr.at_ h0;cases he
  subst hm
  obtain rfl:ys=[]:=List.eq_nil_of_length_eq_zero hl
  have hrun:(Builtin.append_ #[t,t] o.type #[.slice A n c,.slice none 0 c2]).run P w=.ok (.slice A n c) w:=by
   rcases hown.own.2 with ⟨hv,_⟩|⟨g,cap,cur,hv,_,_,hnc,_⟩
   ·injection hv with e1 e2 e3;subst e1 e2 e3
    simp[Builtin.append_,run_underlying ht,sizeOf,typeInfo,hi,Builtin.lenOf,Builtin.firstCells]
   ·injection hv with e1 e2 e3;subst e1 e3
    simp[Builtin.append_,run_underlying ht,sizeOf,typeInfo,hi,Builtin.lenOf,Builtin.firstCells,hnc,storeCells]
  refine wpList_plain hgd fun K hK=>?_
  unfold Oper.wp execOp
  simp only[ho,resolve,invoke,builtin,Sem.run_bind,Sem.run_pure,Result.andThen_ok,List.map_toArray,List.map_cons,List.map_nil,hs,hx,hrun]
  refine hK _ _ (h A c w (by simpa using hown) (RowKit.Below.refl _ _))
 ·have hnews:∀(j:Nat) (u:Value),(ys.map (Value.int k))[j]? = some u->w.cell? (ad.add j)=some u:=by
   rcases Nat.eq_zero_or_pos m with h0|h0
   ·obtain rfl:ys=[]:=List.eq_nil_of_length_eq_zero (by omega)
    intro j u hu;simp at hu
   ·obtain⟨b,off,he,_⟩:=hr.at_ h0
    injection he with he
    subst he
    exact hr.src h0
  refine wpList_append_own_at w hgd s x t ho base e i (.int k 0) 1 bytes ht hi hz hsize hby rfl (by omega) _ n _ hs hown.own ad m c2 (ys.map (Value.int k)) hx (by simp[hl]) hnews (fun u hu=>?_) h63 hbytes hbase (fun v' w' h1 h2 _ _=>?_)
  ·obtain⟨q,_,rfl⟩:=List.mem_map.1 hu
   rfl
  ·rw[<-List.map_append] at h1
   have hform:∃A' c',v'=.slice A' (n+m) c':=by
    rcases h1.2 with ⟨hv,h0⟩|⟨g,cap,cur,hv,_⟩
    ·exact⟨none,0,by rw[hv,h0]⟩
    ·exact⟨_,_,hv⟩
   obtain⟨A',c',rfl⟩:=hform
   exact h A' c' w' ⟨h1⟩ (hbel w' h2)
theorem run_load_seg {P:Program}{w:World}{g off n:Nat}{t ty:TypeId}{k:IntKind}{xs ys:List Int}{d:TypeDesc}(h:Has w g t (vals k xs))(hu:P.underlying ty=some d)(hd:(match d with | .struct _ | .array _ _=>true|_=>false)=true)
  (hi:(P.info? ty).map (·.size)=some n) (hy:ys=(xs.drop off).take n) (hoff:off+n<=xs.length):(loadVar ty ⟨g,off,none⟩).run P w=.ok (.agg (vals k ys)) w:=by
 have hyl:(ys.map (Value.int k)).length=n:=by subst hy;simp;omega
 have hl:(loadCells ⟨g,off,none⟩ (ys.map (Value.int k)).length).run P w=.ok (ys.map (Value.int k)).toArray w:=run_loadCells_list (P:=P) w ⟨g,off,none⟩ (ys.map (Value.int k)) (h.src hy)
 have hagg:(isAgg ty).run P w=.ok true w:=by
  unfold isAgg
  rw[Sem.run_bind,run_underlying hu w]
  cases d<;>simp_all
 cases hq:P.info? ty with
 |none=>simp[hq] at hi
 |some i=>
  have hs:i.size=n:=by simpa [hq] using hi
  rw[hyl] at hl
  simp[loadVar,Sem.run_bind,hagg,sizeOf,typeInfo,hq,hs,hl,vals]
theorem arrayAt_run {P:Program}{w:World}{arr e:TypeId}{n:Nat}(hu:P.underlying arr=some (.array n e)){A:Option Addr}{l c:Nat}(h:n<=l):(Instr.arrayAt arr (.slice A l c)).run P w=.ok (.pointer A) w:=by
 simp[Instr.arrayAt,run_underlying hu,show ¬l<n by omega]
theorem quiet_load_seg {P:Program}{o:Oper}{a:Act}{C:World->Prop}{K:Act->Prop}(ty:TypeId)(x:Operand)(ho:o.op=.load ty x)(g off n:Nat)(hx:a.eval x=.pointer (some ⟨g,off,none⟩))(t:TypeId)(k:IntKind)(xs ys:List Int)(d:TypeDesc)
  (h:∀w,C w->Has w g t (vals k xs)) (hu:P.underlying ty=some d) (hd:(match d with | .struct _ | .array _ _=>true|_=>false)=true)
  (hi:(P.info? ty).map (·.size)=some n) (hy:ys=(xs.drop off).take n) (hoff:off+n<=xs.length) (hk:K (a.put o.dst (.agg (vals k ys)))):o.quiet P a C K:=by
 refine⟨.agg (vals k ys),fun w hw=>?_,hk⟩
 unfold Oper.quietAt execOp
 simp only[ho,hx,Instr.loadAt,Instr.sureAddr,Sem.run_bind,Sem.run_pure,Result.andThen_ok,run_load_seg (h w hw) hu hd hi hy hoff]
 exact⟨rfl,rfl⟩
theorem part_vals {P:Program}{w:World}{e:TypeId}{k k':IntKind}(he:P.underlying e=some (.int k')){xs:List Int}{j:Nat}(hj:j<xs.length):(part e (vals k xs) j).run P w=.ok (.int k (nth xs j)) w:=by
 have hg:=vals_get (k:=k) hj
 have hagg:(isAgg e).run P w=.ok false w:=by
  unfold isAgg
  rw[Sem.run_bind,run_underlying he w]
  simp
 simp[part,hagg,hg]
theorem eqItems_vals {P:Program}{w:World}{d:Nat}{e:TypeId}{k k':IntKind}(he:P.underlying e=some (.int k')){xs ys:List Int}:∀(is:List Nat),(∀j∈is,j<xs.length/\j<ys.length) ->
  (Op.eqItems (d+1) e 1 (vals k xs) (vals k ys) is).run P w=.ok (is.all fun j=>nth xs j==nth ys j) w
 |[],_=>by simp[Op.eqItems]
 |j :: is,h=>by
  have hj:=h j (by simp)
  have ih:=eqItems_vals (w:=w) (d:=d) (k:=k) he (xs:=xs) (ys:=ys) is (fun q hq=>h q (by simp[hq]))
  have h1:=part_vals (w:=w) (k:=k) he hj.1
  have h2:=part_vals (w:=w) (k:=k) he hj.2
  simp only[Op.eqItems,Nat.mul_one,Sem.run_bind,h1,h2,Result.andThen_ok,run_equalIn_int w d e k k' _ _ he]
  by_cases hq:nth xs j=nth ys j
  ·simp[hq,ih]
  ·simp[hq]
theorem equalIn_vals {P:Program}{w:World}{d n:Nat}{t e:TypeId}{k k':IntKind}(hu:P.underlying t=some (.array n e))(he:P.underlying e=some (.int k'))(hi:(P.info? e).isSome=true)(hc:P.cellsOf e=1){xs ys:List Int}(hx:xs.length=n)(hy:ys.length=n) :
  (Op.equalIn (d+2) t (.agg (vals k xs)) (.agg (vals k ys))).run P w=.ok (decide (xs=ys)) w:=by
 obtain⟨i,hi'⟩:=Option.isSome_iff_exists.1 hi
 rw[run_equalIn_array w (d+1) (vals k xs) (vals k ys) hu hi',hc,eqItems_vals he _ (fun j hj=>by have:=List.mem_range.1 hj;omega)]
 congr 1
 rw[Bool.eq_iff_iff]
 simp only[List.all_eq_true,List.mem_range,beq_iff_eq,decide_eq_true_eq]
 exact⟨fun h=>ext_nth (by omega) (fun i hi=>h i (by omega)),fun h j _=>by rw[h]⟩
end Reg
namespace Reg
open Go
end Reg
namespace Reg
open Go
section
variable {P:Program} {ops:Array Oper} {md:Region.Mode} {Q:Exit->Act->World->Prop} {S:World->Prop}
def wpAnyU (P:Program)(md:Region.Mode)(ops:Array Oper)(Q:Exit->Act->World->Prop)(S:World->Prop):Nat->Array Bool->Act->World->Prop
 |0,listed,a,w=>Region.ready md ops listed=[]/\∀w',RowKit.Below w.heap.size w w'->Q .normal a w'
 |f+1,listed,a,w=>Region.ready md ops listed≠[]/\∀i∈Region.ready md ops listed,∀w',RowKit.Below w.heap.size w w' ->
   wpOp P ops Q i (fun a' w''=>S w''/\wpAnyU P md ops Q S f (listed.setIfInBounds i true) a' w'') a w'
theorem wpAny_of_U:∀(f:Nat) (listed:Array Bool) (a:Act) (w:World),wpAnyU P md ops Q S f listed a w->wpAny P md ops Q f listed a w
 |0,_,_,_,h=>⟨h.1,h.2 _ (RowKit.Below.refl _ _)⟩
 |f+1,_,_,w,h=>⟨fun h0=>absurd h0 h.1,fun i hi=>wpOp_mono (fun a' w' h'=>wpAny_of_U f _ a' w' h'.2) (h.2 i hi w (RowKit.Below.refl _ _))⟩
theorem below_tr {a b c:World}(h:RowKit.Below a.heap.size a b)(k:RowKit.Below b.heap.size b c):RowKit.Below a.heap.size a c:=h.trans (k.mono h.size)
theorem wpAnyU_up:∀{f:Nat} {listed:Array Bool} {a:Act} {w w':World},wpAnyU P md ops Q S f listed a w->RowKit.Below w.heap.size w w'->wpAnyU P md ops Q S f listed a w'
 |0,_,_,_,_,h,hb=>⟨h.1,fun w2 h2=>h.2 w2 (below_tr hb h2)⟩
 |_+1,_,_,_,_,h,hb=>⟨h.1,fun i hi w2 h2=>h.2 i hi w2 (below_tr hb h2)⟩
def Steady (P:Program)(ops:Array Oper)(S:World->Prop)(o:Oper)(v:Value)(a:Act):Prop:=
 (Region.wanted o (yielded ops a.tmps)=true/\∀w,S w->o.quietAt P a (fun x=>RowKit.Below w.heap.size w x) w v)∨(Region.wanted o (yielded ops a.tmps)=false/\v=undef)
theorem Steady.of_same {o:Oper}{v:Value}{a a':Act}(hy:Steady P ops S o v a)(he:execOp a'.eval o=execOp a.eval o)
  (hw:Region.wanted o (yielded ops a'.tmps)=Region.wanted o (yielded ops a.tmps)):Steady P ops S o v a':=by
 unfold Steady Oper.quietAt at *
 rw[he,hw]
 exact hy
theorem Steady.wpOp (hS:∀w w',S w->RowKit.Below w.heap.size w w'->S w'){i:Nat}{o:Oper}{v:Value}{a:Act}(hi:ops[i]? = some o)(hy:Steady P ops S o v a){K:Act->World->Prop}{w:World}(hw:S w)
  (h:∀w',RowKit.Below w.heap.size w w'->K (a.put o.dst v) w'):wpOp P ops Q i K a w:=by
 unfold Go.wpOp
 simp only[hi]
 rcases hy with ⟨hwt,hv⟩|⟨hwt,rfl⟩
 ·rw[if_pos hwt]
  refine .inl (Oper.wp_of_quiet (C:=fun x=>x=w∨RowKit.Below w.heap.size w x) (K:=fun a'=>a'=a.put o.dst v) (.inl rfl) (fun a' w' hw' ha=>?_) ⟨v,fun w1 h1=>?_,rfl⟩)
  ·rw[ha]
   rcases hw' with rfl|hw'
   ·exact h _ (RowKit.Below.refl _ _)
   ·exact h _ hw'
  ·have hb1:RowKit.Below w.heap.size w w1:=by
    rcases h1 with rfl|h1
    ·exact RowKit.Below.refl _ _
    ·exact h1
   have hq:=hv w1 (hS _ _ hw hb1)
   unfold Oper.quietAt at hq ⊢
   generalize (execOp a.eval o).run P w1=r at *
   cases r with
   |ok n w'=>
    cases n<;>simp only[Oper.quietUpon] at hq ⊢
    case value u=>exact hq
    case skip=>exact hq
    case enter f args=>exact⟨hq.1,hq.2.mono fun e w'' ⟨he,hw''⟩=>⟨he,.inr (below_tr hb1 hw'')⟩⟩
   |halt x w'=>simp only[Oper.quietUpon] at hq
 ·rw[if_neg (by rw[hwt];simp)]
  exact h _ (RowKit.Below.refl _ _)
theorem wpOp_putS {j:Nat}{oi oj:Oper}{v:Value}(hj:ops[j]? = some oj)(hap:oi.apart ops oj=true)
  (hsi:∀cs b,oi.op≠.select cs b) (hsj:∀cs b,oj.op≠.select cs b)
  (hQ:∀c a w,Q (.panic c) (a.put oi.dst v) w->Q (.panic c) a w) {K:Act->World->Prop} {a:Act} {w:World}
  (hy:Steady P ops S oi v a) (h:wpOp P ops Q j K (a.put oi.dst v) w) :
  wpOp P ops Q j (fun a' w'=>Steady P ops S oi v a'/\K (a'.put oi.dst v) w') a w:=by
 obtain⟨h1,h2,h3⟩:=Oper.apart_spec hap
 have keep:∀(a:Act),Steady P ops S oi v a->∀u,Steady P ops S oi v (a.put oj.dst u):=fun a hy u=>
  hy.of_same (execOp_put oi hsi a oj.dst u h3) (wanted_put oi a oj.dst u h3)
 have keepD:∀d,Steady P ops S oi v { a with defers:=d :: a.defers }:=fun d=>hy.of_same rfl rfl
 have comm:∀(d:Deferred) u,({ a.put oi.dst v with defers:=d :: (a.put oi.dst v).defers }:Act).put oj.dst u=(({ a with defers:=d :: a.defers }:Act).put oj.dst u).put oi.dst v:=fun d u=>by
  rw[<-Act.put_comm _ v u h2]
  cases oi.dst<;>rfl
 unfold wpOp at *
 simp only[hj] at *
 rw[wanted_put oj a oi.dst v h1] at h
 split
 ·rename_i hw
  simp only[hw,if_true] at h
  rcases h with h|⟨hasks,hlets⟩
  case inr=>exact .inr ⟨by unfold Oper.asks at *;rw[execOp_put oj hsj a oi.dst v h1] at hasks;exact hasks,hlets⟩
  refine .inl ?_
  unfold Oper.wp at *
  rw[execOp_put oj hsj a oi.dst v h1] at h
  generalize (execOp a.eval oj).run P w=r at *
  cases r with
  |ok n w'=>
   cases n<;>simp only[Oper.upon] at h ⊢
   case value u=>exact⟨keep a hy u,by rw[<-Act.put_comm a v u h2];exact h⟩
   case skip=>exact⟨keep a hy _,by rw[<-Act.put_comm a v undef h2];exact h⟩
   case defer d=>exact⟨keep _ (keepD d) _,by rw[<-comm];exact h⟩
   case enter f args=>
    refine h.mono fun e w'' he=>?_
    cases e with
    |returned u=>exact⟨keep a hy u,by rw[<-Act.put_comm a v u h2];exact he⟩
    |panicked c=>exact hQ _ _ _ he
    |outgrown=>exact he
   case row row args=>exact h.mono fun u w'' he=>⟨keep a hy u,by rw[<-Act.put_comm a v u h2];exact he⟩
  |halt x w'=>cases x<;>first|exact hQ _ _ _ h|exact h
 ·rename_i hw
  simp only[hw] at h
  exact⟨keep a hy _,by rw[<-Act.put_comm a v undef h2];exact h⟩
theorem wpAnyU_first (hS:∀w w',S w->RowKit.Below w.heap.size w w'->S w'){i:Nat}{oi:Oper}{v:Value}(hi:ops[i]? = some oi)(hsel:∀(j:Nat) (o:Oper) cs b,ops[j]? = some o->o.op≠.select cs b)
  (hQ:∀c a w,Q (.panic c) (a.put oi.dst v) w->Q (.panic c) a w) :
  ∀(f:Nat) (listed:Array Bool) (a:Act) (w:World),
   (∀j oj,ops[j]? = some oj->j≠i->listed.getD j true=false->(∀e∈oj.after,Region.binds md e=true->e.on≠i)->oi.apart ops oj=true) ->
   i∈Region.ready md ops listed->Steady P ops S oi v a->S w ->
   wpAnyU P md ops Q S f (listed.setIfInBounds i true) (a.put oi.dst v) w->wpAnyU P md ops Q S (f+1) listed a w:=by
 intro f
 induction f with
 |zero=>
  intro listed a w _ hr hy hw H
  refine⟨fun h=>(by rw[h] at hr;cases hr),fun j hj w' hb=>?_⟩
  by_cases hji:j=i
  ·subst hji
   exact hy.wpOp hS hi (hS _ _ hw hb) fun w'' h2=>⟨hS _ _ (hS _ _ hw hb) h2,wpAnyU_up H (below_tr hb h2)⟩
  ·have:=ready_mono hj hji
   rw[H.1] at this
   cases this
 |succ f ih=>
  intro listed a w hfree hr hy hw H
  refine⟨fun h=>(by rw[h] at hr;cases hr),fun j hj w' hb=>?_⟩
  by_cases hji:j=i
  ·subst hji
   exact hy.wpOp hS hi (hS _ _ hw hb) fun w'' h2=>⟨hS _ _ (hS _ _ hw hb) h2,wpAnyU_up H (below_tr hb h2)⟩
  ·have h1:=H.2 j (ready_mono hj hji) w' hb
   obtain⟨hjun,oj,hoj,hall⟩:=mem_ready.1 hj
   have hnot:∀e∈oj.after,Region.binds md e=true->e.on≠i:=fun e he hb heq=>by
    have h1:=hall e he hb
    have h0:=(mem_ready.1 hr).1
    rw[heq] at h1
    rcases Nat.lt_or_ge i listed.size with h' | h'
    ·simp[h'] at h0 h1;rw[h0] at h1;cases h1
    ·simp[Array.getElem?_eq_none h'] at h1
   have h2:=wpOp_putS hoj (hfree j oj hoj hji hjun hnot) (fun cs b=>hsel i oi cs b hi) (fun cs b=>hsel j oj cs b hoj) hQ hy h1
   have hfree':∀k ok,ops[k]? = some ok->k≠i->(listed.setIfInBounds j true).getD k true=false ->
     (∀e∈ok.after,Region.binds md e=true->e.on≠i)->oi.apart ops ok=true:=fun k ok hk hki hun hno=>by
    refine hfree k ok hk hki ?_ hno
    by_cases hjk:j=k
    ·subst hjk;exact hjun
    ·rw[getD_set_ne true hjk] at hun;exact hun
   refine wpOp_mono (fun a' w'' h3=>⟨h3.2.1,ih (listed.setIfInBounds j true) a' w'' hfree' (ready_mono hr (Ne.symm hji)) h3.1 h3.2.1 ?_⟩) h2
   rw[Array.setIfInBounds_comm _ _ hji]
   exact h3.2.2
theorem wpAnyU_take (hS:∀w w',S w->RowKit.Below w.heap.size w w'->S w'){i:Nat}{oi:Oper}{v:Value}{f:Nat}{listed:Array Bool}{a:Act}{w:World}(hi:ops[i]? = some oi)
  (hs:Region.noSelect ops=true) (hf:Region.free md ops listed i=true) (hr:(Region.ready md ops listed).contains i=true)
  (hQ:∀c a d v w,Q (.panic c) (Act.put a d v) w->Q (.panic c) a w) (hw:S w) (hy:Steady P ops S oi v a)
  (h:wpAnyU P md ops Q S f (listed.setIfInBounds i true) (a.put oi.dst v) w):wpAnyU P md ops Q S (f+1) listed a w:=
 wpAnyU_first hS hi (Region.noSelect_spec hs) (fun c a w=>hQ c a oi.dst v w) f listed a w (Region.free_spec hi hf) (by simpa using hr) hy hw h
theorem wpOp_of_list {i:Nat}{oi:Oper}{K:Act->World->Prop}{a:Act}{w':World}(hi:ops[i]? = some oi)
    (h1:wpList P ops (fun x a' w''=>match x with | .normal=>K a' w'' | x=>Q x a' w'') [oi] a w'):wpOp P ops Q i K a w':=by
  unfold wpOp
  unfold wpList at h1
  simp only[hi]
  split
  · rename_i hw
    rw[if_pos hw] at h1
    rcases h1 with h1|⟨h1,h2⟩
    · refine .inl ?_
      unfold Oper.wp at h1 ⊢
      generalize (execOp a.eval oi).run P w'=r at *
      cases r with
      | ok n w2=>
        cases n<;>simp only[Oper.upon] at h1 ⊢ <;> first
          | exact h1
          | (refine h1.mono fun e w'' he=>?_
             cases e<;>exact he)
          | skip
      | halt x w2=>cases x<;>first|exact h1|exact absurd h1 id
    · exact .inr ⟨h1,h2⟩
  · rename_i hw
    rw[if_neg hw] at h1
    exact h1
theorem wpAnyU_run {i:Nat}{oi:Oper}{f:Nat}{listed:Array Bool}{a:Act}{w:World}(hi:ops[i]? = some oi)(hr:Region.ready md ops listed=[i])
  (h:∀w',RowKit.Below w.heap.size w w'->wpList P ops (fun x a' w''=>match x with | .normal=>S w''/\wpAnyU P md ops Q S f (listed.setIfInBounds i true) a' w'' | x=>Q x a' w'') [oi] a w'):wpAnyU P md ops Q S (f+1) listed a w:=by
 refine⟨by rw[hr];simp,fun j hj w' hb=>?_⟩
 rw[hr] at hj
 have hji:j=i:=by simpa using hj
 subst hji
 exact wpOp_of_list hi (h w' hb)
theorem wpAnyU_two {i k:Nat}{oi ok:Oper}{f:Nat}{listed:Array Bool}{a:Act}{w:World}(hi:ops[i]? = some oi)(hk:ops[k]? = some ok)(hr:Region.ready md ops listed=[i,k])
  (h:∀w',RowKit.Below w.heap.size w w'->wpList P ops (fun x a' w''=>match x with | .normal=>S w''/\wpAnyU P md ops Q S f (listed.setIfInBounds i true) a' w'' | x=>Q x a' w'') [oi] a w')
  (h':∀w',RowKit.Below w.heap.size w w'->wpList P ops (fun x a' w''=>match x with | .normal=>S w''/\wpAnyU P md ops Q S f (listed.setIfInBounds k true) a' w'' | x=>Q x a' w'') [ok] a w'):wpAnyU P md ops Q S (f+1) listed a w:=by
 refine⟨by rw[hr];simp,fun j hj w' hb=>?_⟩
 rw[hr] at hj
 have hji:j=i∨j=k:=by simpa using hj
 rcases hji with rfl|rfl
 ·exact wpOp_of_list hi (h w' hb)
 ·exact wpOp_of_list hk (h' w' hb)
theorem wpAnyU_weaken {S':World->Prop}(hSS:∀w,S' w->S w):∀{f:Nat} {listed:Array Bool} {a:Act} {w:World},wpAnyU P md ops Q S' f listed a w->wpAnyU P md ops Q S f listed a w
 |0,_,_,_,h=>h
 |_+1,_,_,_,h=>⟨h.1,fun i hi w' hb=>wpOp_mono (fun _ _ h'=>⟨hSS _ h'.1,wpAnyU_weaken hSS h'.2⟩) (h.2 i hi w' hb)⟩
theorem wpList_unguard {o:Oper}{rest:List Oper}{a:Act}{w:World}(hw:Region.wanted o (yielded ops a.tmps)=true)(h:wpList P ops Q ({ o with guard:=none } :: rest) a w):wpList P ops Q (o :: rest) a w:=by
 unfold wpList at h ⊢
 rw[if_pos hw]
 rw[if_pos (by rfl)] at h
 exact h
theorem wpAnyU_end {listed:Array Bool}{a:Act}{w:World}(hr:Region.ready md ops listed=[])(h:∀w',RowKit.Below w.heap.size w w'->Q .normal a w'):wpAnyU P md ops Q S 0 listed a w:=⟨hr,h⟩
theorem wp_regionU {id:Nat}{a:Act}{w:World}{l:List Oper}(hm:P.follows .mixedOrders=true)(h:wpAnyU P .any l.toArray Q S l.toArray.size (Array.replicate l.toArray.size false) a w.drew):(Code.region id l.toArray true).wp P Q a w:=
 wp_region_any hm (wpAny_of_U _ _ _ _ h)
theorem Steady.of_yields {o:Oper}{v:Value}{a:Act}(h:Yields P ops o v a):Steady P ops S o v a:=by
 rcases h with ⟨h1,h2⟩|h
 ·refine .inl ⟨h1,fun w _=>?_⟩
  unfold Oper.quietAt
  rw[h2 w]
  exact⟨rfl,rfl⟩
 ·exact .inr h
theorem Steady.load_seg {o:Oper}{a:Act}(hgd:Region.wanted o (yielded ops a.tmps)=true)(ty:TypeId)(x:Operand)(ho:o.op=.load ty x)(g off n:Nat)(hx:a.eval x=.pointer (some ⟨g,off,none⟩))(t:TypeId)(k:IntKind)(xs ys:List Int)(d:TypeDesc)
  (h:∀w,S w->Has w g t (vals k xs)) (hu:P.underlying ty=some d) (hd:(match d with | .struct _ | .array _ _=>true|_=>false)=true)
  (hi:(P.info? ty).map (·.size)=some n) (hy:ys=(xs.drop off).take n) (hoff:off+n<=xs.length):Steady P ops S o (.agg (vals k ys)) a:=by
 refine .inl ⟨hgd,fun w hw=>?_⟩
 unfold Oper.quietAt execOp
 simp only[ho,hx,Instr.loadAt,Instr.sureAddr,Sem.run_bind,Sem.run_pure,Result.andThen_ok,run_load_seg (h w hw) hu hd hi hy hoff]
 exact⟨rfl,rfl⟩
theorem Steady.build {o:Oper}{a:Act}(hgd:Region.wanted o (yielded ops a.tmps)=true)(t:TypeId)(parts:Array (Nat×Operand))(ho:o.op=.build t parts)(cells:Array Value)
  (hf:P.built t (parts.map fun (i,x)=>(i,a.eval x)).toList=some cells):Steady P ops S o (.agg cells) a:=by
 refine .inl ⟨hgd,fun w _=>?_⟩
 unfold Oper.quietAt execOp
 have h:(Instr.build t (parts.map fun (i,x)=>(i,a.eval x))).run P w=.ok (.agg cells) w:=run_build w t _ cells hf
 simp only[ho,Sem.run_bind,h,Result.andThen_ok]
 exact⟨rfl,rfl⟩
end
end Reg
namespace Reg
open Go
section
variable {P:Program} {ops:Array Oper} {md:Region.Mode} {C:World->Prop} {Q:Exit->Act->World->Prop}
def anyK (P:Program)(md:Region.Mode)(ops:Array Oper)(C:World->Prop)(Q:Exit->Act->World->Prop)(k:Nat):Nat->Array Bool->Act->Prop
 |0,_,_=>False
 |f+1,listed,a=>Region.ready md ops listed≠[]/\∀i∈Region.ready md ops listed,
   (i=k/\∀w,C w->wpOp P ops Q k (wpAny P md ops Q f (listed.setIfInBounds k true)) a w)∨(i≠k/\qOp P ops C i (anyK P md ops C Q k f (listed.setIfInBounds i true)) a)
theorem wpAny_of_K {k:Nat}:∀(f:Nat) (listed:Array Bool) (a:Act) (w:World),C w->anyK P md ops C Q k f listed a->wpAny P md ops Q f listed a w
 |0,_,_,_,_,h=>h.elim
 |f+1,listed,a,w,hC,h=>⟨fun h0=>absurd h0 h.1,fun i hi=>by
   rcases h.2 i hi with ⟨rfl,h2⟩|⟨_,h2⟩
   ·exact h2 w hC
   ·exact wpOp_of_qOp (C:=C) hC (fun a' w' hC' h'=>wpAny_of_K f _ a' w' hC' h') h2⟩
def waitersOf (md:Region.Mode)(ops:Array Oper)(i:Nat):List Nat:=
 (List.range ops.size).foldl (fun D j=>if ((ops[j]?).map (fun o=>o.after.any fun e=>Region.binds md e&&(e.on==i||D.contains e.on))).getD false then j :: D else D) []
def holdsUp (md:Region.Mode)(ops:Array Oper)(listed:Array Bool)(i k:Nat):Bool:=
 (waitersOf md ops i).contains k&&!(waitersOf md ops i).contains i&&(waitersOf md ops i).all fun j=>!listed.getD j true&&((ops[j]?).map (fun o=>o.after.any fun e=>Region.binds md e&&(e.on==i||(waitersOf md ops i).contains e.on))).getD false
structure Held (md:Region.Mode) (ops:Array Oper) (i k:Nat) (D:List Nat) (listed:Array Bool):Prop where
 mem:k∈D
 self:i∉D
 un:∀j∈D,listed.getD j true=false
 waits:∀j∈D,∃o,ops[j]? = some o/\∃e∈o.after,Region.binds md e=true/\(e.on=i∨e.on∈D)
theorem holdsUp_spec {listed:Array Bool}{i k:Nat}(h:holdsUp md ops listed i k=true):Held md ops i k (waitersOf md ops i) listed:=by
 unfold holdsUp at h
 generalize waitersOf md ops i=D at *
 simp only[Bool.and_eq_true,List.all_eq_true,List.contains_iff_mem,Bool.not_eq_true'] at h
 obtain⟨⟨h1,h0⟩,h2⟩:=h
 refine⟨h1,by simpa using h0,fun j hj=>(h2 j hj).1,fun j hj=>?_⟩
 have h3:=(h2 j hj).2
 cases ho:ops[j]? with
 |none=>rw[ho] at h3;simp at h3
 |some o=>
  rw[ho] at h3
  simp only[Option.map_some,Option.getD_some] at h3
  obtain⟨e,he,hb⟩:=Array.any_eq_true'.1 h3
  simp only[Bool.and_eq_true,Bool.or_eq_true,beq_iff_eq,List.contains_iff_mem] at hb
  exact⟨o,rfl,e,he,hb.1,hb.2⟩
theorem Held.not_ready {listed:Array Bool}{i k:Nat}{D:List Nat}(h:Held md ops i k D listed)(hun:listed.getD i true=false){j:Nat}(hj:j∈D):j∉Region.ready md ops listed:=by
 intro hr
 obtain⟨_,o,ho,hall⟩:=mem_ready.1 hr
 obtain⟨o',ho',e,he,hb,hon⟩:=h.waits j hj
 obtain rfl:o'=o:=Option.some.inj (ho'.symm.trans ho)
 have h2:=hall e he hb
 rcases hon with hon|hon
 ·rw[hon,getD_both hun] at h2;cases h2
 ·rw[getD_both (h.un _ hon)] at h2;cases h2
theorem Held.set {listed:Array Bool}{i k:Nat}{D:List Nat}(h:Held md ops i k D listed){j:Nat}(hj:j∉D):Held md ops i k D (listed.setIfInBounds j true):=
 ⟨h.mem,h.self,fun t ht=>by
  have hne:j≠t:=fun e=>hj (by rw[e];exact ht)
  rw[getD_set_ne true hne];exact h.un t ht,h.waits⟩
theorem anyK_held {k i:Nat}{oi:Oper}{v:Value}(hi:ops[i]? = some oi)(hsel:∀(j:Nat) (o:Oper) cs b,ops[j]? = some o->o.op≠.select cs b)(D:List Nat) :
  ∀(f:Nat) (listed:Array Bool) (a:Act),Held md ops i k D listed ->
   (∀j oj,ops[j]? = some oj->j≠i->listed.getD j true=false->(∀e∈oj.after,Region.binds md e=true->e.on≠i)->oi.apart ops oj=true) ->
   i∈Region.ready md ops listed->YieldsIn P ops C oi v a ->
   anyK P md ops C Q k f (listed.setIfInBounds i true) (a.put oi.dst v)->anyK P md ops C Q k (f+1) listed a:=by
 intro f
 induction f with
 |zero=>intro listed a _ _ _ _ H;exact H.elim
 |succ f ih=>
  intro listed a inv hfree hr hy H
  have hun:=(mem_ready.1 hr).1
  refine⟨fun h=>(by rw[h] at hr;cases hr),fun j hj=>.inr ?_⟩
  have hjD:j∉D:=fun h=>inv.not_ready hun h hj
  refine⟨fun h=>hjD (h▸inv.mem),?_⟩
  by_cases hji:j=i
  ·subst hji;exact YieldsIn.qOp hi hy H
  ·rcases H.2 j (ready_mono hj hji) with ⟨h1,_⟩|⟨_,h1⟩
   ·exact absurd (h1▸inv.mem) hjD
   obtain⟨hjun,oj,hoj,hall⟩:=mem_ready.1 hj
   have hnot:∀e∈oj.after,Region.binds md e=true->e.on≠i:=fun e he hb heq=>by
    have h1:=hall e he hb
    rw[heq,getD_both hun] at h1
    cases h1
   have h2:=qOp_put hoj (hfree j oj hoj hji hjun hnot) (fun cs b=>hsel i oi cs b hi) (fun cs b=>hsel j oj cs b hoj) hy h1
   have hfree':∀k ok,ops[k]? = some ok->k≠i->(listed.setIfInBounds j true).getD k true=false ->
     (∀e∈ok.after,Region.binds md e=true->e.on≠i)->oi.apart ops ok=true:=fun k ok hk hki hun hno=>by
    refine hfree k ok hk hki ?_ hno
    by_cases hjk:j=k
    ·subst hjk;exact hjun
    ·rw[getD_set_ne true hjk] at hun;exact hun
   refine qOp_mono (fun a' h3=>ih (listed.setIfInBounds j true) a' (inv.set hjD) hfree' (ready_mono hr (Ne.symm hji)) h3.1 ?_) h2
   rw[Array.setIfInBounds_comm _ _ hji]
   exact h3.2
theorem anyK_pure {k i:Nat}{oi:Oper}{v:Value}(hi:ops[i]? = some oi)(hik:i≠k)(hsel:∀(j:Nat) (o:Oper) cs b,ops[j]? = some o->o.op≠.select cs b)
  (hQ:∀c a w,Q (.panic c) (a.put oi.dst v) w->Q (.panic c) a w) :
  ∀(f:Nat) (listed:Array Bool) (a:Act),
   (∀j oj,ops[j]? = some oj->j≠i->listed.getD j true=false->(∀e∈oj.after,Region.binds md e=true->e.on≠i)->oi.apart ops oj=true) ->
   i∈Region.ready md ops listed->YieldsIn P ops C oi v a->Yields P ops oi v a ->
   anyK P md ops C Q k f (listed.setIfInBounds i true) (a.put oi.dst v)->anyK P md ops C Q k (f+1) listed a:=by
 intro f
 induction f with
 |zero=>intro listed a _ _ _ _ H;exact H.elim
 |succ f ih=>
  intro listed a hfree hr hy hyy H
  have hun:=(mem_ready.1 hr).1
  refine⟨fun h=>(by rw[h] at hr;cases hr),fun j hj=>?_⟩
  by_cases hji:j=i
  ·subst hji;exact .inr ⟨hik,YieldsIn.qOp hi hy H⟩
  ·obtain⟨hjun,oj,hoj,hall⟩:=mem_ready.1 hj
   have hnot:∀e∈oj.after,Region.binds md e=true->e.on≠i:=fun e he hb heq=>by
    have h1:=hall e he hb
    rw[heq,getD_both hun] at h1
    cases h1
   have hfree':∀k ok,ops[k]? = some ok->k≠i->(listed.setIfInBounds j true).getD k true=false ->
     (∀e∈ok.after,Region.binds md e=true->e.on≠i)->oi.apart ops ok=true:=fun k ok hk hki hun hno=>by
    refine hfree k ok hk hki ?_ hno
    by_cases hjk:j=k
    ·subst hjk;exact hjun
    ·rw[getD_set_ne true hjk] at hun;exact hun
   rcases H.2 j (ready_mono hj hji) with ⟨h1,h2⟩|⟨h1,h2⟩
   ·refine .inl ⟨h1,fun w hw=>?_⟩
    subst h1
    have h3:=wpOp_put hoj (hfree j oj hoj hji hjun hnot) (fun cs b=>hsel i oi cs b hi) (fun cs b=>hsel j oj cs b hoj) hQ hyy (h2 w hw)
    refine wpOp_mono (fun a' w' h4=>wpAny_first hi hsel hQ f _ a' w' hfree' (ready_mono hr (Ne.symm hji)) h4.1 ?_) h3
    rw[Array.setIfInBounds_comm _ _ hji]
    exact h4.2
   ·refine .inr ⟨h1,?_⟩
    have h3:=qOp_put (C:=C) hoj (hfree j oj hoj hji hjun hnot) (fun cs b=>hsel i oi cs b hi) (fun cs b=>hsel j oj cs b hoj) hy h2
    obtain⟨_,_,h33⟩:=Oper.apart_spec (hfree j oj hoj hji hjun hnot)
    obtain⟨u,hu,h4⟩:=yieldsIn_of_qOp hoj h3
    refine hu.qOp hoj (ih (listed.setIfInBounds j true) _ hfree' (ready_mono hr (Ne.symm hji)) h4.1 (hyy.of_same (execOp_put oi (fun cs b=>hsel i oi cs b hi) a oj.dst u h33) (wanted_put oi a oj.dst u h33)) ?_)
    rw[Array.setIfInBounds_comm _ _ hji]
    exact h4.2
def moves (o:Oper):Bool:=o.guard.isNone&&match o.op with | .assign _ | .move _ | .extract _ _=>true|_=>false
theorem Yields.of_moves {o:Oper}{v:Value}{a:Act}(h:moves o=true)(hne:∃w,C w)(hy:YieldsIn P ops C o v a):Yields P ops o v a:=by
  unfold moves at h
  simp only[Bool.and_eq_true,Option.isNone_iff_eq_none] at h
  rcases hy with ⟨hw,hv⟩|hy
  · refine .inl ⟨hw,fun w=>?_⟩
    obtain⟨w0,hw0⟩:=hne
    have h1:=hv w0 hw0
    have h2:=h.2
    unfold Oper.quietAt at h1
    cases hop:o.op<;>simp only[hop] at h2<;>first
      | (exact absurd h2 (by decide))
      | (simp only[execOp,hop,Sem.run_pure,Oper.quietUpon] at h1 ⊢
         rw[h1.2]
         done)
      | (rename_i x ix
         simp only[execOp,hop,Sem.run_bind] at h1 ⊢
         have h3:∀(y:Value) (w1:World),(∃u,(Instr.extract y ix).run P w1=.ok u w1/\∀w2,(Instr.extract y ix).run P w2=.ok u w2)∨∃x2,(Instr.extract y ix).run P w1=.halt x2 w1:=by
           intro y w1
           unfold Instr.extract
           cases y with
           | tuple vs=>
             cases hv:vs[ix]? with
             | some u=>exact .inl ⟨u,by simp only[hv];rfl,fun _=>by simp only[hv];rfl⟩
             | none=>exact .inr (by simp only[hv];exact⟨_,rfl⟩)
           | _=>exact .inr ⟨_,rfl⟩
         rcases h3 (a.eval x) w0 with ⟨u,hu,hall⟩|⟨x2,hu⟩
         · rw[hu] at h1
           rw[hall w]
           simp only[Result.andThen_ok,Sem.run_pure,Oper.quietUpon] at h1 ⊢
           rw[h1.2]
         · rw[hu] at h1
           exact absurd h1 (by simp[Result.andThen,Oper.quietUpon]))
  · exact .inr hy
def writeB (md:Region.Mode)(ops:Array Oper)(k g:Nat):Nat->Nat->Array Bool->Bool
 |0,i,listed=>decide (i=k)&&Region.seqB md ops (g+1) k listed
 |f+1,i,listed=>decide (i≠k)&&(Region.ready md ops listed).contains i&&Region.free md ops listed i&&(holdsUp md ops listed i k||((ops[i]?).map moves).getD false)&&writeB md ops k g f (i+1) (listed.setIfInBounds i true)
theorem anyK_of_row {k:Nat}{l2:List Oper}{o2:Oper}(hne:∃w,C w)(hs:Region.noSelect ops=true)(hQ:∀c a d v w,Q (.panic c) (Act.put a d v) w->Q (.panic c) a w)(hl2:∀j,(o2 :: l2)[j]? = ops[k+j]?) :
  ∀(l:List Oper) (i:Nat) (listed:Array Bool) (a:Act),(∀j,j<l.length->l[j]? = ops[i+j]?)->writeB md ops k l2.length l.length i listed=true ->
   wpQuiet P ops C (fun a'=>∀w',C w'->wpList P ops Q (o2 :: l2) a' w') l a->anyK P md ops C Q k (l.length+(l2.length+1)) listed a
 |[],i,listed,a,_,hB,h=>by
  simp only[List.length_nil,writeB,Region.seqB,Bool.and_eq_true,decide_eq_true_eq] at hB
  rw[List.length_nil,Nat.zero_add]
  refine⟨fun h1=>(by rw[hB.2.1] at h1;cases h1),fun j hj=>.inl ?_⟩
  rw[hB.2.1] at hj
  have hjk:j=k:=by simpa using hj
  refine⟨hjk,fun w hw=>?_⟩
  have h0:ops[k]? = some o2:=by simpa using (hl2 0).symm
  have h1:wpOp P ops Q k (wpList P ops Q l2) a w:=by unfold wpOp;simp only[h0];exact h w hw
  exact wpOp_mono (fun a' w' h'=>wpAny_of_seq l2 (k+1) _ a' w' (fun j=>by have:=hl2 (j+1);simpa [Nat.add_assoc,Nat.add_comm 1 j] using this) hB.2.2 h') h1
 |o :: l,i,listed,a,hl,hB,h=>by
  have ho:ops[i]? = some o:=by simpa using (hl 0 (by simp)).symm
  simp only[List.length_cons,writeB,Bool.and_eq_true,Bool.or_eq_true,decide_eq_true_eq] at hB
  obtain⟨⟨⟨⟨hik,hr⟩,hf⟩,hor⟩,hB'⟩:=hB
  have hr':i∈Region.ready md ops listed:=by simpa using hr
  have hst:qOp P ops C i (wpQuiet P ops C (fun a'=>∀w',C w'->wpList P ops Q (o2 :: l2) a' w') l) a:=by unfold qOp;simp only[ho];exact h
  obtain⟨v,hy,hK⟩:=yieldsIn_of_qOp ho hst
  have ih:=anyK_of_row hne hs hQ hl2 l (i+1) _ _ (fun j hj=>by have:=hl (j+1) (by simp;omega);simpa [Nat.add_assoc,Nat.add_comm 1 j] using this) hB' hK
  rw[List.length_cons,show l.length+1+(l2.length+1)=(l.length+(l2.length+1))+1 by omega]
  rcases hor with hor|hor
  ·exact anyK_held ho (Region.noSelect_spec hs) _ _ listed a (holdsUp_spec hor) (Region.free_spec ho hf) hr' hy ih
  ·rw[ho] at hor
   exact anyK_pure ho hik (Region.noSelect_spec hs) (fun c a w=>hQ c a o.dst v w) _ listed a (Region.free_spec ho hf) hr' hy (Yields.of_moves (by simpa using hor) hne hy) ih
end
theorem wp_write {P:Program}{id:Nat}{Q:Exit->Act->World->Prop}{a:Act}{w:World}{l:List Oper}(k:Nat){o2:Oper}{l2:List Oper}(hd:l.drop k=o2 :: l2)(hm:P.follows .mixedOrders=true)(hs:Region.noSelect l.toArray=true)
  (hB:writeB .any l.toArray k l2.length k 0 (Array.replicate l.toArray.size false)=true)
  (hQ:∀c a d v w,Q (.panic c) (Act.put a d v) w->Q (.panic c) a w)
  (h:∀(I:Type) (_:Nonempty I) (f:I->World),(∀i,RowKit.Below w.heap.size w (f i))->(∀w',RowKit.Below w.heap.size w w'->∃i,w'=f i) ->
   wpQuiet P l.toArray (fun w'=>∃i,w'=f i) (fun a'=>∀w',RowKit.Below w.heap.size w w'->wpList P l.toArray Q (o2 :: l2) a' w') (l.take k) a):(Code.region id l.toArray true).wp P Q a w:=by
 obtain⟨I,hI,f,hf,hb⟩:=fam w
 refine wp_region_any hm ?_
 have hd1:∃i,w.drew=f i:=hb w.drew ⟨rfl,rfl,rfl,Nat.le_refl _,fun _ _=>rfl⟩
 have hlen:(l.take k).length+(l2.length+1)=l.toArray.size:=by
  have:=congrArg List.length hd
  simp at this ⊢
  omega
 have hk:(l.take k).length=k:=by
  have:=congrArg List.length hd
  simp at this ⊢
  omega
 have:=anyK_of_row (md:=.any) (C:=fun w'=>∃i,w'=f i) (Q:=Q) (k:=k) (ops:=l.toArray) ⟨_,hd1⟩ hs hQ (fun j=>by rw[<-hd];simp[List.getElem?_drop]) (l.take k) 0 (Array.replicate l.toArray.size false) a
  (fun j hj=>by rw[hk] at hj;simp[List.getElem?_take_of_lt hj]) (by rw[hk];exact hB) (quiet_post (fun a' h' w' ⟨i,hi⟩=>by rw[hi];exact h' (f i) (hf i)) _ _ (h I hI f hf hb))
 rw[hlen] at this
 exact wpAny_of_K _ _ _ _ hd1 this
end Reg
namespace Reg
open Go
section
variable {P:Program} {ops:Array Oper} {md:Region.Mode} {Q:Exit->Act->World->Prop} {S:World->Prop}
structure AllocAt (P:Program) (ops:Array Oper) (i:Nat) (d:Tmp) (t:TypeId) (z:Array Value):Prop where
 oper:∃o,ops[i]? = some o/\o.guard=none/\o.dst=some d/\o.op=.alloc t
 zero:∃inf v,P.info? t=some inf/\inf.zero=some v/\v.cells=z
theorem AllocAt.run {i:Nat}{d:Tmp}{t:TypeId}{z:Array Value}(h:AllocAt P ops i d t z){K:Act->World->Prop}{a:Act}{w:World}
  (hk:K (a.put (some d) (.pointer (some ⟨w.heap.size,0,none⟩))) (w.alloc (.cells z t))):wpOp P ops Q i K a w:=by
 obtain⟨o,ho,hg,hd,hop⟩:=h.oper
 obtain⟨inf,v,hi,hz,hc⟩:=h.zero
 unfold wpOp
 simp only[ho]
 rw[if_pos (by simp[Region.wanted,hg])]
 refine .inl ?_
 unfold Oper.wp execOp
 have hr:(Instr.alloc t true (.tuple #[])).run P w=.ok (.pointer (some ⟨w.heap.size,0,none⟩)) (w.alloc (.cells z t)):=by
  subst hc
  simp[Instr.alloc,zeroValue,typeInfo,hi,hz,newVar,newRow]
 simp only[hop,Sem.run_bind,hr,Result.andThen_ok,Sem.run_pure,Oper.upon]
 rw[hd]
 exact hk
def lst (L:Array Bool)(ex:List Nat):Array Bool:=ex.foldl (fun l i=>l.setIfInBounds i true) L
def pts (dst:Nat->Tmp)(G:Nat->Nat)(a:Act)(ex:List Nat):Act:=ex.foldl (fun a i=>a.put (some (dst i)) (.pointer (some ⟨G i,0,none⟩))) a
def allocB (md:Region.Mode)(ops:Array Oper):Nat->List Nat->Array Bool->Bool
 |0,rl,_=>rl.isEmpty
 |n+1,rl,L=>decide (Region.ready md ops L=rl)&&rl.all fun i=>allocB md ops n (rl.erase i) (L.setIfInBounds i true)
theorem pts_congr {dst:Nat->Tmp}{G G':Nat->Nat}:∀(ex:List Nat) (a:Act),(∀i∈ex,G i=G' i)->pts dst G a ex=pts dst G' a ex
 |[],_,_=>rfl
 |i :: ex,a,h=>by
  unfold pts
  simp only[List.foldl_cons,h i (by simp)]
  exact pts_congr ex _ fun j hj=>h j (by simp[hj])
theorem allocs_aux {f B:Nat}{al:List Nat}{L:Array Bool}{a:Act}{dst:Nat->Tmp}{ty:Nat->TypeId}{z:Nat->Array Value}(hS:∀w w',S w->RowKit.Below w.heap.size w w'->S w')(hnd:al.Nodup)
  (hinj:∀i∈al,∀j∈al,i≠j->dst i≠dst j) (hal:∀i∈al,AllocAt P ops i (dst i) (ty i) (z i))
  (hfin:∀(G:Nat->Nat) (w':World),S w'->(∀i∈al,Has w' (G i) (ty i) (z i)/\B<=G i)->(∀i∈al,∀j∈al,i≠j->G i≠G j)->wpAnyU P md ops Q S f (lst L al) (pts dst G a al) w') :
  ∀(n:Nat) (rl ex:List Nat) (G:Nat->Nat) (w:World),rl.length=n->(ex++rl).Perm al->allocB md ops n rl (lst L ex)=true->S w->B<=w.heap.size ->
   (∀i∈ex,Has w (G i) (ty i) (z i)/\B<=G i)->(∀i∈ex,∀j∈ex,i≠j->G i≠G j)->wpAnyU P md ops Q S (n+f) (lst L ex) (pts dst G a ex) w
 |0,rl,ex,G,w,hl,hp,_,hs,_,hf,hd=>by
  obtain rfl:rl=[]:=List.eq_nil_of_length_eq_zero hl
  rw[List.append_nil] at hp
  have e1:lst L ex=lst L al:=hp.foldl_eq' (fun x _ y _ l=>by
   by_cases hxy:x=y
   ·subst hxy;rfl
   ·exact Array.setIfInBounds_comm _ _ hxy) _
  have e2:pts dst G a ex=pts dst G a al:=hp.foldl_eq' (fun x hx y hy c=>by
   by_cases hxy:x=y
   ·subst hxy;rfl
   ·exact Act.put_comm c _ _ (fun d hdx he=>by
     injection hdx with h1
     injection he with h2
     exact hinj x (hp.subset hx) y (hp.subset hy) hxy (h1.trans h2.symm))) _
  rw[e1,e2,Nat.zero_add]
  exact hfin G w hs (fun i hi=>hf i (hp.symm.subset hi)) (fun i hi j hj=>hd i (hp.symm.subset hi) j (hp.symm.subset hj))
 |n+1,rl,ex,G,w,hl,hp,hB,hs,hb,hf,hd=>by
  simp only[allocB,Bool.and_eq_true,decide_eq_true_eq,List.all_eq_true] at hB
  rw[show n+1+f=(n+f)+1 by omega]
  refine⟨fun h0=>(by rw[hB.1] at h0;rw[h0] at hl;cases hl),fun i hi w' hw'=>?_⟩
  rw[hB.1] at hi
  have hial:i∈al:=hp.subset (by simp[hi])
  have hnd':(ex++rl).Nodup:=hp.symm.nodup hnd
  have hiex:i∉ex:=fun h=>(List.nodup_append.1 hnd').2.2 i h i hi rfl
  refine (hal i hial).run ?_
  have hbw:RowKit.Below w.heap.size w (w'.alloc (.cells (z i) (ty i))):=hw'.alloc hw'.size _
  refine⟨hS _ _ hs hbw,?_⟩
  have ih:=allocs_aux hS hnd hinj hal hfin n (rl.erase i) (ex++[i]) (fun j=>if j=i then w'.heap.size else G j) (w'.alloc (.cells (z i) (ty i))) (by rw[List.length_erase_of_mem hi];omega)
   (by
    refine List.Perm.trans ?_ hp
    rw[List.append_assoc]
    exact List.Perm.append_left ex (List.perm_cons_erase hi).symm)
   (by rw[show lst L (ex++[i])=(lst L ex).setIfInBounds i true by unfold lst;rw[List.foldl_append];rfl];exact hB.2 i hi)
   (hS _ _ hs hbw) (Nat.le_trans hb hbw.size)
   (fun j hj=>by
    rcases List.mem_append.1 hj with hj|hj
    ·have hne:j≠i:=fun e=>hiex (e▸hj)
     simp only[if_neg hne]
     exact⟨(hf j hj).1.keep hbw,(hf j hj).2⟩
    ·obtain rfl:j=i:=by simpa using hj
     simp only[if_true]
     exact⟨Has.new _ _ _,Nat.le_trans hb hw'.size⟩)
   (fun j hj k hk hjk=>by
    have lt:∀m,m∈ex->G m<w'.heap.size:=fun m hm=>Nat.lt_of_lt_of_le (hf m hm).1.lt hw'.size
    have ne:∀m,m∈ex->m≠i:=fun m hm e=>hiex (by rw[<-e];exact hm)
    rcases List.mem_append.1 hj with h1|h1
    ·rcases List.mem_append.1 hk with h2|h2
     ·rw[if_neg (ne j h1),if_neg (ne k h2)];exact hd j h1 k h2 hjk
     ·have h3:k=i:=by simpa using h2
      rw[if_neg (ne j h1),if_pos h3];exact Nat.ne_of_lt (lt j h1)
    ·have h3:j=i:=by simpa using h1
     rcases List.mem_append.1 hk with h2|h2
     ·rw[if_pos h3,if_neg (ne k h2)];exact Ne.symm (Nat.ne_of_lt (lt k h2))
     ·have h4:k=i:=by simpa using h2
      exact absurd (h3.trans h4.symm) hjk)
  have e1:lst L (ex++[i])=(lst L ex).setIfInBounds i true:=by unfold lst;rw[List.foldl_append];rfl
  have e2:pts dst (fun j=>if j=i then w'.heap.size else G j) a (ex++[i])=(pts dst G a ex).put (some (dst i)) (.pointer (some ⟨w'.heap.size,0,none⟩)):=by
   have e3:pts dst (fun j=>if j=i then w'.heap.size else G j) a ex=pts dst G a ex:=pts_congr ex a fun j hj=>if_neg (fun e:j=i=>hiex (by rw[<-e];exact hj))
   unfold pts at *
   rw[List.foldl_append,e3]
   simp
  rw[e1,e2] at ih
  exact ih
theorem wpAnyU_allocs {f B:Nat}(al:List Nat)(dst:Nat->Tmp)(ty:Nat->TypeId)(z:Nat->Array Value){listed:Array Bool}{a:Act}{w:World}(hS:∀w w',S w->RowKit.Below w.heap.size w w'->S w')(hnd:al.Nodup)
  (hinj:∀i∈al,∀j∈al,i≠j->dst i≠dst j) (hal:∀i∈al,AllocAt P ops i (dst i) (ty i) (z i)) (hB:allocB md ops al.length al listed=true) (hs:S w) (hb:B<=w.heap.size)
  (hfin:∀(G:Nat->Nat) (w':World),S w'->(∀i∈al,Has w' (G i) (ty i) (z i)/\B<=G i)->(∀i∈al,∀j∈al,i≠j->G i≠G j)->wpAnyU P md ops Q S f (lst listed al) (pts dst G a al) w') :
  wpAnyU P md ops Q S (al.length+f) listed a w:=
 allocs_aux hS hnd hinj hal hfin al.length al [] (fun _=>0) w rfl (by simp) hB hs hb (fun i hi=>by cases hi) (fun i hi=>by cases hi)
end
end Reg
namespace Reg
open Go
end Reg
namespace Reg
open Go
structure Lst (w:World) (B:Nat) (A:Option Addr) (n:Nat) (vs:List Value):Prop where
 len:vs.length=n
 at_:0<n->∃b off,A=some ⟨b,off,none⟩/\b<B/\∀(j:Nat) (v:Value),vs[j]? = some v->w.cell? ⟨b,off+j,none⟩=some v
section
variable {w w':World} {B:Nat} {A:Option Addr} {n:Nat} {vs:List Value}
end
structure OwnV (w:World) (base:Nat) (e:TypeId) (A:Option Addr) (n c:Nat) (vs:List Value):Prop where
 own:w.ownsRow base e 1 (.slice A n c) n vs
section
variable {w w':World} {base:Nat} {e:TypeId} {A:Option Addr} {n c:Nat} {vs:List Value}
end
structure Part where
 A:Option Addr
 n:Nat
 c:Nat
 bs:List Int
end Reg
namespace Base
open Go Go.RowKit Reg
theorem ret_eq {v v':Value}(h:v=v'):Ending.returned v=.returned v':=by rw[h]
theorem u64Elem:IntElem Tryz.prog 22 .u64 8:=.of (by kernel_rfl) (by kernel_rfl)
theorem nth_drop (l:List Int)(n i:Nat):nth (l.drop n) i=nth l (n+i):=by simp[nth]
theorem take_all {l:List Int}{n:Nat}(h:l.length=n):l.take n=l:=List.take_of_length_le (by omega)
theorem nth_mem {l:List Int}{i:Nat}(h:i<l.length):nth l i∈l:=by
 have:nth l i=l[i]:=by simp[nth,h]
 rw[this];exact List.getElem_mem h
def padTo (n:Nat)(o:List Int):List Int:=o++List.replicate (n-o.length) 0
theorem padTo_len {n:Nat}{o:List Int}(h:o.length<=n):(padTo n o).length=n:=by simp[padTo];omega
theorem padTo_full {n:Nat}{o:List Int}(h:o.length=n):padTo n o=o:=by simp[padTo,h]
theorem padTo_set {n:Nat}{o:List Int}(h:o.length<n)(d:Int):(padTo n o).set o.length d=padTo n (o++[d]):=by
 obtain⟨m,hm⟩:∃m,n-o.length=m+1:=⟨n-o.length-1,by omega⟩
 have hm':n-(o++[d]).length=m:=by simp;omega
 rw[padTo,padTo,hm,hm',List.replicate_succ,List.set_append_right _ _ (Nat.le_refl _),Nat.sub_self,List.set_cons_zero,List.append_assoc]
 rfl
theorem padTo_set' {n k:Nat}{o:List Int}(ho:o.length=k)(h:k<n)(d:Int):(padTo n o).set k d=padTo n (o++[d]):=by subst ho;exact padTo_set h d
theorem mix_len {o l:List Int}{k n:Nat}(ho:o.length=k)(hl:l.length=n)(h:k<=n):(o++l.drop k).length=n:=by simp;omega
theorem mix_nth {o l:List Int}{k:Nat}(ho:o.length=k):nth (o++l.drop k) k=nth l k:=by rw[nth_append_right _ _ _ (by omega),nth_drop,ho,Nat.sub_self,Nat.add_zero]
theorem mix_set {o l:List Int}{k:Nat}(ho:o.length=k)(h:k<l.length)(d:Int):(o++l.drop k).set k d=(o++[d])++l.drop (k+1):=by
 subst ho
 rw[List.set_append_right _ _ (Nat.le_refl _),Nat.sub_self,List.drop_eq_getElem_cons h,List.set_cons_zero,List.append_assoc]
 rfl
theorem mix_full {o l:List Int}{k:Nat}(hl:l.length<=k):o++l.drop k=o:=by rw[List.drop_eq_nil_of_le hl,List.append_nil]
structure Frs (w:World) (base:Nat) (A:Option Addr) (n:Nat) (k:IntKind) (xs:List Int):Prop where
 len:xs.length=n
 at_:0<n->∃b off,A=some ⟨b,off,none⟩/\base<=b/\b<w.heap.size/\(∀j,j<n->w.cell? ⟨b,off+j,none⟩=some (.int k (nth xs j)))/\(∀j,j<n->w.frozen? ⟨b,off+j,none⟩=false)
section
variable {w w':World} {base n c:Nat} {e:TypeId} {A:Option Addr} {k:IntKind} {xs:List Int}
theorem Frs.of_own (h:Own w base e k A n c xs):Frs w base A n k xs:=⟨h.len,fun hn=>by
 obtain⟨g,hA,hg,hlt,_,hc,hf⟩:=h.at_ hn
 exact⟨g,0,hA,hg,hlt,fun j hj=>by rw[Nat.zero_add];exact hc j hj,fun j _=>by rw[Nat.zero_add];exact hf j⟩⟩
theorem Frs.rd (h:Frs w base A n k xs):Rd w w.heap.size A n k xs:=⟨h.len,fun hn=>by
 obtain⟨b,off,hA,_,hlt,hc,_⟩:=h.at_ hn
 exact⟨b,off,hA,hlt,hc⟩⟩
end
end Base
namespace Limb
open Go Reg Base
def wp (k:Nat):Int:=18446744073709551616^k
theorem wp_zero:wp 0=1:=rfl
theorem wp_succ (k:Nat):wp (k+1)=wp k*18446744073709551616:=Int.pow_succ _ _
theorem wp_pos (k:Nat):0<wp k:=Int.pow_pos (by omega)
theorem wp_add (a b:Nat):wp (a+b)=wp a*wp b:=Int.pow_add _ _ _
def Words (l:List Int):Prop:=∀i,0<=nth l i/\nth l i<=18446744073709551615
theorem nth_nil (i:Nat):nth [] i=0:=by simp[nth]
theorem nth_ge {l:List Int}{i:Nat}(h:l.length<=i):nth l i=0:=by simp[nth,List.getElem?_eq_none h]
theorem words_of (l:List Int)(h:∀i,i<l.length->0<=nth l i/\nth l i<=18446744073709551615):Words l:=fun i=>by
 rcases Nat.lt_or_ge i l.length with hi|hi
 ·exact h i hi
 ·rw[nth_ge hi];omega
theorem words_nil:Words []:=fun i=>by rw[nth_nil];omega
theorem words_append {l m:List Int}(hl:Words l)(hm:Words m):Words (l++m):=fun i=>by
 rcases Nat.lt_or_ge i l.length with h|h
 ·rw[nth_append_left _ _ _ h];exact hl i
 ·rw[nth_append_right _ _ _ h];exact hm _
theorem words_one {x:Int}(h0:0<=x)(h1:x<=18446744073709551615):Words [x]:=fun i=>by
 rcases i with _|i
 ·exact⟨h0,h1⟩
 ·simp[nth]
theorem words_zeros (n:Nat):Words (List.replicate n 0):=fun i=>by
 have:nth (List.replicate n 0) i=0:=by
  simp only[nth,List.getD_eq_getElem?_getD,List.getElem?_replicate]
  split<;>rfl
 omega
theorem words_take {l:List Int}(h:Words l)(n:Nat):Words (l.take n):=words_of _ fun i hi=>by
 have:nth (l.take n) i=nth l i:=by
  rw[List.length_take] at hi
  simp[nth,List.getElem?_take_of_lt (show i<n by omega)]
 rw[this];exact h i
theorem words_set {l:List Int}(h:Words l){i:Nat}{x:Int}(h0:0<=x)(h1:x<=18446744073709551615):Words (l.set i x):=fun j=>by
 rcases Nat.lt_or_ge i l.length with hi|hi
 ·rw[nth_set _ _ _ _ hi]
  split
  ·exact⟨h0,h1⟩
  ·exact h j
 ·rw[List.set_eq_of_length_le hi];exact h j
def low (l:List Int):Nat->Int
 |0=>0
 |k+1=>low l k+wp k*nth l k
theorem low_zero (l:List Int):low l 0=0:=rfl
theorem low_succ (l:List Int)(k:Nat):low l (k+1)=low l k+wp k*nth l k:=rfl
def num (l:List Int):Int:=low l l.length
theorem num_nil:num []=0:=rfl
theorem low_congr {l m:List Int}:∀(k:Nat),(∀i,i<k->nth l i=nth m i)->low l k=low m k
 |0,_=>rfl
 |k+1,h=>by rw[low_succ,low_succ,low_congr k (fun i hi=>h i (by omega)),h k (by omega)]
theorem low_ge (l:List Int):∀(d:Nat),low l (l.length+d)=num l
 |0=>rfl
 |d+1=>by rw[<-Nat.add_assoc,low_succ,low_ge l d,nth_ge (by omega),Int.mul_zero,Int.add_zero]
theorem low_num {l:List Int}{k:Nat}(h:l.length<=k):low l k=num l:=by
 obtain⟨d,rfl⟩:∃d,k=l.length+d:=⟨k-l.length,by omega⟩
 exact low_ge l d
theorem low_bounds {l:List Int}(h:Words l):∀k,0<=low l k/\low l k<wp k
 |0=>by rw[low_zero,wp_zero];omega
 |k+1=>by
  have ih:=low_bounds h k
  have hw:=h k
  rw[low_succ,wp_succ]
  have h1:0<=wp k*nth l k:=Int.mul_nonneg (Int.le_of_lt (wp_pos k)) hw.1
  have h2:wp k*nth l k<=wp k*18446744073709551615:=Int.mul_le_mul_of_nonneg_left hw.2 (Int.le_of_lt (wp_pos k))
  omega
theorem num_bounds {l:List Int}(h:Words l):0<=num l/\num l<wp l.length:=low_bounds h _
theorem low_append_left {l:List Int}(m:List Int){k:Nat}(h:k<=l.length):low (l++m) k=low l k:=low_congr k fun i hi=>nth_append_left _ _ _ (by omega)
theorem num_snoc (l:List Int)(x:Int):num (l++[x])=num l+wp l.length*x:=by
 rw[num,List.length_append,List.length_singleton,low_succ,low_append_left _ (Nat.le_refl _),nth_append_right _ _ _ (Nat.le_refl _)]
 simp[nth,num]
theorem low_append (l m:List Int):∀k,low (l++m) (l.length+k)=num l+wp l.length*low m k
 |0=>by rw[Nat.add_zero,low_append_left _ (Nat.le_refl _),low_zero,Int.mul_zero,Int.add_zero,num]
 |k+1=>by
  rw[<-Nat.add_assoc,low_succ,low_append l m k,low_succ,wp_add,nth_append_right _ _ _ (by omega),show l.length+k-l.length=k by omega]
  grind
theorem num_append (l m:List Int):num (l++m)=num l+wp l.length*num m:=by
 rw[num,List.length_append,low_append];rfl
theorem low_set {l:List Int}{i:Nat}(x:Int)(hi:i<l.length):∀k,low (l.set i x) k=low l k+(if i<k then wp i*(x-nth l i) else 0)
 |0=>by simp[low_zero]
 |k+1=>by
  rw[low_succ,low_succ,low_set x hi k,nth_set _ _ _ _ hi]
  by_cases h1:i=k
  ·subst h1
   simp
   grind
  ·rw[if_neg h1]
   by_cases h2:i<k
   ·rw[if_pos h2,if_pos (by omega)];grind
   ·rw[if_neg h2,if_neg (by omega)];grind
theorem num_set {l:List Int}{i:Nat}(x:Int)(hi:i<l.length):num (l.set i x)=num l+wp i*(x-nth l i):=by
 rw[num,List.length_set,low_set x hi,if_pos hi,num]
theorem num_zeros (n:Nat):num (List.replicate n 0)=0:=by
 have:∀k,low (List.replicate n 0) k=0:=fun k=>by
  induction k with
  |zero=>rfl
  |succ k ih=>
   have:nth (List.replicate n 0) k=0:=by
    simp only[nth,List.getD_eq_getElem?_getD,List.getElem?_replicate]
    split<;>rfl
   rw[low_succ,ih,this];simp
 exact this _
theorem num_cons (x:Int)(l:List Int):num (x :: l)=x+18446744073709551616*num l:=by
 have h:=num_append [x] l
 rw[List.singleton_append] at h
 rw[h]
 simp[num,low,nth,wp]
theorem num_drop {l:List Int}{k:Nat}(h:k<l.length):num (l.drop k)=nth l k+18446744073709551616*num (l.drop (k+1)):=by
 rw[List.drop_eq_getElem_cons h,num_cons]
 simp[nth,h]
theorem num_split (l:List Int):∀k,k<=l.length->num l=low l k+wp k*num (l.drop k)
 |0,_=>by rw[low_zero,wp_zero,List.drop_zero];omega
 |k+1,h=>by rw[num_split l k (by omega),num_drop (by omega),low_succ,wp_succ];grind
theorem words_drop {l:List Int}(h:Words l)(n:Nat):Words (l.drop n):=fun i=>by rw[nth_drop];exact h _
theorem split_of {p r q v:Int}(h0:0<=r)(h1:r<p)(h:r+p*q=v):v%p=r/\v/p=q:=by
 have:=(Int.ediv_emod_unique (show 0<p by omega) (a:=v) (q:=q) (r:=r)).2 ⟨h,h0,h1⟩
 exact⟨this.2,this.1⟩
theorem emod_step (v:Int)(k:Nat):v%wp (k+1)=v%wp k+wp k*(v/wp k%18446744073709551616):=by
 have hp:=wp_pos k
 have h1:=Int.mul_ediv_add_emod v (wp k)
 have h2:=Int.mul_ediv_add_emod (v/wp k) 18446744073709551616
 have b1:=Int.emod_nonneg v (Int.ne_of_gt hp)
 have b2:=Int.emod_lt_of_pos v hp
 have b3:=Int.emod_nonneg (v/wp k) (b:=18446744073709551616) (by omega)
 have b4:=Int.emod_lt_of_pos (v/wp k) (b:=18446744073709551616) (by omega)
 have c1:0<=wp k*(v/wp k%18446744073709551616):=Int.mul_nonneg (Int.le_of_lt hp) b3
 have c2:wp k*(v/wp k%18446744073709551616)<=wp k*18446744073709551615:=Int.mul_le_mul_of_nonneg_left (by omega) (Int.le_of_lt hp)
 refine (split_of (q:=v/wp k/18446744073709551616) (by omega) (by rw[wp_succ];omega) ?_).1
 rw[wp_succ]
 grind
def wd (n:Nat)(v:Int):List Int:=tab n fun i=>v/wp i%18446744073709551616
theorem wd_len (n:Nat)(v:Int):(wd n v).length=n:=tab_len _ _
theorem wd_nth {n:Nat}(v:Int){i:Nat}(hi:i<n):nth (wd n v) i=v/wp i%18446744073709551616:=tab_nth _ hi
theorem wd_words (n:Nat)(v:Int):Words (wd n v):=words_of _ fun i hi=>by
 rw[wd_len] at hi
 rw[wd_nth v hi]
 have:=Int.emod_nonneg (v/wp i) (b:=18446744073709551616) (by omega)
 have:=Int.emod_lt_of_pos (v/wp i) (b:=18446744073709551616) (by omega)
 omega
theorem low_wd (n:Nat)(v:Int):∀k,k<=n->low (wd n v) k=v%wp k
 |0,_=>by rw[low_zero,wp_zero,Int.emod_one]
 |k+1,h=>by rw[low_succ,low_wd n v k (by omega),wd_nth v (by omega),emod_step]
theorem num_wd (n:Nat)(v:Int):num (wd n v)=v%wp n:=by rw[num,wd_len,low_wd n v n (Nat.le_refl _)]
theorem words_inj {l m:List Int}(hl:Words l)(hm:Words m):∀k,low l k=low m k->∀i,i<k->nth l i=nth m i
 |0,_,i,hi=>by omega
 |k+1,h,i,hi=>by
  rw[low_succ,low_succ] at h
  have a1:=low_bounds hl k
  have a2:=low_bounds hm k
  have s1:=split_of a1.1 a1.2 (rfl:low l k+wp k*nth l k=_)
  have s2:=split_of a2.1 a2.2 (rfl:low m k+wp k*nth m k=_)
  rw[h] at s1
  have e1:low l k=low m k:=s1.1.symm.trans s2.1
  have e2:nth l k=nth m k:=s1.2.symm.trans s2.2
  rcases Nat.lt_or_ge i k with h' | h'
  ·exact words_inj hl hm k e1 i h'
  ·obtain rfl:i=k:=by omega
   exact e2
theorem num_inj {l m:List Int}(hl:Words l)(hm:Words m)(hlen:l.length=m.length)(h:num l=num m):l=m:=
 ext_nth hlen fun i hi=>words_inj hl hm l.length (by rw[num,num,<-hlen] at h;exact h) i hi
theorem wd_num {l:List Int}(h:Words l){n:Nat}(hn:l.length=n):wd n (num l)=l:=by
 refine num_inj (wd_words _ _) h (by rw[wd_len,hn]) ?_
 have:=num_bounds h
 rw[num_wd,<-hn,Int.emod_eq_of_lt this.1 this.2]
theorem wd_of {out:List Int}{n:Nat}{c v:Int}(h:Words out)(hn:out.length=n)(e:num out+wp n*c=v):out=wd n v/\c=v/wp n:=by
 have b:=num_bounds h
 rw[hn] at b
 have s:=split_of b.1 b.2 e
 refine⟨num_inj h (wd_words _ _) (by rw[wd_len,hn]) ?_,s.2.symm⟩
 rw[num_wd,s.1]
theorem num_wd_of {n:Nat}{v:Int}(h0:0<=v)(h1:v<wp n):num (wd n v)=v:=by rw[num_wd,Int.emod_eq_of_lt h0 h1]
theorem words_wf {l:List Int}(h:∀n∈l,(Lit.int .u64 n).wf=true):Words l:=words_of _ fun i hi=>by
 have:=bounds_u64 (h _ (nth_mem hi))
 omega
end Limb
end Go.Proofs.YtjamcbjghffboaaGreatDoor
