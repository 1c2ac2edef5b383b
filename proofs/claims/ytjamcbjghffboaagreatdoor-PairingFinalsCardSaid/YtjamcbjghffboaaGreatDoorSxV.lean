/-
  Own text.
-/
import Derived.Test.YtjamcbjghffboaaGreatDoorSxR
import Derived.Test.YtjamcbjghffboaaGreatDoorRegV
set_option linter.unusedVariables false
set_option linter.unusedSimpArgs false
namespace Go.Proofs.YtjamcbjghffboaaGreatDoor
namespace SxV
open Go Go.RowKit Reg Base Sx SxR
def rg:Code->List Oper
 |.seq (.region _ o _) _=>o.toList
 |_=>[]
def evalX (P:Program)(C:Cx)(m N:Nat)(ops:Array Oper)(L:Array Bool)(f:Nat)(R:Code)(rs:List ResultVar)(sl:List AV)(bs:List Bk)(q:List Bool):Option (List AV×List Ob):=
 match ex P C m ops f L sl bs with
 |some (outs,o1)=>match bindO (evalC P C m N R) (outs.map fun x=>(x.1,x.2,q,Ek.nrm)) with
  |some (l,o2)=>match resL P rs l with
   |some vs=>some (vs,o1++o2)
   |none=>none
  |none=>none
 |none=>none
section
variable {P:Program} {C:Cx} {G:World->Prop} {m N f S:Nat} {fn:Func} {R:Code} {ops:Array Oper} {L:Array Bool} {sl:List AV} {bs:List Bk} {q:List Bool} {gs:List Nat} {a:Act} {w y:World} {obs:List Ob} {vs:List AV} {Q:Ending->World->Prop}
theorem post_panic (K:Act->World->Prop):∀c a d v w,Exit.then K (bodyPost P fn Q) (.panic c) (Act.put a d v) w->Exit.then K (bodyPost P fn Q) (.panic c) a w:=fun c a d v w h=>by
 show bodyPost P fn Q (.panic c) a w
 have h:bodyPost P fn Q (.panic c) (Act.put a d v) w:=h
 simp only[bodyPost] at h ⊢
 refine⟨?_,h.2⟩
 have:=h.1
 cases d<;>exact this
theorem rest_any (hC:CxB P C G)(hH0:C.H=[])(hG:∀u,RowKit.Below S w u->G u)(hsel:Region.noSelect ops=true)(hsane:sane C ops=true)
  (he:evalX P C m N ops L f R fn.results.toList sl bs q=some (vs,obs)) (hH:Holds obs) (h:Sl gs sl a) (ho:SOk gs.length sl) (hm:m<=gs.length) (H:Wd S w m gs bs y) (hd:a.defers=[])
  (hQ:∀v∈vs,∀x',RowKit.Below S w x'->∀gs':List Nat,Q (.returned (v.den gs')) x'):wpAnyU P .any ops (Exit.then (fun a x=>R.wp P (bodyPost P fn Q) a x) (bodyPost P fn Q)) (fun z=>Sst S w ops gs sl bs z/\S<=z.heap.size) f L a y:=by
 unfold evalX at he
 split at he
 ·rename_i outs o1 h1
  split at he
  ·rename_i l o2 h2
   split at he
   ·rename_i vs' hr
    injection he with he
    injection he with e1 e2
    subst e1 e2
    obtain⟨ha,hb⟩:=holds_app hH
    refine ex_ok hC hG (post_panic _) hsel hsane h1 h ho hm H ha (fun sl2 bs2 gs' a' x' hx p1 p2 p3 p4 p5=>?_)
    obtain⟨l1,o3,r1,r2,r3⟩:=bindO_ok h2 hb sl2 bs2 q .nrm (List.mem_map.2 ⟨(sl2,bs2),hx,rfl⟩)
    refine (code_ok (S:=S) (w:=w) hC hG R (fun id c' f hc=>by rw[hH0,hooked_nil] at hc;cases hc)).go (fun c a d v w h=>?_) r1 p1 p2 p3 p5 r2 (fun sl3 bs3 q3 e hx3 gs3 a3 x3 s1 s2 s3 s4 s5=>?_)
    ·simp only[bodyPost] at h ⊢
     refine⟨?_,h.2⟩
     have:=h.1
     cases d<;>exact this
    ·obtain⟨hx1,v',hv',hra⟩:=resL_ok hr sl3 bs3 q3 e (r3 _ hx3)
     obtain⟨t1,t2,t3⟩:=resA_ok s1 s2 s5 hra
     have hd3:=s4.defers.trans (p4.defers.trans hd)
     cases e with
     |nrm=>exact⟨hd3,_,t3,hQ v' hv' x3 s5.bel gs3⟩
     |ret=>exact⟨hd3,_,t3,hQ v' hv' x3 s5.bel gs3⟩
     |ext i=>exact (hx1 i rfl).elim
   ·cases he
  ·cases he
 ·cases he
theorem st_move {S:World->Prop}{o:Oper}{p:Operand}{v:Value}(hg:o.guard=none)(ho:o.op=.move p)(h:a.eval p=v):Steady P ops S o v a:=by
 subst h
 exact Steady.of_yields (.inl ⟨by simp[Region.wanted,hg],fun w=>by simp[execOp,ho]⟩)
theorem st_assign {S:World->Prop}{o:Oper}{p:Operand}{v:Value}(hg:o.guard=none)(ho:o.op=.assign p)(h:a.eval p=v):Steady P ops S o v a:=by
 subst h
 exact Steady.of_yields (.inl ⟨by simp[Region.wanted,hg],fun w=>by simp[execOp,ho]⟩)
theorem st_extract {S:World->Prop}{o:Oper}{p:Operand}{vs:Array Value}{i:Nat}{v:Value}(hg:o.guard=none)(ho:o.op=.extract p i)(h:a.eval p=.tuple vs)(hv:vs[i]? = some v):Steady P ops S o v a:=
 Steady.of_yields (.inl ⟨by simp[Region.wanted,hg],fun w=>by simp[execOp,ho,h,Instr.extract,hv]⟩)
theorem st_load {S:World->Prop}{o:Oper}{p:Operand}{g ty t n:Nat}{cs:Array Value}(hh:∀u,S u->Has u g t cs)(hg:o.guard=none)(ho:o.op=.load ty p)(hx:a.eval p=.pointer (some ⟨g,0,none⟩))[hA:Agg P ty n][hC:Cz n cs]:Steady P ops S o (.agg cs) a:=by
 obtain⟨d,hu,hd⟩:=hA.und
 refine .inl ⟨by simp[Region.wanted,hg],fun w1 hw=>?_⟩
 have hr:=run_loadVar_row w1 g t ty cs (0,0) d (hh w1 hw).eq hu (by cases d<;>first|rfl|(simp[aggD] at hd)) (by rw[hC.sz];exact hA.inf)
 unfold Oper.quietAt execOp
 simp only[ho,hx,Instr.loadAt,Instr.sureAddr,Sem.run_bind,Sem.run_pure,Result.andThen_ok,hr]
 exact⟨rfl,rfl⟩
theorem st_call {S:World->Prop}{o:Oper}{F:FuncId}{p q:Operand}{T:Array TypeId}{u1 u2 v:Value}(hg:o.guard=none)(ho:o.op=.call { callee:=.value (.func F),args:=#[p,q],argTypes:=T })(hp:a.eval p=u1)(hq:a.eval q=u2)
  (he:∀args w,(callFunc F args).run P w=.ok (.enter F args) w) (hc:∀u,S u->Calls P F #[u1,u2] u fun e z=>e=.returned v/\RowKit.Below u.heap.size u z):Steady P ops S o v a:=by
 refine .inl ⟨by simp[Region.wanted,hg],fun u hu=>?_⟩
 unfold Oper.quietAt execOp
 have:=hc u hu
 simp[ho,resolve,hg,show a.eval (.func F)=.func (.func F) #[] #[] from rfl,Deferred.ofValue,hp,hq,invoke,he,Oper.quietUpon]
 exact this
theorem put_ne {d k:Nat}{v:Value}(h:d≠k):(a.put (some d) v).tmps[k]? = a.tmps[k]?:=Array.getElem?_setIfInBounds_ne h
theorem put_eq {d:Nat}{v:Value}(h:d<a.tmps.size):(a.put (some d) v).tmps[d]? = some v:=by
 show (a.tmps.setIfInBounds d v)[d]? = some v
 rw[Array.getElem?_setIfInBounds_self]
 simp[h]
theorem put_defers {d:Nat}{v:Value}:(a.put (some d) v).defers=a.defers:=rfl
theorem eval_of {k:Nat}{v:Value}(h:a.tmps[k]? = some v):a.eval (.tmp k)=v:=by
 show a.tmps.getD k undef=v
 simp[Array.getD_eq_getD_getElem?,h]
end
end SxV
end Go.Proofs.YtjamcbjghffboaaGreatDoor
