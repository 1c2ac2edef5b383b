/-
  Own text.
-/
import Derived.Test.YtjamcbjghffboaaGreatDoorMSx
import Derived.LoopN
import Derived.Scope
import Derived.Laws.StructEq
set_option linter.unusedVariables false
set_option linter.unusedSimpArgs false
set_option linter.unusedSectionVars false
namespace Go.Proofs.YtjamcbjghffboaaGreatDoor
namespace Sx
open Go Go.RowKit Reg Limb Fp2
def Ek.ex:Ek->Exit
 |.nrm=>.normal
 |.ret=>.ret
 |.ext id=>.exit id
def bindO (f:Ev):List O1->Option Out
 |[]=>some ([],[])
 |(sl,bs,q,.nrm) :: r=>match f sl bs q,bindO f r with
  |some (l,o),some (l2,o2)=>some (l++l2,o++o2)
  |_,_=>none
 |x :: r=>match bindO f r with
  |some (l,o)=>some (x :: l,o)
  |none=>none
def andThen (r:Option Out)(f:Ev):Option Out:=match r with
 |some (l,o)=>match bindO f l with
  |some (l2,o2)=>some (l2,o++o2)
  |none=>none
 |none=>none
def loopR (f:Ev):Nat->Ev
 |0,_,_,_=>none
 |n+1,sl,bs,q=>andThen (f sl bs q) (loopR f n)
def exB (id:Nat):Ek->Ek
 |.ext i=>if i=id then .nrm else .ext i
 |e=>e
def outB (id:Nat)(r:Option Out):Option Out:=match r with
 |some (l,o)=>some (l.map fun x=>(x.1,x.2.1,x.2.2.1,exB id x.2.2.2),o)
 |none=>none
def lookH:List (Nat×Ev)->Nat->Option Ev
 |[],_=>none
 |(i,f) :: r,id=>if i=id then some f else lookH r id
def hooked (H:List (Nat×Ev)):Code->List (Nat×Code×Ev)
 |.seq a b=>hooked H a++hooked H b
 |.cond _ a b=>hooked H a++hooked H b
 |.loop c=>hooked H c
 |.scope c=>hooked H c
 |.block id c=>match lookH H id with
  |some f=>[(id,c,f)]
  |none=>hooked H c
 |_=>[]
def evalC (P:Program)(C:Cx)(m N:Nat):Code->Ev
 |.skip,sl,bs,q=>some ([(sl,bs,q,.nrm)],[])
 |.region _ ops draw,sl,bs,q=>match draw with
  |true=>match drawS P C m ops.toList sl bs q with
   |some (l,o1)=>some (l.map fun x=>(x.1,x.2.1,x.2.2,.nrm),o1)
   |none=>none
  |false=>match seqS P C m ops ops.toList sl bs q with
   |some (sl1,bs1,q1,o1)=>some ([(sl1,bs1,q1,.nrm)],o1)
   |none=>none
 |.seq a b,sl,bs,q=>andThen (evalC P C m N a sl bs q) (evalC P C m N b)
 |.ret,sl,bs,q=>some ([(sl,bs,q,.ret)],[])
 |.exit id,sl,bs,q=>some ([(sl,bs,q,.ext id)],[])
 |.cond c x y,sl,bs,q=>match ev sl c with
  |some (.val (.bool true))=>evalC P C m N x sl bs q
  |some (.val (.bool false))=>evalC P C m N y sl bs q
  |_=>none
 |.block id c,sl,bs,q=>match lookH C.H id with
  |some f=>f sl bs q
  |none=>outB id (evalC P C m N c sl bs q)
 |.loop c,sl,bs,q=>loopR (evalC P C m N c) N sl bs q
 |.label _,sl,bs,q=>some ([(sl,bs,q,.nrm)],[])
 |.scope c,sl,bs,q=>evalC P C m N c sl bs q
 |_,_,_,_=>none
section
variable {S m N:Nat} {w x y u:World} {gs:List Nat} {bs:List Bk} {sl:List AV} {G:World->Prop} {P:Program} {C:Cx}
structure Does [Rel] (P:Program) (S m:Nat) (w:World) (c:Code) (f:Ev):Prop where
 go:∀{sl:List AV} {bs:List Bk} {q:List Bool} {gs:List Nat} {a:Act} {x:World} {Q:Exit->Act->World->Prop} {l:List O1} {obs:List Ob},
  (∀c a d v w,Q (.panic c) (Act.put a d v) w->Q (.panic c) a w)->f sl bs q=some (l,obs)->Sl gs sl a->SOk gs.length sl->m<=gs.length->Wd S w m gs bs x->Holds obs ->
  (∀sl2 bs2 q2 e,(sl2,bs2,q2,e)∈l->∀gs' a' x',Sl gs' sl2 a'->SOk gs'.length sl2->m<=gs'.length->Thr gs a gs' a'->Wd S w m gs' bs2 x'->Q e.ex a' x')->c.wp P Q a x
theorem bindO_ok {f:Ev}:∀{l:List O1} {l2:List O1} {obs:List Ob},bindO f l=some (l2,obs)->Holds obs->∀sl bs q e,(sl,bs,q,e)∈l ->
  match e with
  |.nrm=>∃l1 o1,f sl bs q=some (l1,o1)/\Holds o1/\∀x∈l1,x∈l2
  |_=>(sl,bs,q,e)∈l2
 |[],_,_,_,_,sl,bs,q,e,hx=>by cases hx
 |(sl0,bs0,q0,e0) :: r,l2,obs,h,hH,sl,bs,q,e,hx=>by
  cases e0 with
  |nrm=>
   rw[bindO] at h
   split at h
   ·rename_i l o l3 o3 h1 h2
    injection h with h
    injection h with e1 e2
    subst e1 e2
    obtain⟨ha,hb⟩:=holds_app hH
    rcases List.mem_cons.1 hx with he|hx
    ·injection he with e1 he
     injection he with e2 he
     injection he with e3 e4
     subst e1 e2 e3 e4
     exact⟨l,o,h1,ha,fun x hx=>List.mem_append_left _ hx⟩
    ·have:=bindO_ok h2 hb sl bs q e hx
     cases e with
     |nrm=>
      obtain⟨l1,o1,p1,p2,p3⟩:=this
      exact⟨l1,o1,p1,p2,fun x hx=>List.mem_append_right _ (p3 x hx)⟩
     |ret=>exact List.mem_append_right _ this
     |ext i=>exact List.mem_append_right _ this
   ·cases h
  |ret=>
   rw[bindO] at h
   ·split at h
    ·rename_i l3 o3 h2
     injection h with h
     injection h with e1 e2
     subst e1 e2
     rcases List.mem_cons.1 hx with he|hx
     ·injection he with e1 he
      injection he with e2 he
      injection he with e3 e4
      subst e1 e2 e3 e4
      exact List.mem_cons_self
     ·have:=bindO_ok h2 hH sl bs q e hx
      cases e with
      |nrm=>
       obtain⟨l1,o1,p1,p2,p3⟩:=this
       exact⟨l1,o1,p1,p2,fun x hx=>List.mem_cons_of_mem _ (p3 x hx)⟩
      |ret=>exact List.mem_cons_of_mem _ this
      |ext i=>exact List.mem_cons_of_mem _ this
    ·cases h
   ·intro sl bs q he
    injection he with e1 he
    injection he with e2 he
    injection he with e3 e4
    cases e4
  |ext j=>
   rw[bindO] at h
   ·split at h
    ·rename_i l3 o3 h2
     injection h with h
     injection h with e1 e2
     subst e1 e2
     rcases List.mem_cons.1 hx with he|hx
     ·injection he with e1 he
      injection he with e2 he
      injection he with e3 e4
      subst e1 e2 e3 e4
      exact List.mem_cons_self
     ·have:=bindO_ok h2 hH sl bs q e hx
      cases e with
      |nrm=>
       obtain⟨l1,o1,p1,p2,p3⟩:=this
       exact⟨l1,o1,p1,p2,fun x hx=>List.mem_cons_of_mem _ (p3 x hx)⟩
      |ret=>exact List.mem_cons_of_mem _ this
      |ext i=>exact List.mem_cons_of_mem _ this
    ·cases h
   ·intro sl bs q he
    injection he with e1 he
    injection he with e2 he
    injection he with e3 e4
    cases e4
theorem then_ok [Rel]{c:Code}{f g:Ev}(h1:Does P S m w c f){K:Act->World->Prop}{sl:List AV}{bs:List Bk}{q:List Bool}{gs:List Nat}{a:Act}{x:World}{Q:Exit->Act->World->Prop}{l:List O1}{obs:List Ob}
  (hQ:∀c a d v w,Q (.panic c) (Act.put a d v) w->Q (.panic c) a w) (he:andThen (f sl bs q) g=some (l,obs)) (h:Sl gs sl a) (ho:SOk gs.length sl) (hm:m<=gs.length) (H:Wd S w m gs bs x) (hH:Holds obs)
  (hK:∀sl2 bs2 q2 e,(sl2,bs2,q2,e)∈l->∀gs' a' x',Sl gs' sl2 a'->SOk gs'.length sl2->m<=gs'.length->Thr gs a gs' a'->Wd S w m gs' bs2 x'->Q e.ex a' x')
  (h2:∀{sl1 bs1 q1 l1 o1 gs1 a1 x1},g sl1 bs1 q1=some (l1,o1)->Holds o1->(∀x∈l1,x∈l)->Sl gs1 sl1 a1->SOk gs1.length sl1->m<=gs1.length->Wd S w m gs1 bs1 x1->Thr gs a gs1 a1->K a1 x1):c.wp P (Exit.then K Q) a x:=by
 unfold andThen at he
 have hQ':∀c a d v w,Exit.then K Q (.panic c) (Act.put a d v) w->Exit.then K Q (.panic c) a w:=fun c a d v w h=>hQ c a d v w h
 split at he
 ·rename_i l0 o0 h3
  split at he
  ·rename_i l2 o2 h4
   injection he with he
   injection he with e1 e2
   subst e1 e2
   obtain⟨ha,hb⟩:=holds_app hH
   refine h1.go hQ' h3 h ho hm H ha (fun sl2 bs2 q2 e hx gs' a' x' p1 p2 p3 p4 p5=>?_)
   have hbo:=bindO_ok h4 hb sl2 bs2 q2 e hx
   cases e with
   |nrm=>
    obtain⟨l1,o1,r1,r2,r3⟩:=hbo
    exact h2 r1 r2 r3 p1 p2 p3 p5 p4
   |ret=>exact hK _ _ _ _ hbo gs' a' x' p1 p2 p3 p4 p5
   |ext i=>exact hK _ _ _ _ hbo gs' a' x' p1 p2 p3 p4 p5
  ·cases he
 ·cases he
theorem loop_ok [Rel]{c:Code}{f:Ev}(h1:Does P S m w c f):∀n:Nat,∀{sl:List AV} {bs:List Bk} {q:List Bool} {gs:List Nat} {a:Act} {x:World} {Q:Exit->Act->World->Prop} {l:List O1} {obs:List Ob},
  (∀c a d v w,Q (.panic c) (Act.put a d v) w->Q (.panic c) a w)->loopR f n sl bs q=some (l,obs)->Sl gs sl a->SOk gs.length sl->m<=gs.length->Wd S w m gs bs x->Holds obs ->
  (∀sl2 bs2 q2 e,(sl2,bs2,q2,e)∈l->∀gs' a' x',Sl gs' sl2 a'->SOk gs'.length sl2->m<=gs'.length->Thr gs a gs' a'->Wd S w m gs' bs2 x'->Q e.ex a' x')->Code.rounds P c Q n a x:=by
 intro n
 induction n with
 |zero=>
  intro sl bs q gs a x Q l obs hQ he
  cases he
 |succ n ih=>
  intro sl bs q gs a x Q l obs hQ he h ho hm H hH hK
  show c.wp P (Exit.then (Code.rounds P c Q n) Q) a x
  exact then_ok h1 hQ he h ho hm H hH hK (fun h4 p6 ps p1 p2 p3 p5 p4=>ih hQ h4 p1 p2 p3 p5 p6 (fun sl2 bs2 q2 e hx gs2 a2 x2 r1 r2 r3 r4 r5=>hK sl2 bs2 q2 e (ps _ hx) gs2 a2 x2 r1 r2 r3 (r4.trans p4) r5))
theorem code_ok [Rel](hC:CxB P C G)(hG:∀u,RowKit.Below S w u->G u):∀c:Code,(∀id c' f,(id,c',f)∈hooked C.H c->Does P S m w (.block id c') f)->Does P S m w c (evalC P C m N c):=by
 intro c
 induction c with
 |skip=>
  intro _
  refine⟨?_⟩
  intro sl bs q gs a x Q l obs hQ he h ho hm H hH hK
  injection he with he
  injection he with e1 e2
  subst e1
  exact wp_skip (hK sl bs q .nrm (by simp) gs a x h ho hm (.of rfl) H)
 |label id=>
  intro _
  refine⟨?_⟩
  intro sl bs q gs a x Q l obs hQ he h ho hm H hH hK
  injection he with he
  injection he with e1 e2
  subst e1
  exact wp_label (hK sl bs q .nrm (by simp) gs a x h ho hm (.of rfl) H)
 |scope c ih=>
  intro hk
  have ih:=ih hk
  refine⟨?_⟩
  intro sl bs q gs a x Q l obs hQ he h ho hm H hH hK
  simp only[evalC] at he
  refine wp_scope_straight (ih.go (fun c a d v w h=>hQ c a d v w h) he h ho hm H hH (fun sl2 bs2 q2 e hx gs' a' x' p1 p2 p3 p4 p5=>?_))
  have:=hK sl2 bs2 q2 e hx gs' a' x' p1 p2 p3 p4 p5
  cases e<;>exact this
 |ret=>
  intro _
  refine⟨?_⟩
  intro sl bs q gs a x Q l obs hQ he h ho hm H hH hK
  injection he with he
  injection he with e1 e2
  subst e1
  exact wp_ret (hK sl bs q .ret (by simp) gs a x h ho hm (.of rfl) H)
 |exit id=>
  intro _
  refine⟨?_⟩
  intro sl bs q gs a x Q l obs hQ he h ho hm H hH hK
  injection he with he
  injection he with e1 e2
  subst e1
  exact wp_exit (hK sl bs q (.ext id) (by simp) gs a x h ho hm (.of rfl) H)
 |region id ops draw=>
  intro _
  refine⟨?_⟩
  intro sl bs q gs a x Q l obs hQ he h ho hm H hH hK
  simp only[evalC] at he
  cases draw with
  |true=>
   simp only at he
   split at he
   ·rename_i l1 o1 h1
    injection he with he
    injection he with e1 e2
    subst e1 e2
    exact draw_ok (lo:=ops.toList) hC hG hQ h1 h ho hm H hH (fun sl2 bs2 q2 hx gs' a' x' p1 p2 p3 p4 p5=>hK sl2 bs2 q2 .nrm (List.mem_map.2 ⟨(sl2,bs2,q2),hx,rfl⟩) gs' a' x' p1 p2 p3 p4 p5)
   ·cases he
  |false=>
   simp only at he
   split at he
   ·rename_i sl1 bs1 q1 o1 h1
    injection he with he
    injection he with e1 e2
    subst e1 e2
    exact wp_region_list (seq_ok hC hG h1 h ho hm H hH (fun gs' a' x' pe p1 p2 p3 p4 p5=>hK sl1 bs1 q1 .nrm (by simp) gs' a' x' p1 p2 p3 (.ext p4 pe) p5))
   ·cases he
 |seq a b iha ihb=>
  intro hk
  have iha:=iha fun id c' f h=>hk id c' f (List.mem_append_left _ h)
  have ihb:=ihb fun id c' f h=>hk id c' f (List.mem_append_right _ h)
  refine⟨?_⟩
  intro sl bs q gs act x Q l obs hQ he h ho hm H hH hK
  simp only[evalC] at he
  exact wp_seq (then_ok iha hQ he h ho hm H hH hK (fun h4 p6 ps p1 p2 p3 p5 p4=>ihb.go hQ h4 p1 p2 p3 p5 p6 (fun sl2 bs2 q2 e hx gs2 a2 x2 r1 r2 r3 r4 r5=>hK sl2 bs2 q2 e (ps _ hx) gs2 a2 x2 r1 r2 r3 (r4.trans p4) r5)))
 |cond c x y ihx ihy=>
  intro hk
  have ihx:=ihx fun id c' f h=>hk id c' f (List.mem_append_left _ h)
  have ihy:=ihy fun id c' f h=>hk id c' f (List.mem_append_right _ h)
  refine⟨?_⟩
  intro sl bs q gs act xw Q l obs hQ he h ho hm H hH hK
  simp only[evalC] at he
  split at he
  ·rename_i h1
   exact wp_cond_true ((ev_ok h ho h1).1) (ihx.go hQ he h ho hm H hH hK)
  ·rename_i h1
   exact wp_cond_false ((ev_ok h ho h1).1) (ihy.go hQ he h ho hm H hH hK)
  ·cases he
 |block id c ih=>
  intro hk
  cases hl:lookH C.H id with
  |some f=>
   have hd:=hk id c f (by simp[hooked,hl])
   refine⟨?_⟩
   intro sl bs q gs act xw Q l obs hQ he h ho hm H hH hK
   simp only[evalC,hl] at he
   exact hd.go hQ he h ho hm H hH hK
  |none=>
  have ih:=ih fun id' c' f h=>hk id' c' f (by simpa [hooked,hl] using h)
  refine⟨?_⟩
  intro sl bs q gs act xw Q l obs hQ he h ho hm H hH hK
  simp only[evalC,hl] at he
  unfold outB at he
  have hQ':∀c a d v w,Exit.inBlock id Q (.panic c) (Act.put a d v) w->Exit.inBlock id Q (.panic c) a w:=fun c a d v w h=>hQ c a d v w h
  split at he
  ·rename_i l1 o1 h1
   injection he with he
   injection he with e1 e2
   subst e1 e2
   refine wp_block (ih.go hQ' h1 h ho hm H hH (fun sl2 bs2 q2 e hx gs' a' x' p1 p2 p3 p4 p5=>?_))
   have:=hK sl2 bs2 q2 (exB id e) (List.mem_map.2 ⟨(sl2,bs2,q2,e),hx,rfl⟩) gs' a' x' p1 p2 p3 p4 p5
   cases e with
   |nrm=>exact this
   |ret=>exact this
   |ext i=>
    show if i=id then Q .normal a' x' else Q (.exit i) a' x'
    simp only[exB] at this
    split
    ·rename_i hi;rw[if_pos hi] at this;exact this
    ·rename_i hi;rw[if_neg hi] at this;exact this
  ·cases he
 |loop c ih=>
  intro hk
  have ih:=ih hk
  refine⟨?_⟩
  intro sl bs q gs act xw Q l obs hQ he h ho hm H hH hK
  simp only[evalC] at he
  exact wp_loop_rounds N (loop_ok ih N hQ he h ho hm H hH hK)
 |_=>
  intro _
  refine⟨?_⟩
  intro sl bs q gs a x Q l obs hQ he
  simp[evalC] at he
end
def res1 (P:Program)(sl:List AV)(bs:List Bk):ResultVar->Option TV
 |.tmp t=>match sl[t]? with
  |some (.agg r)=>some (.agg r)
  |some (.val v)=>some (.val v)
  |some (.num k x)=>some (.num k x)
  |_=>none
 |.cell p t=>match sl[p]?,P.underlying t,P.info? t with
  |some (.ptr k 0),some d,some i=>match pb bs k with
   |some (_,r)=>if d.isRow then (part r 0 i.size).map .agg else (cel r 0).map .val
   |none=>none
  |_,_,_=>none
def resA (P:Program)(sl:List AV)(bs:List Bk):List ResultVar->Option AV
 |[]=>some (.val (.tuple #[]))
 |[r]=>(res1 P sl bs r).map TV.av
 |[r,s]=>match res1 P sl bs r,res1 P sl bs s with
  |some a,some b=>some (.tup [a,b])
  |_,_=>none
 |_=>none
def resL (P:Program)(rs:List ResultVar):List O1->Option (List AV)
 |[]=>some []
 |(_,_,_,.ext _) :: _=>none
 |(sl,bs,_,_) :: r=>match resA P sl bs rs,resL P rs r with
  |some v,some l=>some (v :: l)
  |_,_=>none
def evalF (P:Program)(C:Cx)(m N:Nat)(fn:Func)(args:List AV)(bs:List Bk)(q:List Bool):Option (List AV×List Ob):=
 match fn.body with
 |some c=>match evalC P C m N c (args++List.replicate (fn.ntmps-args.length) (.val undef)) bs q with
  |some (l,obs)=>match resL P fn.results.toList l with
   |some vs=>some (vs,obs)
   |none=>none
  |none=>none
 |none=>none
section
variable {S m N:Nat} {w x y u:World} {gs:List Nat} {bs:List Bk} {sl:List AV} {G:World->Prop} {P:Program} {C:Cx} {a:Act}
theorem res1_ok {P:Program}(h:Sl gs sl a)(ho:SOk gs.length sl)(H:Wd S w m gs bs x){rv:ResultVar}{v:TV}(he:res1 P sl bs rv=some v) :
  v.Ok/\(match rv with | .tmp t=>(pure (a.tmps.getD t undef):Sem Value) | .cell p t=>do loadVar t (<-asAddr (a.tmps.getD p undef))).run P x=.ok v.den x:=by
 cases rv with
 |tmp t=>
  simp only[res1] at he
  split at he
  ·rename_i r h1
   obtain rfl:=Option.some.inj he
   obtain⟨e1,o1⟩:=ev_ok (x:=.tmp t) h ho (ev_tmp h1 (by simp))
   simp only[Act.eval] at e1
   exact⟨o1,by show (pure (a.tmps.getD t undef):Sem Value).run P x=_;rw[e1];rfl⟩
  ·rename_i v h1
   obtain rfl:=Option.some.inj he
   obtain⟨e1,o1⟩:=ev_ok (x:=.tmp t) h ho (ev_tmp h1 (by simp))
   simp only[Act.eval] at e1
   exact⟨trivial,by show (pure (a.tmps.getD t undef):Sem Value).run P x=_;rw[e1];rfl⟩
  ·rename_i k v h1
   obtain rfl:=Option.some.inj he
   obtain⟨e1,o1⟩:=ev_ok (x:=.tmp t) h ho (ev_tmp h1 (by simp))
   simp only[Act.eval] at e1
   exact⟨o1,by show (pure (a.tmps.getD t undef):Sem Value).run P x=_;rw[e1];rfl⟩
  ·cases he
 |cell p t=>
  simp only[res1] at he
  split at he
  ·rename_i k d i h1 h2 h3
   obtain⟨e1,o1⟩:=ev_ok (x:=.tmp p) h ho (ev_tmp h1 (by simp))
   simp only[Act.eval,AV.den] at e1
   split at he
   ·rename_i tb r h4
    obtain⟨hh,hr⟩:=H.bk k tb r h4
    have hadr:(asAddr (a.tmps.getD p undef)).run P x=.ok ⟨gs.getD k 0,0,none⟩ x:=by rw[e1];simp[asAddr]
    split at he
    ·rename_i hd
     obtain⟨out,hp,rfl⟩:=Option.map_eq_some_iff.1 he
     have:=load_row hh hr h2 hd h3 hp (n:=0)
     exact⟨(part_ok hr hp).2.1,by rw[Sem.run_bind,hadr,Result.andThen_ok];exact this⟩
    ·rename_i hd
     obtain⟨z,hp,rfl⟩:=Option.map_eq_some_iff.1 he
     have:=load_cel hh hr h2 (by simpa using hd) hp
     exact⟨trivial,by rw[Sem.run_bind,hadr,Result.andThen_ok];exact this⟩
   ·cases he
  ·cases he
theorem tv_den {v:TV}:v.av.den gs=v.den:=by cases v<;>rfl
theorem tv_ok {v:TV}{n:Nat}(h:v.Ok):v.av.Ok n:=by cases v<;>first|exact h|trivial
theorem resA_ok {P:Program}(h:Sl gs sl a)(ho:SOk gs.length sl)(H:Wd S w m gs bs x){fn:Func}{v:AV}(he:resA P sl bs fn.results.toList=some v):(∀n,v.Ok n)/\(∀gs',v.den gs'=v.den gs)/\(results fn a.tmps).run P x=.ok (v.den gs) x:=by
 obtain⟨l,hl⟩:∃l,fn.results=l.toArray:=⟨fn.results.toList,rfl⟩
 rw[hl] at he
 simp only[] at he
 match l,hl with
 |[],hl=>
  obtain rfl:=Option.some.inj he
  exact⟨fun n=>trivial,fun _=>rfl,by simp[results,hl,AV.den]⟩
 |[r],hl=>
  obtain⟨tv,h1,rfl⟩:=Option.map_eq_some_iff.1 he
  obtain⟨o1,r1⟩:=res1_ok h ho H h1
  refine⟨fun n=>tv_ok o1,fun _=>by rw[tv_den,tv_den],?_⟩
  rw[tv_den]
  cases r<;>simp[results,hl]<;>simpa using r1
 |[r,s],hl=>
  simp only[resA] at he
  split at he
  ·rename_i a1 a2 h1 h2
   obtain rfl:=Option.some.inj he
   obtain⟨o1,r1⟩:=res1_ok h ho H h1
   obtain⟨o2,r2⟩:=res1_ok h ho H h2
   refine⟨fun n=>⟨o1,o2,trivial⟩,fun _=>rfl,?_⟩
   have:∀{f:ResultVar->Sem Value},(f r).run P x=.ok a1.den x->(f s).run P x=.ok a2.den x->(do let vs <-#[r,s].mapM f;pure (if h:vs.size=1 then vs[0] else Value.tuple vs)).run P x=.ok (.tuple #[a1.den,a2.den]) x:=fun g1 g2=>by
    simp[g1,g2]
   show (results fn a.tmps).run P x=.ok (.tuple #[a1.den,a2.den]) x
   unfold results
   rw[hl]
   exact this r1 r2
  ·cases he
 |_ :: _ :: _ :: _,hl=>cases he
theorem resL_ok {P:Program}{rs:List ResultVar}:∀{l:List O1} {vs:List AV},resL P rs l=some vs->∀sl bs q e,(sl,bs,q,e)∈l->(∀i,e≠.ext i)/\∃v∈vs,resA P sl bs rs=some v
 |[],_,_,sl,bs,q,e,hx=>by cases hx
 |(sl0,bs0,q0,e0) :: r,vs,h,sl,bs,q,e,hx=>by
  have key:(∀i,e0≠.ext i)/\∃v l,resA P sl0 bs0 rs=some v/\resL P rs r=some l/\vs=v :: l:=by
   cases e0 with
   |ext i=>cases h
   |nrm=>
    rw[resL] at h
    ·split at h
     ·rename_i v l h1 h2
      obtain rfl:=Option.some.inj h
      exact⟨fun i h=>(by cases h),v,l,h1,h2,rfl⟩
     ·cases h
    ·intro _ hx
     cases hx
   |ret=>
    rw[resL] at h
    ·split at h
     ·rename_i v l h1 h2
      obtain rfl:=Option.some.inj h
      exact⟨fun i h=>(by cases h),v,l,h1,h2,rfl⟩
     ·cases h
    ·intro _ hx
     cases hx
  obtain⟨k1,v,l,k2,k3,rfl⟩:=key
  rcases List.mem_cons.1 hx with he|hx
  ·injection he with e1 he
   injection he with e2 he
   injection he with e3 e4
   subst e1 e2 e3 e4
   exact⟨k1,v,by simp,k2⟩
  ·obtain⟨q1,v',hv,q2⟩:=resL_ok k3 sl bs q e hx
   exact⟨q1,v',List.mem_cons_of_mem _ hv,q2⟩
theorem fn_okH (hC:CxB P C G){F:FuncId}{fn:Func}(hk:∀c,fn.body=some c->∀id c' f,(id,c',f)∈hooked C.H c->Does P w.heap.size m w (.block id c') f)(hf:P.funcs[F]? = some fn){args:List AV}{q:List Bool}{vs:List AV}{obs:List Ob}(he:evalF P C m N fn args bs q=some (vs,obs))(hH:Holds obs)(hlen:gs.length=bs.length)(hm:m=bs.length)
  (ho:∀a∈args,a.Ok gs.length) (hG:∀u,RowKit.Below w.heap.size w u->G u) (hB:BOk gs (fun k=>bs[k]?) w):Calls P F (args.map (AV.den gs)).toArray w fun e w'=>∃v∈vs,e=.returned (v.den gs)/\(∀n,v.Ok n)/\RowKit.Below w.heap.size w w':=by
 unfold evalF at he
 split at he
 ·rename_i c hb
  split at he
  ·rename_i l o2 h1
   split at he
   ·rename_i vs' hr
    injection he with he
    injection he with ea eb
    subst ea eb
    refine calls_of_wp hf hb ?_
    have hs:Sl gs (args++List.replicate (fn.ntmps-args.length) (.val undef)) { tmps:=(args.map (AV.den gs)).toArray++Array.replicate (fn.ntmps-(args.map (AV.den gs)).toArray.size) undef,defers:=[] }:=by
     refine Sl.of_eq ?_
     simp[AV.den]
    refine (code_ok (S:=w.heap.size) (w:=w) hC hG c (hk c hb)).go (fun c a d v w h=>?_) h1 hs (fun a ha=>?_) (by omega) ⟨Below.refl _ _,Nat.le_refl _,hlen,fun k t r hk=>⟨by rw[denB_ok (hB k t r hk).2];exact (hB k t r hk).1,okB_ok (hB k t r hk).2⟩,fun k hk hk'=>by omega,fun j k hj hk hmj _=>by omega⟩ hH (fun sl2 bs2 q2 e hx gs' a' x' p1 p2 p3 p4 p5=>?_)
    ·simp only[bodyPost] at h ⊢
     refine⟨?_,h.2⟩
     have:=h.1
     cases d<;>exact this
    ·rcases List.mem_append.1 ha with ha|ha
     ·exact ho a ha
     ·obtain rfl:=(List.mem_replicate.1 ha).2
      trivial
    ·obtain⟨he,v',hv',hra⟩:=resL_ok hr sl2 bs2 q2 e hx
     obtain⟨r1,r2,r3⟩:=resA_ok p1 p2 p5 hra
     rw[<-r2 gs] at r3
     cases e with
     |nrm=>exact⟨p4.defers,_,r3,v',hv',rfl,r1,p5.bel⟩
     |ret=>exact⟨p4.defers,_,r3,v',hv',rfl,r1,p5.bel⟩
     |ext i=>exact (he i rfl).elim
   ·cases he
  ·cases he
 ·cases he
structure CxOk (P:Program) (C:Cx) (G:World->Prop):Prop extends CxB P C G where
 H0:C.H=[]
theorem hooked_nil (c:Code):hooked [] c=[]:=by
 induction c<;>simp_all[hooked,lookH]
theorem fn_ok (hC:CxOk P C G){F:FuncId}{fn:Func}(hf:P.funcs[F]? = some fn){args:List AV}{q:List Bool}{vs:List AV}{obs:List Ob}(he:evalF P C m N fn args bs q=some (vs,obs))(hH:Holds obs)(hlen:gs.length=bs.length)(hm:m=bs.length)
  (ho:∀a∈args,a.Ok gs.length) (hG:∀u,RowKit.Below w.heap.size w u->G u) (hB:BOk gs (fun k=>bs[k]?) w):Calls P F (args.map (AV.den gs)).toArray w fun e w'=>∃v∈vs,e=.returned (v.den gs)/\(∀n,v.Ok n)/\RowKit.Below w.heap.size w w':=
 fn_okH hC.toCxB (fun c _ id c' f h=>by rw[hC.H0,hooked_nil] at h;cases h) hf he hH hlen hm ho hG hB
theorem enter_of {P:Program}{F:FuncId}{fn:Func}(hf:P.funcs[F]? = some fn)(hb:fn.body.isNone=false)(hn:(fn.name == "runtime.NumGoroutine")=false)(args:Array Value)(w:World):(callFunc F args).run P w=.ok (.enter F args) w:=by
 have h1:¬fn.name = "runtime.NumGoroutine":=by simpa using hn
 have h2:¬fn.body=none:=fun h=>by simp[h] at hb
 simp[callFunc,hf,h1,h2]
end
def evalW (P:Program)(C:Cx)(m N:Nat)(fn:Func)(args:List AV)(bs:List Bk)(q:List Bool):Option (AV×List Bk×List Bool×List Ob):=
 match fn.body with
 |some c=>match evalC P C m N c (args++List.replicate (fn.ntmps-args.length) (.val undef)) bs q with
  |some ([(sl2,bs2,q2,.nrm)],obs)=>match resA P sl2 bs2 fn.results.toList with
   |some v=>some (v,bs2,q2,obs)
   |none=>none
  |some ([(sl2,bs2,q2,.ret)],obs)=>match resA P sl2 bs2 fn.results.toList with
   |some v=>some (v,bs2,q2,obs)
   |none=>none
  |_=>none
 |none=>none
def entCl (P:Program)(F:FuncId)(C:Cx)(N:Nat):Ent4:=fun m args bs q=>match P.funcs[F]? with
 |some fn=>evalW P C m N fn args bs q
 |none=>none
theorem EOk4.inline {P:Program}{C:Cx}{G:World->Prop}{N:Nat}{F:FuncId}{fn:Func}(hC:CxOk P C G)(hf:P.funcs[F]? = some fn)(hb:fn.body.isNone=false)(hn:(fn.name == "runtime.NumGoroutine")=false):EOk4 P G F (entCl P F C N):=by
 refine⟨fun args w=>enter_of hf hb hn args w,?_⟩
 intro S m w x gs bs args q v bs1 q1 ps he hH ho hG hm H
 unfold entCl at he
 rw[hf] at he
 simp only at he
 have key:∃c sl2 e,fn.body=some c/\evalC P C m N c (args++List.replicate (fn.ntmps-args.length) (.val undef)) bs q=some ([(sl2,bs1,q1,e)],ps)/\(e=.nrm∨e=.ret)/\resA P sl2 bs1 fn.results.toList=some v:=by
  unfold evalW at he
  split at he
  ·rename_i c hbd
   split at he
   ·rename_i sl2 bs2 q2 obs h1
    split at he
    ·rename_i v' h2
     injection he with he
     injection he with e1 e2
     injection e2 with e2 e3
     injection e3 with e3 e4
     subst e1 e2 e3 e4
     exact⟨c,sl2,.nrm,hbd,h1,.inl rfl,h2⟩
    ·cases he
   ·rename_i sl2 bs2 q2 obs h1
    split at he
    ·rename_i v' h2
     injection he with he
     injection he with e1 e2
     injection e2 with e2 e3
     injection e3 with e3 e4
     subst e1 e2 e3 e4
     exact⟨c,sl2,.ret,hbd,h1,.inr rfl,h2⟩
    ·cases he
   ·cases he
  ·cases he
 obtain⟨c,sl2,e,hbd,h1,hen,hr⟩:=key
 refine calls_of_wp hf hbd ?_
 have hs:Sl gs (args++List.replicate (fn.ntmps-args.length) (.val undef)) { tmps:=(args.map (AV.den gs)).toArray++Array.replicate (fn.ntmps-(args.map (AV.den gs)).toArray.size) undef,defers:=[] }:=by
  refine Sl.of_eq ?_
  simp[AV.den]
 letI:Rel:=extRel
 refine (code_ok (m:=m) (N:=N) hC.toCxB hG c (fun id c' f h=>by rw[hC.H0,hooked_nil] at h;cases h)).go (fun c a d v w h=>?_) h1 hs (fun a ha=>?_) hm H hH (fun sl3 bs3 q3 e3 hx gs' a' x' p1 p2 p3 p4 p5=>?_)
 ·simp only[bodyPost] at h ⊢
  refine⟨?_,h.2⟩
  have:=h.1
  cases d<;>exact this
 ·rcases List.mem_append.1 ha with ha|ha
  ·exact ho a ha
  ·obtain rfl:=(List.mem_replicate.1 ha).2
   trivial
 ·have hx:=List.mem_singleton.1 hx
  injection hx with e1 hx
  injection hx with e2 hx
  injection hx with e4 e5
  subst e1 e2 e4 e5
  obtain⟨r1,r2,r3⟩:=resA_ok p1 p2 p5 hr
  obtain⟨g',hg'⟩:∃e,gs'=gs++e:=p4.rel
  have hd:=p4.defers
  subst hg'
  have r2':∀g2,v.den g2=v.den gs:=fun g2=>(r2 g2).trans (r2 gs).symm
  rw[r2'] at r3
  rcases hen with rfl|rfl
  ·exact⟨hd,_,r3,g',p5,r1,r2',rfl⟩
  ·exact⟨hd,_,r3,g',p5,r1,r2',rfl⟩
end Sx
namespace Sx
open Go Go.RowKit Reg Limb Fp2
def wsOf:List Nat->List AV->Option (List (List Int))
 |[],[]=>some []
 |n :: ns,.agg r :: vs=>match mg r,wsOf ns vs with
  |some (k,xs),some l=>if k=n then some (xs :: l) else none
  |_,_=>none
 |_,_=>none
def Nms:List Nat->List (List Int)->Prop
 |[],[]=>True
 |n :: ns,x :: l=>Nm n x/\Nms ns l
 |_,_=>False
def avs:List Nat->List (List Int)->List AV
 |n :: ns,x :: l=>.agg [.nums n x] :: avs ns l
 |_,_=>[]
def vws (l:List (List Int)):List Value:=l.map fun x=>.agg (vals .u64 x)
def entW (ns:List Nat)(f:List (List Int)->AV):Ent:=fun _ _ args=>(wsOf ns args).map f
section
variable {P:Program} {C:Cx} {G:World->Prop} {F:FuncId} {fn:Func} {n:Nat} {ns:List Nat}
theorem agg_vals {r:Row}{xs:List Int}{k:Nat}{gs:List Nat}(ho:Ok r)(h:mg r=some (k,xs)):(AV.agg r).den gs=.agg (vals .u64 xs)/\Nm k xs:=by
 obtain⟨h1,h2⟩:=mg_ok ho h
 exact⟨by rw[AV.den,h2];rfl,h1⟩
theorem den_nums {n:Nat}{xs:List Int}{gs:List Nat}:(AV.agg [.nums n xs]).den gs=.agg (vals .u64 xs):=by
 simp[AV.den,den,Sg.den,vals]
theorem wsOf_ok {gs:List Nat}{m:Nat}:∀{ns:List Nat} {vs:List AV} {l:List (List Int)},(∀a∈vs,a.Ok m)->wsOf ns vs=some l->Nms ns l/\vs.map (AV.den gs)=vws l
 |[],[],l,_,h=>by obtain rfl:=Option.some.inj h;exact⟨trivial,rfl⟩
 |n :: ns,.agg r :: vs,l,ho,h=>by
  unfold wsOf at h
  split at h
  ·rename_i k xs l' h1 h2
   split at h
   ·rename_i hk
    subst hk
    obtain rfl:=Option.some.inj h
    obtain⟨d1,m1⟩:=agg_vals (gs:=gs) (ho (.agg r) (by simp)) h1
    obtain⟨i1,i2⟩:=wsOf_ok (gs:=gs) (fun a ha=>ho a (List.mem_cons_of_mem _ ha)) h2
    exact⟨⟨m1,i1⟩,by rw[List.map_cons,d1,i2];rfl⟩
   ·cases h
  ·cases h
 |[],_ :: _,_,_,h=>by cases h
 |_ :: _,[],_,_,h=>by cases h
 |_ :: _,.ptr _ _ :: _,_,_,h=>by cases h
 |_ :: _,.val _ :: _,_,_,h=>by cases h
 |_ :: _,.slc _ _ _ _ :: _,_,_,h=>by cases h
 |_ :: _,.tup _ :: _,_,_,h=>by cases h
 |_ :: _,.fn _ _ :: _,_,_,h=>by cases h
 |_ :: _,.num _ _ :: _,_,_,h=>by cases h
 |_ :: _,.unk :: _,_,_,h=>by cases h
 |_ :: _,.ptrS _ _ :: _,_,_,h=>by cases h
 |_ :: _,.ext _ _ _ _ :: _,_,_,h=>by cases h
 |_ :: _,.extp _ _ _ _ :: _,_,_,h=>by cases h
 |_ :: _,.bl _ :: _,_,_,h=>by cases h
 |_ :: _,.xr _ _ _ _ :: _,_,_,h=>by cases h
 |_ :: _,.xp _ _ _ :: _,_,_,h=>by cases h
theorem avs_den {gs:List Nat}:∀{ns:List Nat} {l:List (List Int)},Nms ns l->(avs ns l).map (AV.den gs)=vws l/\∀a∈avs ns l,a.Ok 0
 |[],[],_=>⟨rfl,by simp[avs]⟩
 |n :: ns,x :: l,h=>by
  obtain⟨i1,i2⟩:=avs_den (gs:=gs) h.2
  refine⟨by rw[avs,List.map_cons,den_nums,i1];rfl,fun a ha=>?_⟩
  rcases List.mem_cons.1 ha with rfl|ha
  ·exact⟨h.1,trivial⟩
  ·exact i2 a ha
 |[],_ :: _,h=>h.elim
 |_ :: _,[],h=>h.elim
structure Fact (P:Program) (G:World->Prop) where
 F:FuncId
 e:Ent
 ok:EOk P G F e
def tb {P:Program}{G:World->Prop}:List (Fact P G)->Tbl
 |[]=>[]
 |x :: l=>(x.F,x.e) :: tb l
theorem tb_ok {P:Program}{G:World->Prop}:∀l:List (Fact P G),TOk P G (tb l)
 |[]=>trivial
 |x :: l=>⟨x.ok,tb_ok l⟩
theorem cx_ok {P:Program}{G:World->Prop}{E:List (TypeId×Nat)}(l:List (Fact P G))(hE:EqT P E)(hm:P.follows .mixedOrders=true):CxOk P (.of E (tb l)) G:=⟨⟨tb_ok l,trivial,trivial,hE,hm,fun _ _ _ h=>h.elim,fun _ _ h=>(by cases h),trivial,fun _ _ h=>h.elim,trivial⟩,rfl⟩
def At (P:Program)(G:World->Prop)(F:FuncId)(l:List (List Int))(v:AV):Prop:=
 (∀n,v.Ok n)/\(∀gs,v.den gs=v.den [])/\∀w,G w->Calls P F (vws l).toArray w fun e w'=>e=.returned (v.den [])/\RowKit.Below w.heap.size w w'
def Con (P:Program)(G:World->Prop)(F:FuncId)(ns:List Nat)(f:List (List Int)->AV):Prop:=
 ∀l,Nms ns l->At P G F l (f l)
def Con.fact {P:Program}{G:World->Prop}{F:FuncId}{ns:List Nat}{f:List (List Int)->AV}(hc:Con P G F ns f)(h:EOk P G F (entW ns f)):Fact P G:=⟨F,entW ns f,h⟩
theorem EOk.con {f:List (List Int)->AV}(hf:P.funcs[F]? = some fn)(hb:fn.body.isNone=false)(hn:(fn.name == "runtime.NumGoroutine")=false)(hc:Con P G F ns f):EOk P G F (entW ns f):=by
 refine⟨enter_of hf hb hn,fun bl args v gs he ho w hG _=>?_⟩
 obtain⟨l,hl,rfl⟩:=Option.map_eq_some_iff.1 he
 obtain⟨h1,h2⟩:=wsOf_ok (gs:=gs) ho hl
 obtain⟨c1,c2,c3⟩:=hc l h1
 refine⟨c1 _,?_⟩
 rw[h2,c2]
 exact c3 w hG
def relo:List AV->Nat->Option (List AV×List Nat)
 |[],_=>some ([],[])
 |.ptr k off :: r,i=>match relo r (i+1) with
  |some (l,ks)=>some (.ptr i off :: l,k :: ks)
  |none=>none
 |.slc k off n c :: r,i=>match relo r (i+1) with
  |some (l,ks)=>some (.slc i off n c :: l,k :: ks)
  |none=>none
 |.agg w :: r,i=>match relo r i with
  |some (l,ks)=>some (.agg w :: l,ks)
  |none=>none
 |.val v :: r,i=>match relo r i with
  |some (l,ks)=>some (.val v :: l,ks)
  |none=>none
 |.num k x :: r,i=>match relo r i with
  |some (l,ks)=>some (.num k x :: l,ks)
  |none=>none
 |.bl b :: r,i=>match relo r i with
  |some (l,ks)=>some (.bl b :: l,ks)
  |none=>none
 |.ext A n c l' :: r,i=>match relo r i with
  |some (l,ks)=>some (.ext A n c l' :: l,ks)
  |none=>none
 |.xr A n c l' :: r,i=>match relo r i with
  |some (l,ks)=>some (.xr A n c l' :: l,ks)
  |none=>none
 |.fn f caps :: r,i=>match relo r (i+caps.length) with
  |some (l,ks)=>some (.fn f (List.range' i caps.length) :: l,caps++ks)
  |none=>none
 |_,_=>none
def bks (bl:Nat->Option Bk):List Nat->Option (List Bk)
 |[]=>some []
 |k :: ks=>match bl k,bks bl ks with
  |some b,some l=>some (b :: l)
  |_,_=>none
def plain:AV->Bool
 |.agg _ | .val _ | .tup _ | .num _ _ | .bl _=>true
 |_=>false
def entI (F:FuncId)(C:Cx)(N:Nat):Ent:=fun P bl args=>match P.funcs[F]? with
 |some fn=>match relo args 0 with
  |some (l,ks)=>match bks bl ks with
   |some bs=>match evalF P C bs.length N fn l bs [] with
    |some ([v],[])=>if plain v then some v else none
    |_=>none
   |none=>none
  |none=>none
 |none=>none
theorem relo_ok {gs:List Nat}:∀{args:List AV} {i:Nat} {l:List AV} {ks hs:List Nat},(∀a∈args,a.Ok gs.length)->relo args i=some (l,ks)->hs.length=i->l.map (AV.den (hs++ks.map fun k=>gs.getD k 0))=args.map (AV.den gs)/\(∀a∈l,a.Ok (i+ks.length))
 |[],i,l,ks,hs,_,h,_=>by
  injection h with h
  injection h with h1 h2
  subst h1 h2
  exact⟨rfl,by simp⟩
 |.ptr k off :: r,i,l,ks,hs,ho,h,hi=>by
  rw[relo] at h
  split at h
  ·rename_i l' ks' h1
   injection h with h
   injection h with e1 e2
   subst e1 e2
   obtain⟨a1,a2⟩:=relo_ok (gs:=gs) (hs:=hs++[gs.getD k 0]) (fun a ha=>ho a (List.mem_cons_of_mem _ ha)) h1 (by simp[hi])
   rw[List.append_assoc] at a1
   refine⟨?_,fun a ha=>?_⟩
   ·have:(AV.ptr i off).den (hs++(k :: ks').map fun k=>gs.getD k 0)=(AV.ptr k off).den gs:=by
     subst hi
     simp[AV.den,List.getD]
    show (AV.ptr i off).den _ :: l'.map _=_ :: _
    rw[this]
    exact congrArg _ a1
   ·rcases List.mem_cons.1 ha with rfl|ha
    ·show i<i+(k :: ks').length
     simp
    ·have:=a2 a ha
     rwa [List.length_cons,show i+(ks'.length+1)=i+1+ks'.length by omega]
  ·cases h
 |.slc k off n c :: r,i,l,ks,hs,ho,h,hi=>by
  rw[relo] at h
  split at h
  ·rename_i l' ks' h1
   injection h with h
   injection h with e1 e2
   subst e1 e2
   obtain⟨a1,a2⟩:=relo_ok (gs:=gs) (hs:=hs++[gs.getD k 0]) (fun a ha=>ho a (List.mem_cons_of_mem _ ha)) h1 (by simp[hi])
   rw[List.append_assoc] at a1
   refine⟨?_,fun a ha=>?_⟩
   ·have:(AV.slc i off n c).den (hs++(k :: ks').map fun k=>gs.getD k 0)=(AV.slc k off n c).den gs:=by
     subst hi
     simp[AV.den,List.getD]
    show (AV.slc i off n c).den _ :: l'.map _=_ :: _
    rw[this]
    exact congrArg _ a1
   ·rcases List.mem_cons.1 ha with rfl|ha
    ·show i<i+(k :: ks').length
     simp
    ·have:=a2 a ha
     rwa [List.length_cons,show i+(ks'.length+1)=i+1+ks'.length by omega]
  ·cases h
 |.agg w :: r,i,l,ks,hs,ho,h,hi=>by
  rw[relo] at h
  split at h
  ·rename_i l' ks' h1
   injection h with h
   injection h with e1 e2
   subst e1 e2
   obtain⟨a1,a2⟩:=relo_ok (gs:=gs) (hs:=hs) (fun a ha=>ho a (List.mem_cons_of_mem _ ha)) h1 hi
   refine⟨by rw[List.map_cons,List.map_cons,a1];rfl,fun a ha=>?_⟩
   rcases List.mem_cons.1 ha with rfl|ha
   ·exact ho (.agg w) (by simp)
   ·exact a2 a ha
  ·cases h
 |.val w :: r,i,l,ks,hs,ho,h,hi=>by
  rw[relo] at h
  split at h
  ·rename_i l' ks' h1
   injection h with h
   injection h with e1 e2
   subst e1 e2
   obtain⟨a1,a2⟩:=relo_ok (gs:=gs) (hs:=hs) (fun a ha=>ho a (List.mem_cons_of_mem _ ha)) h1 hi
   refine⟨by rw[List.map_cons,List.map_cons,a1];rfl,fun a ha=>?_⟩
   rcases List.mem_cons.1 ha with rfl|ha
   ·trivial
   ·exact a2 a ha
  ·cases h
 |.num k x :: r,i,l,ks,hs,ho,h,hi=>by
  rw[relo] at h
  split at h
  ·rename_i l' ks' h1
   injection h with h
   injection h with e1 e2
   subst e1 e2
   obtain⟨a1,a2⟩:=relo_ok (gs:=gs) (hs:=hs) (fun a ha=>ho a (List.mem_cons_of_mem _ ha)) h1 hi
   refine⟨by rw[List.map_cons,List.map_cons,a1];rfl,fun a ha=>?_⟩
   rcases List.mem_cons.1 ha with rfl|ha
   ·exact ho (.num k x) (by simp)
   ·exact a2 a ha
  ·cases h
 |.bl b :: r,i,l,ks,hs,ho,h,hi=>by
  rw[relo] at h
  split at h
  ·rename_i l' ks' h1
   injection h with h
   injection h with e1 e2
   subst e1 e2
   obtain⟨a1,a2⟩:=relo_ok (gs:=gs) (hs:=hs) (fun a ha=>ho a (List.mem_cons_of_mem _ ha)) h1 hi
   refine⟨by rw[List.map_cons,List.map_cons,a1];rfl,fun a ha=>?_⟩
   rcases List.mem_cons.1 ha with rfl|ha
   ·trivial
   ·exact a2 a ha
  ·cases h
 |.ext A n c x :: r,i,l,ks,hs,ho,h,hi=>by
  rw[relo] at h
  split at h
  ·rename_i l' ks' h1
   injection h with h
   injection h with e1 e2
   subst e1 e2
   obtain⟨a1,a2⟩:=relo_ok (gs:=gs) (hs:=hs) (fun a ha=>ho a (List.mem_cons_of_mem _ ha)) h1 hi
   refine⟨by rw[List.map_cons,List.map_cons,a1];rfl,fun a ha=>?_⟩
   rcases List.mem_cons.1 ha with rfl|ha
   ·exact ho (.ext A n c x) (by simp)
   ·exact a2 a ha
  ·cases h
 |.xr A n c x :: r,i,l,ks,hs,ho,h,hi=>by
  rw[relo] at h
  split at h
  ·rename_i l' ks' h1
   injection h with h
   injection h with e1 e2
   subst e1 e2
   obtain⟨a1,a2⟩:=relo_ok (gs:=gs) (hs:=hs) (fun a ha=>ho a (List.mem_cons_of_mem _ ha)) h1 hi
   refine⟨by rw[List.map_cons,List.map_cons,a1];rfl,fun a ha=>?_⟩
   rcases List.mem_cons.1 ha with rfl|ha
   ·exact ho (.xr A n c x) (by simp)
   ·exact a2 a ha
  ·cases h
 |.fn f caps :: r,i,l,ks,hs,ho,h,hi=>by
  rw[relo] at h
  split at h
  ·rename_i l' ks' h1
   injection h with h
   injection h with e1 e2
   subst e1 e2
   obtain⟨a1,a2⟩:=relo_ok (gs:=gs) (hs:=hs++caps.map fun k=>gs.getD k 0) (fun a ha=>ho a (List.mem_cons_of_mem _ ha)) h1 (by simp[hi])
   rw[List.append_assoc,<-List.map_append] at a1
   refine⟨?_,fun a ha=>?_⟩
   ·have hr:(List.range' i caps.length).map (fun k=>Value.pointer (some ⟨(hs++(caps++ks').map fun k=>gs.getD k 0).getD k 0,0,none⟩))=caps.map (fun k=>Value.pointer (some ⟨gs.getD k 0,0,none⟩)):=by
     refine List.ext_getElem (by simp) fun j h2 h3=>?_
     have hj:j<caps.length:=by simpa using h3
     simp only[List.getElem_map,List.getElem_range',Nat.one_mul,List.getD]
     subst hi
     rw[List.getElem?_append_right (Nat.le_add_right _ _),Nat.add_sub_cancel_left,List.map_append,List.getElem?_append_left (by simpa using hj),List.getElem?_map,List.getElem?_eq_getElem hj]
     rfl
    show (AV.fn f (List.range' i caps.length)).den _ :: l'.map _=(AV.fn f caps).den gs :: _
    rw[show (AV.fn f (List.range' i caps.length)).den (hs++(caps++ks').map fun k=>gs.getD k 0)=(AV.fn f caps).den gs from by
     show Value.func _ _ _=Value.func _ _ _
     rw[hr]]
    exact congrArg _ a1
   ·rcases List.mem_cons.1 ha with rfl|ha
    ·intro k hk
     have:=List.mem_range'_1.1 hk
     rw[List.length_append]
     omega
    ·have:=a2 a ha
     rwa [List.length_append,<-Nat.add_assoc]
  ·cases h
 |.tup _ :: _,_,_,_,_,_,h,_=>by cases h
 |.unk :: _,_,_,_,_,_,h,_=>by cases h
 |.ptrS _ _ :: _,_,_,_,_,_,h,_=>by cases h
 |.extp _ _ _ _ :: _,_,_,_,_,_,h,_=>by cases h
 |.xp _ _ _ :: _,_,_,_,_,_,h,_=>by cases h
theorem bks_ok {bl:Nat->Option Bk}:∀{ks:List Nat} {bs:List Bk},bks bl ks=some bs->bs.length=ks.length/\∀(i:Nat) (b:Bk),bs[i]? = some b->∃k,ks[i]? = some k/\bl k=some b
 |[],bs,h=>by
  obtain rfl:=Option.some.inj h
  exact⟨rfl,fun i b h=>by simp at h⟩
 |k :: ks,bs,h=>by
  unfold bks at h
  split at h
  ·rename_i b l h1 h2
   obtain rfl:=Option.some.inj h
   obtain⟨a1,a2⟩:=bks_ok h2
   refine⟨by simp[a1],fun i c hc=>?_⟩
   cases i with
   |zero=>
    obtain rfl:b=c:=by simpa using hc
    exact⟨k,rfl,h1⟩
   |succ i=>exact a2 i c (by simpa using hc)
  ·cases h
theorem plain_den {v:AV}(h:plain v=true)(gs gs':List Nat):v.den gs=v.den gs':=by cases v<;>first|rfl|cases h
theorem EOk.inline {N:Nat}(hC:CxOk P C G)(hk:∀{u v:World},G u->RowKit.Below u.heap.size u v->G v)(hf:P.funcs[F]? = some fn)(hb:fn.body.isNone=false)(hn:(fn.name == "runtime.NumGoroutine")=false):EOk P G F (entI F C N):=by
 refine⟨enter_of hf hb hn,fun bl args v gs he ho w hG hB=>?_⟩
 unfold entI at he
 rw[hf] at he
 simp only at he
 split at he
 ·rename_i l ks h1
  split at he
  ·rename_i bs h2
   split at he
   ·rename_i v' h3
    split at he
    ·rename_i hp
     obtain rfl:=Option.some.inj he
     obtain⟨a1,a2⟩:=relo_ok (gs:=gs) (hs:=[]) ho h1 rfl
     obtain⟨b1,b2⟩:=bks_ok h2
     rw[List.nil_append] at a1
     have hlen:(ks.map fun k=>gs.getD k 0).length=bs.length:=by simp[b1]
     have hc:=fn_ok (gs:=ks.map fun k=>gs.getD k 0) (w:=w) hC hf h3 trivial hlen rfl (fun a ha=>by
      have:=a2 a ha
      rw[Nat.zero_add] at this
      rw[List.length_map]
      exact this) (fun u hu=>hk hG hu) (fun i t r hi=>by
      obtain⟨k,hk1,hk2⟩:=b2 i (t,r) hi
      have:(ks.map fun k=>gs.getD k 0).getD i 0=gs.getD k 0:=by simp[List.getD,hk1]
      rw[this]
      exact hB k t r hk2)
     have hc:Calls P F ((l.map (AV.den (ks.map fun k=>gs.getD k 0))).toArray) w fun e w'=>e=.returned (v'.den (ks.map fun k=>gs.getD k 0))/\(∀n,v'.Ok n)/\RowKit.Below w.heap.size w w':=hc.mono fun e w' h=>by
      obtain⟨u,hu,r⟩:=h
      obtain rfl:u=v':=by simpa using hu
      exact r
     obtain⟨_,_,_,hr,_⟩:=hc []
     refine⟨hr.2.1 _,?_⟩
     rw[<-a1,plain_den hp gs (ks.map fun k=>gs.getD k 0)]
     exact hc.mono fun e w' h=>⟨h.1,h.2.2⟩
    ·cases he
   ·cases he
  ·cases he
 ·cases he
def outV:AV->Option AV
 |.agg r=>match mg r with
  |some (k,xs)=>some (.agg [.nums k xs])
  |none=>some (.agg r)
 |v=>some v
def outL:List AV->Option (List AV)
 |[]=>some []
 |v :: l=>match outV v,outL l with
  |some u,some r=>some (u :: r)
  |_,_=>none
def outW (r:Option (List AV×List Ob)):Option (List AV×List Ob):=match r with
 |some (l,obs)=>match outL l with
  |some vs=>some (vs,obs)
  |none=>none
 |none=>none
theorem outV_den {v u:AV}{gs:List Nat}(h:outV v=some u)(ho:∀n,v.Ok n):u.den gs=v.den gs:=by
 cases v with
 |agg r=>
  simp only[outV] at h
  split at h
  ·rename_i k xs hm
   obtain rfl:=Option.some.inj h
   rw[den_nums,(agg_vals (ho 0) hm).1]
  ·obtain rfl:=Option.some.inj h
   rfl
 |_=>obtain rfl:=Option.some.inj h;rfl
theorem outL_ok {v:AV}:∀{vs:List AV} {n:Nat},outL vs=some (List.replicate n v)->∀u∈vs,outV u=some v
 |[],_,_,u,hu=>by cases hu
 |x :: r,n,h,u,hu=>by
  rw[outL] at h
  split at h
  ·rename_i a b h1 h2
   injection h with h
   cases n with
   |zero=>cases h
   |succ n=>
    rw[List.replicate_succ] at h
    injection h with e1 e2
    subst e1 e2
    rcases List.mem_cons.1 hu with rfl|hu
    ·exact h1
    ·exact outL_ok h2 u hu
  ·cases h
theorem At.ofk (hC:CxOk P C G)(hk:∀{u v:World},G u->RowKit.Below u.heap.size u v->G v)(hf:P.funcs[F]? = some fn){l:List (List Int)}{v zs:AV}{obs:List Ob}(N:Nat)(q:List Bool)(hl:Nms ns l)(k:Nat)
  (hN:∀n,v.Ok n) (hp:plain v=true) (hz:zs=v) (hH:Holds obs) (he:outW (evalF P C 0 N fn (avs ns l) [] q)=some (List.replicate (k+1) zs,obs)):At P G F l v:=by
 rw[hz] at he
 obtain⟨d1,o1⟩:=avs_den (gs:=[]) hl
 refine⟨hN,fun gs=>plain_den hp _ _,fun w hG=>?_⟩
 unfold outW at he
 split at he
 ·rename_i vs obs' h1
  split at he
  ·rename_i us h2
   injection he with he
   injection he with ea eb
   subst ea eb
   have:=fn_ok (gs:=[]) (w:=w) hC hf h1 hH rfl rfl o1 (fun u hu=>hk hG hu) (fun k t r h=>by simp at h)
   rw[d1] at this
   exact this.mono fun e w' ⟨u,hu,g1,g2,g3⟩=>⟨by rw[g1,outV_den (outL_ok h2 u hu) g2],g3⟩
  ·cases he
 ·cases he
theorem At.of (hC:CxOk P C G)(hk:∀{u v:World},G u->RowKit.Below u.heap.size u v->G v)(hf:P.funcs[F]? = some fn){l:List (List Int)}{v zs:AV}{obs:List Ob}(N:Nat)(q:List Bool)(hl:Nms ns l)
  (hN:∀n,v.Ok n) (hp:plain v=true) (hz:zs=v) (hH:Holds obs) (he:outW (evalF P C 0 N fn (avs ns l) [] q)=some ([zs],obs)):At P G F l v:=.ofk hC hk hf N q hl 0 hN hp hz hH he
theorem Con.of (hC:CxOk P C G)(hk:∀{u v:World},G u->RowKit.Below u.heap.size u v->G v)(hf:P.funcs[F]? = some fn){f:List (List Int)->AV}{zs:List (List Int)->AV}{obs:List (List Int)->List Ob}(N:Nat)(q:List Bool)
  (hN:∀l,Nms ns l->∀n,(f l).Ok n) (hp:∀l,Nms ns l->plain (f l)=true) (hz:∀l,Nms ns l->zs l=f l/\Holds (obs l)) (he:∀l,Nms ns l->outW (evalF P C 0 N fn (avs ns l) [] q)=some ([zs l],obs l)):Con P G F ns f:=fun l hl=>
 .of hC hk hf N q hl (hN l hl) (hp l hl) (hz l hl).1 (hz l hl).2 (he l hl)
end
theorem ht {x y:List Int}{l:List Ob}(h:x=y)(r:Holds l):Holds (qb true (x=y) :: l):=⟨h,r⟩
theorem hf {x y:List Int}{l:List Ob}(h:x≠y)(r:Holds l):Holds (qb false (x=y) :: l):=⟨h,r⟩
theorem hp {p:Prop}{l:List Ob}(h:p)(r:Holds l):Holds (p :: l):=⟨h,r⟩
def f0 (v:AV):List (List Int)->AV:=fun _=>v
def f1 (f:List Int->AV):List (List Int)->AV
 |[x]=>f x
 |_=>.val undef
def f2 (f:List Int->List Int->AV):List (List Int)->AV
 |[x,y]=>f x y
 |_=>.val undef
def f3 (f:List Int->List Int->List Int->AV):List (List Int)->AV
 |[x,y,z]=>f x y z
 |_=>.val undef
abbrev W (n:Nat)(xs:List Int):AV:=.agg [.nums n xs]
section
variable {P:Program} {C:Cx} {G:World->Prop} {F:FuncId} {fn:Func} {n n1 n2 n3:Nat}
theorem w_ok {xs:List Int}(h:Nm n xs)(k:Nat):(W n xs).Ok k:=⟨h,trivial⟩
theorem w_den {xs:List Int}{gs:List Nat}:(W n xs).den gs=.agg (vals .u64 xs):=den_nums
theorem Con.of0 (hC:CxOk P C G)(hk:∀{u v:World},G u->RowKit.Below u.heap.size u v->G v)(hf:P.funcs[F]? = some fn)(N:Nat)(q:List Bool){v zs:AV}{obs:List Ob}(hN:∀k,v.Ok k)(hp:plain v=true)(hz:zs=v/\Holds obs)(he:outW (evalF P C 0 N fn [] [] q)=some ([zs],obs)):Con P G F [] (f0 v):=
 Con.of hC hk hf (zs:=fun _=>zs) (obs:=fun _=>obs) N q (fun l h k=>hN k) (fun l h=>hp) (fun l h=>hz) (fun l h=>he)
theorem Con.of1 (hC:CxOk P C G)(hk:∀{u v:World},G u->RowKit.Below u.heap.size u v->G v)(hf:P.funcs[F]? = some fn)(N:Nat)(q:List Bool){f zs:List Int->AV}{obs:List Int->List Ob}(hN:∀x,Nm n1 x->∀k,(f x).Ok k)(hp:∀x,plain (f x)=true)(hz:∀x,Nm n1 x->zs x=f x/\Holds (obs x))(he:∀x,outW (evalF P C 0 N fn [W n1 x] [] q)=some ([zs x],obs x)):Con P G F [n1] (f1 f):=by
 refine Con.of hC hk hf (zs:=f1 zs) (obs:=fun l=>match l with | [x]=>obs x|_=>[]) N q (fun l h=>?_) (fun l h=>?_) (fun l h=>?_) (fun l h=>?_)
 all_goals
  obtain⟨x,rfl⟩:∃x,l=[x]:=by
   match l,h with
   |[x],_=>exact⟨x,rfl⟩
 ·exact hN x h.1
 ·exact hp x
 ·exact hz x h.1
 ·exact he x
theorem Con.of2 (hC:CxOk P C G)(hk:∀{u v:World},G u->RowKit.Below u.heap.size u v->G v)(hf:P.funcs[F]? = some fn)(N:Nat)(q:List Bool){f zs:List Int->List Int->AV}{obs:List Int->List Int->List Ob}(hN:∀x y,Nm n1 x->Nm n2 y->∀k,(f x y).Ok k)(hp:∀x y,plain (f x y)=true)(hz:∀x y,Nm n1 x->Nm n2 y->zs x y=f x y/\Holds (obs x y))(he:∀x y,outW (evalF P C 0 N fn [W n1 x,W n2 y] [] q)=some ([zs x y],obs x y)):Con P G F [n1,n2] (f2 f):=by
 refine Con.of hC hk hf (zs:=f2 zs) (obs:=fun l=>match l with | [x,y]=>obs x y|_=>[]) N q (fun l h=>?_) (fun l h=>?_) (fun l h=>?_) (fun l h=>?_)
 all_goals
  obtain⟨x,y,rfl⟩:∃x y,l=[x,y]:=by
   match l,h with
   |[x,y],_=>exact⟨x,y,rfl⟩
 ·exact hN x y h.1 h.2.1
 ·exact hp x y
 ·exact hz x y h.1 h.2.1
 ·exact he x y
end
section
variable {P:Program} {C:Cx} {G:World->Prop} {F:FuncId} {fn:Func} {n n1 n2 n3:Nat}
theorem Con.w1 (hC:CxOk P C G)(hk:∀{u v:World},G u->RowKit.Below u.heap.size u v->G v)(hf:P.funcs[F]? = some fn)(N:Nat){f zs:List Int->List Int}(hN:∀x,Nm n1 x->Nm n (f x))(hz:∀x,Nm n1 x->zs x=f x)(he:∀x,outW (evalF P C 0 N fn [W n1 x] [] [])=some ([W n (zs x)],[])):Con P G F [n1] (f1 fun x=>W n (f x)):=
 .of1 hC hk hf N [] (zs:=fun x=>W n (zs x)) (obs:=fun _=>[]) (fun x h=>w_ok (hN x h)) (fun x=>rfl) (fun x h=>⟨by rw[hz x h],trivial⟩) he
theorem Con.w2 (hC:CxOk P C G)(hk:∀{u v:World},G u->RowKit.Below u.heap.size u v->G v)(hf:P.funcs[F]? = some fn)(N:Nat){f zs:List Int->List Int->List Int}(hN:∀x y,Nm n1 x->Nm n2 y->Nm n (f x y))(hz:∀x y,Nm n1 x->Nm n2 y->zs x y=f x y)(he:∀x y,outW (evalF P C 0 N fn [W n1 x,W n2 y] [] [])=some ([W n (zs x y)],[])):Con P G F [n1,n2] (f2 fun x y=>W n (f x y)):=
 .of2 hC hk hf N [] (zs:=fun x y=>W n (zs x y)) (obs:=fun _ _=>[]) (fun x y h k=>w_ok (hN x y h k)) (fun x y=>rfl) (fun x y h k=>⟨by rw[hz x y h k],trivial⟩) he
end
section
variable {P:Program} {G:World->Prop} {F:FuncId} {n n1 n2 n3:Nat}
theorem Con.un {f:List Int->List Int}(hN:∀x,Nm n1 x->Nm n (f x))(h:∀x,Nm n1 x->∀w,G w->Calls P F #[.agg (vals .u64 x)] w fun e w'=>e=.returned (.agg (vals .u64 (f x)))/\RowKit.Below w.heap.size w w'):Con P G F [n1] (f1 fun x=>W n (f x)):=by
 intro l hl
 match l,hl with
 |[x],hx=>
  refine⟨fun k=>w_ok (hN x hx.1) k,fun gs=>by rw[f1,w_den,w_den],fun w hG=>?_⟩
  rw[f1,w_den]
  exact h x hx.1 w hG
theorem Con.bi {f:List Int->List Int->List Int}(hN:∀x y,Nm n1 x->Nm n2 y->Nm n (f x y))(h:∀x,Nm n1 x->∀y,Nm n2 y->∀w,G w->Calls P F #[.agg (vals .u64 x),.agg (vals .u64 y)] w fun e w'=>e=.returned (.agg (vals .u64 (f x y)))/\RowKit.Below w.heap.size w w'):Con P G F [n1,n2] (f2 fun x y=>W n (f x y)):=by
 intro l hl
 match l,hl with
 |[x,y],hx=>
  refine⟨fun k=>w_ok (hN x y hx.1 hx.2.1) k,fun gs=>by rw[f2,w_den,w_den],fun w hG=>?_⟩
  rw[f2,w_den]
  exact h x hx.1 y hx.2.1 w hG
theorem Con.c2 {f:List Int->List Int->AV}(h:Con P G F [n1,n2] (f2 f)){x y:List Int}(hx:Nm n1 x)(hy:Nm n2 y)(w:World)(hG:G w):Calls P F #[.agg (vals .u64 x),.agg (vals .u64 y)] w fun e w'=>e=.returned ((f x y).den [])/\RowKit.Below w.heap.size w w':=(h [x,y] ⟨hx,hy,trivial⟩).2.2 w hG
end
end Sx
namespace Sx
open Go Go.RowKit Reg Limb Fp2
structure St where
 sl:List AV
 bs:List Bk
def wk1:AV->AV->Option (List Prop)
 |_,.unk=>some []
 |.ptr k o,.ptr k' o'=>if k=k'/\o=o' then some [] else none
 |.num k x,.num k' y=>if k=k' then some [x=y] else none
 |.val (.int k x),.num k' y=>if k=k'/\k=.i64 then some [x=y] else none
 |.ext A n c l,.ext A' n' c' l'=>some [A=A'/\n=n'/\c=c'/\l=l']
 |.agg r,.agg s=>match mg r,mg s with
  |some (k,xs),some (k',ys)=>if k=k' then some [xs=ys/\s=[.nums k' ys]] else none
  |_,_=>some [r=s]
 |x,y=>some [x=y]
def app2:Option (List Prop)->Option (List Prop)->Option (List Prop)
 |some a,some b=>some (a++b)
 |_,_=>none
def wkS:List AV->List AV->Option (List Prop)
 |[],[]=>some []
 |x :: r,y :: s=>app2 (wk1 x y) (wkS r s)
 |_,_=>none
def wkR (r s:Row):Option (List Prop):=match mg r,s with
 |some (k,xs),[.nums k' ys]=>if k=k' then some [xs=ys] else none
 |_,_=>some [r=s]
def wkB:List Bk->List Bk->Option (List Prop)
 |_,[]=>some []
 |b :: r,c :: s=>if b.1=c.1 then app2 (wkR b.2 c.2) (wkB r s) else none
 |[],_ :: _=>none
def inB (n:Nat):AV->Bool
 |.ptr k _ | .slc k _ _ _ | .ptrS k _=>Nat.blt k n
 |.fn _ caps=>caps.all (Nat.blt · n)
 |_=>true
def inR (n:Nat)(b:Bk):Bool:=match fnr b.2 with
 |some (_,caps)=>caps.all (Nat.blt · n)
 |none=>true
def St.good (m:Nat)(s:St):Bool:=s.sl.all (inB s.bs.length)&&Nat.ble m s.bs.length&&s.bs.all (inR s.bs.length)
theorem app2_ok {a b:Option (List Prop)}{l:List Prop}(h:app2 a b=some l)(hH:Holds l):∃x y,a=some x/\b=some y/\Holds x/\Holds y:=by
 unfold app2 at h
 split at h
 ·obtain rfl:=Option.some.inj h
  exact⟨_,_,rfl,rfl,(holds_app hH).1,(holds_app hH).2⟩
 ·cases h
theorem wk1_ok {x y:AV}{l:List Prop}(h:wk1 x y=some l)(hH:Holds l)(hy:y≠.unk){gs:List Nat}{n:Nat}(ho:x.Ok n):x≠.unk/\x.den gs=y.den gs/\y.Ok n:=by
 unfold wk1 at h
 split at h
 ·exact absurd rfl hy
 ·split at h
  ·rename_i hc
   obtain⟨rfl,rfl⟩:=hc
   exact⟨by simp,rfl,ho⟩
  ·cases h
 ·split at h
  ·rename_i hc
   subst hc
   obtain rfl:=Option.some.inj h
   obtain rfl:=hH.1
   exact⟨by simp,rfl,ho⟩
  ·cases h
 ·split at h
  ·rename_i hc
   obtain⟨rfl,rfl⟩:=hc
   obtain rfl:=Option.some.inj h
   obtain rfl:=hH.1
   exact⟨by simp,rfl,trivial⟩
  ·cases h
 ·obtain rfl:=Option.some.inj h
  obtain⟨rfl,rfl,rfl,rfl⟩:=hH.1
  exact⟨by simp,rfl,trivial⟩
 ·split at h
  ·rename_i r s k xs k' ys h1 h2
   split at h
   ·rename_i hc
    subst hc
    obtain rfl:=Option.some.inj h
    obtain⟨⟨rfl,e⟩,_⟩:=hH
    obtain⟨n1,d1⟩:=mg_ok ho h1
    subst e
    exact⟨by simp,by simp[AV.den,d1,den,Sg.den],n1,trivial⟩
   ·cases h
  ·obtain rfl:=Option.some.inj h
   obtain rfl:=hH.1
   exact⟨by simp,rfl,ho⟩
 ·obtain rfl:=Option.some.inj h
  obtain rfl:=hH.1
  exact⟨hy,rfl,ho⟩
theorem wkS_ok {gs:List Nat}{n:Nat}:∀{sl sl':List AV} {l:List Prop},wkS sl sl'=some l->Holds l->SOk n sl->sl.length=sl'.length/\∀(i:Nat) (y:AV),sl'[i]? = some y->y≠.unk->∃x,sl[i]? = some x/\x≠.unk/\x.den gs=y.den gs/\y.Ok n
 |[],[],_,_,_,_=>⟨rfl,fun i y h=>by simp at h⟩
 |x :: r,y :: s,l,h,hH,ho=>by
  obtain⟨a,b,h1,h2,ha,hb⟩:=app2_ok h hH
  obtain⟨e1,e2⟩:=wkS_ok h2 hb (fun v hv=>ho v (List.mem_cons_of_mem _ hv))
  refine⟨by simp[e1],fun i z hz hu=>?_⟩
  cases i with
  |zero=>
   obtain rfl:y=z:=by simpa using hz
   obtain⟨c1,c2,c3⟩:=wk1_ok (gs:=gs) h1 ha hu (ho x (by simp))
   exact⟨x,rfl,c1,c2,c3⟩
  |succ i=>exact e2 i z (by simpa using hz) hu
 |[],_ :: _,_,h,_,_=>by cases h
 |_ :: _,[],_,h,_,_=>by cases h
theorem wkR_ok0 {r s:Row}{l:List Prop}(h:wkR r s=some l)(hH:Holds l)(ho:Ok r):den r=den s/\Ok s:=by
 unfold wkR at h
 split at h
 ·rename_i k xs k' ys h1
  split at h
  ·rename_i hc
   subst hc
   obtain rfl:=Option.some.inj h
   obtain⟨rfl,_⟩:=hH
   obtain⟨n1,d1⟩:=mg_ok ho h1
   exact⟨by simp[d1,den,Sg.den],n1,trivial⟩
  ·cases h
 ·obtain rfl:=Option.some.inj h
  obtain⟨rfl,_⟩:=hH
  exact⟨rfl,ho⟩
theorem wkR_ok {gs:List Nat}{n:Nat}{r s:Row}{l:List Prop}(h:wkR r s=some l)(hH:Holds l)(ho:OkB n r):denB gs r=denB gs s/\OkB n s:=by
 cases hf:fnr r with
 |none=>
  rw[OkB,hf] at ho
  obtain⟨h1,h2⟩:=wkR_ok0 h hH ho
  rw[denB_ok ho,denB_ok h2]
  exact⟨h1,okB_ok h2⟩
 |some x=>
  obtain⟨F,caps⟩:=x
  obtain rfl:=fnr_some hf
  unfold wkR at h
  split at h
  ·rename_i h1
   cases h1
  ·obtain rfl:=Option.some.inj h
   obtain⟨rfl,_⟩:=hH
   exact⟨rfl,ho⟩
theorem wkB_ok {gs:List Nat}{n:Nat}:∀{bs bs':List Bk} {l:List Prop},wkB bs bs'=some l->Holds l->(∀b∈bs,OkB n b.2)->bs'.length<=bs.length/\∀(i:Nat) (t:TypeId) (s:Row),bs'[i]? = some (t,s)->∃r,bs[i]? = some (t,r)/\denB gs r=denB gs s/\OkB n s
 |_,[],_,_,_,_=>⟨Nat.zero_le _,fun i t s h=>by simp at h⟩
 |b :: r,c :: s,l,h,hH,ho=>by
  unfold wkB at h
  split at h
  ·rename_i hc
   obtain⟨a,b',h1,h2,ha,hb⟩:=app2_ok h hH
   obtain⟨e1,e2⟩:=wkB_ok h2 hb (fun v hv=>ho v (List.mem_cons_of_mem _ hv))
   refine⟨by simp[e1],fun i t u hz=>?_⟩
   cases i with
   |zero=>
    obtain rfl:c=(t,u):=by simpa using hz
    obtain⟨c1,c2⟩:=wkR_ok (gs:=gs) h1 ha (ho b (by simp))
    refine⟨b.2,?_,c1,c2⟩
    rw[List.getElem?_cons_zero]
    exact congrArg some (Prod.ext hc rfl)
   |succ i=>exact e2 i t u (by simpa using hz)
  ·cases h
 |[],_ :: _,_,h,_,_=>by cases h
section
variable {S m N:Nat} {w x y u:World} {gs:List Nat} {bs:List Bk} {sl:List AV} {G:World->Prop} {P:Program} {C:Cx} {a:Act}
theorem take_getD {gs:List Nat}{n k:Nat}(h:k<n):(gs.take n).getD k 0=gs.getD k 0:=by
 simp[List.getD,List.getElem?_take_of_lt h]
theorem den_take {n:Nat}{y:AV}(h:inB n y=true):y.den (gs.take n)=y.den gs/\∀k,y.Ok k->y.Ok n:=by
 cases y with
 |ptr k off=>
  have hk:k<n:=Nat.le_of_ble_eq_true h
  exact⟨by simp only[AV.den,take_getD hk],fun _ _=>hk⟩
 |slc k off l c=>
  have hk:k<n:=Nat.le_of_ble_eq_true h
  exact⟨by simp only[AV.den,take_getD hk],fun _ _=>hk⟩
 |ptrS k off=>
  have hk:k<n:=Nat.le_of_ble_eq_true h
  exact⟨by simp only[AV.den,take_getD hk],fun _ _=>hk⟩
 |fn f caps=>
  have hk:∀k∈caps,k<n:=fun k hk=>Nat.le_of_ble_eq_true (List.all_eq_true.1 h k hk)
  refine⟨?_,fun _ _=>hk⟩
  simp only[AV.den]
  congr 2
  exact List.map_congr_left fun k hk'=>by rw[take_getD (hk k hk')]
 |_=>exact⟨rfl,fun _ h=>h⟩
theorem weak_ok {s:St}{l1 l2:List Prop}(h:Sl gs sl a)(ho:SOk gs.length sl)(H:Wd S w m gs bs x)(h1:wkS sl s.sl=some l1)(h2:wkB bs s.bs=some l2)(hH1:Holds l1)(hH2:Holds l2)(hg:s.good m=true) :
  Sl (gs.take s.bs.length) s.sl a/\SOk (gs.take s.bs.length).length s.sl/\m<=(gs.take s.bs.length).length/\Wd S w m (gs.take s.bs.length) s.bs x:=by
 obtain⟨e1,e2⟩:=wkS_ok (gs:=gs) h1 hH1 ho
 have hob:∀b∈bs,OkB gs.length b.2:=fun b hb=>by
  obtain⟨i,hi⟩:=List.mem_iff_getElem?.1 hb
  exact (H.has i b.1 b.2 hi).2
 obtain⟨b1,b2⟩:=wkB_ok (gs:=gs) h2 hH2 hob
 simp only[St.good,Bool.and_eq_true] at hg
 obtain⟨⟨g1,g2⟩,g3⟩:=hg
 have hm:m<=s.bs.length:=Nat.le_of_ble_eq_true g2
 have hlen:(gs.take s.bs.length).length=s.bs.length:=by rw[List.length_take,H.len];omega
 have hin:∀i y,s.sl[i]? = some y->inB s.bs.length y=true:=fun i y hy=>List.all_eq_true.1 g1 y (List.mem_of_getElem? hy)
 refine⟨⟨h.1.trans e1,fun i y hy hu=>?_⟩,fun y hy=>?_,by omega,H.bel,H.sz,hlen,fun k t r hk=>?_,fun k hk hk'=>?_,fun j k hj hk hmj hkj=>?_⟩
 ·obtain⟨z,z1,z2,z3,_⟩:=e2 i y hy hu
  rw[(den_take (hin i y hy)).1,<-z3]
  exact h.2 i z z1 z2
 ·obtain⟨i,hi⟩:=List.mem_iff_getElem?.1 hy
  by_cases hu:y=.unk
  ·subst hu;trivial
  ·obtain⟨z,z1,z2,z3,z4⟩:=e2 i y hi hu
   rw[hlen]
   exact (den_take (gs:=gs) (hin i y hi)).2 _ z4
 ·obtain⟨r',hr',d,o⟩:=b2 k t r hk
  have hkl:k<s.bs.length:=(List.getElem?_eq_some_iff.1 hk).1
  have o':OkB s.bs.length r:=by
   have:=List.all_eq_true.1 g3 _ (List.mem_of_getElem? hk)
   unfold inR at this
   cases hf:fnr r with
   |none=>
    rw[OkB,hf] at o ⊢
    exact o
   |some x=>
    obtain⟨F,caps⟩:=x
    simp only[hf] at this
    rw[OkB,hf]
    exact fun k hk=>Nat.le_of_ble_eq_true (List.all_eq_true.1 this k hk)
  rw[take_getD hkl,denB_ext (gs:=gs) o' (fun k hk=>take_getD hk),<-d,hlen]
  exact⟨(H.has k t r' hr').1,o'⟩
 ·rw[hlen] at hk'
  rw[take_getD hk']
  exact H.lo k hk (by rw[H.len];omega)
 ·rw[hlen] at hj hk
  rw[take_getD hj,take_getD hk]
  exact H.nd j k (by rw[H.len];omega) (by rw[H.len];omega) hmj hkj
end
def ekB:Ek->Ek->Bool
 |.nrm,.nrm=>true
 |.ret,.ret=>true
 |.ext i,.ext j=>Nat.beq i j
 |_,_=>false
def wkL (e:Ek)(s:St):List O1->Option (List Prop)
 |[]=>some []
 |(sl,bs,_,e') :: r=>if ekB e' e then app2 (app2 (wkS sl s.sl) (wkB bs s.bs)) (wkL e s r) else none
def goesP (r:Option Out)(e:Ek)(s:St):Option (List Prop):=match r with
 |some (l,obs)=>app2 (wkL e s l) (some obs)
 |none=>none
theorem ekB_ok {e e':Ek}(h:ekB e e'=true):e=e':=by
 cases e<;>cases e'<;>first|rfl|cases h|exact congrArg _ (Nat.eq_of_beq_eq_true h)
theorem wkL_ok {e:Ek}{s:St}:∀{l:List O1} {ps:List Prop},wkL e s l=some ps->Holds ps->∀sl bs q e',(sl,bs,q,e')∈l->e'=e/\∃l1 l2,wkS sl s.sl=some l1/\wkB bs s.bs=some l2/\Holds l1/\Holds l2
 |[],_,_,_,sl,bs,q,e',h=>by cases h
 |(sl0,bs0,q0,e0) :: r,ps,h,hH,sl,bs,q,e',hx=>by
  rw[wkL] at h
  split at h
  ·rename_i he
   obtain⟨x,y,h1,h2,hx1,hy1⟩:=app2_ok h hH
   obtain⟨x',y',h3,h4,hx2,hy2⟩:=app2_ok h1 hx1
   rcases List.mem_cons.1 hx with hx|hx
   ·injection hx with a1 hx
    injection hx with a2 hx
    injection hx with a3 a4
    subst a1 a2 a3 a4
    exact⟨ekB_ok he,x',y',h3,h4,hx2,hy2⟩
   ·exact wkL_ok h2 hy1 sl bs q e' hx
  ·cases h
structure Goes (P:Program) (S m:Nat) (w:World) (c:Code) (s:St) (e:Ek) (s':St):Prop where
 go:∀{gs:List Nat} {a:Act} {x:World} {Q:Exit->Act->World->Prop},(∀c a d v w,Q (.panic c) (Act.put a d v) w->Q (.panic c) a w)->Sl gs s.sl a->SOk gs.length s.sl->m<=gs.length->Wd S w m gs s.bs x ->
  (∀gs' a' x',Sl gs' s'.sl a'->SOk gs'.length s'.sl->m<=gs'.length->a'.defers=a.defers->Wd S w m gs' s'.bs x'->Q e.ex a' x')->c.wp P Q a x
section
variable {S m N:Nat} {w:World} {G:World->Prop} {P:Program} {C:Cx}
theorem Does.goes {c:Code}{f:Ev}(hd:Does P S m w c f){s s':St}{e:Ek}(q:List Bool){ps:List Prop}(hg:s'.good m=true)(hH:Holds ps)(he:goesP (f s.sl s.bs q) e s'=some ps):Goes P S m w c s e s':=by
 refine⟨fun {gs a x Q} hQ h ho hm H hK=>?_⟩
 unfold goesP at he
 split at he
 ·rename_i l obs h1
  obtain⟨x1,y1,h2,h3,hx,hy⟩:=app2_ok he hH
  obtain rfl:=Option.some.inj h3
  refine hd.go hQ h1 h ho hm H hy (fun sl2 bs2 q2 e2 hm2 gs' a' x' p1 p2 p3 p4 p5=>?_)
  obtain⟨rfl,l1,l2,w1,w2,w3,w4⟩:=wkL_ok h2 hx sl2 bs2 q2 e2 hm2
  obtain⟨r1,r2,r3,r4⟩:=weak_ok p1 p2 p5 w1 w2 w3 w4 hg
  exact hK _ a' x' r1 r2 r3 p4.defers r4
 ·cases he
def hookEv (s s':St):Ev:=fun sl bs q=>match wkS sl s.sl,wkB bs s.bs with
 |some a,some b=>some ([(s'.sl,s'.bs,q,.nrm)],a++b)
 |_,_=>none
theorem Goes.does {c:Code}{s s':St}(h:Goes P S m w c s .nrm s')(hg:s.good m=true):Does P S m w c (hookEv s s'):=by
 refine⟨fun {sl bs q gs a x Q l obs} hQ he hs ho hm H hH hK=>?_⟩
 unfold hookEv at he
 split at he
 ·rename_i l1 l2 h1 h2
  injection he with he
  injection he with e1 e2
  subst e1 e2
  obtain⟨hx,hy⟩:=holds_app hH
  obtain⟨r1,r2,r3,r4⟩:=weak_ok hs ho H h1 h2 hx hy hg
  exact h.go hQ r1 r2 r3 r4 (fun gs' a' x' p1 p2 p3 p4 p5=>hK _ _ _ _ (List.mem_singleton.2 rfl) gs' a' x' p1 p2 p3 ⟨p4,trivial⟩ p5)
 ·cases he
theorem Goes.loop {c:Code}{id n:Nat}(st:Nat->St){s':St}(hr:∀i,i<n->Goes P S m w c (st i) .nrm (st (i+1)))(hl:Goes P S m w c (st n) (.ext id) s'):Goes P S m w (.block id (.loop c)) (st 0) .nrm s':=by
 refine⟨fun {gs a x Q} hQ h ho hm H hK=>?_⟩
 have hQ':∀c a d v w,Exit.inBlock id Q (.panic c) (Act.put a d v) w->Exit.inBlock id Q (.panic c) a w:=fun c a d v w h=>hQ c a d v w h
 refine wp_block (wp_loop_rounds (n+1) ?_)
 have key:∀k i,i+k=n->∀(gs:List Nat) (b:Act) (y:World),Sl gs (st i).sl b->SOk gs.length (st i).sl->m<=gs.length->b.defers=a.defers->Wd S w m gs (st i).bs y->Code.rounds P c (Exit.inBlock id Q) (k+1) b y:=by
  intro k
  induction k with
  |zero=>
   intro i hi gs b y h1 h2 h3 h4 h5
   obtain rfl:i=n:=by omega
   show c.wp P (Exit.then (Code.rounds P c (Exit.inBlock id Q) 0) (Exit.inBlock id Q)) b y
   refine hl.go (fun c a d v w h=>hQ' c a d v w h) h1 h2 h3 h5 (fun gs' a' x' p1 p2 p3 p4 p5=>?_)
   show if id=id then Q .normal a' x' else Q (.exit id) a' x'
   rw[if_pos rfl]
   exact hK gs' a' x' p1 p2 p3 (p4.trans h4) p5
  |succ k ih=>
   intro i hi gs b y h1 h2 h3 h4 h5
   show c.wp P (Exit.then (Code.rounds P c (Exit.inBlock id Q) (k+1)) (Exit.inBlock id Q)) b y
   exact (hr i (by omega)).go (fun c a d v w h=>hQ' c a d v w h) h1 h2 h3 h5 (fun gs' a' x' p1 p2 p3 p4 p5=>ih (i+1) (by omega) gs' a' x' p1 p2 p3 (p4.trans h4) p5)
 exact key n 0 (by omega) gs a x h ho hm rfl H
end
theorem EOk.mono {P:Program}{G G':World->Prop}{F:FuncId}{e:Ent}(h:EOk P G F e)(hG:∀u,G' u->G u):EOk P G' F e:=⟨h.enter,fun bl args v gs he ho w hw hb=>h.ok bl args v gs he ho w (hG w hw) hb⟩
theorem TOk.mono {P:Program}{G G':World->Prop}(hG:∀u,G' u->G u):∀{T:Tbl},TOk P G T->TOk P G' T
 |[],_=>trivial
 |(F,e) :: T,h=>⟨EOk.mono h.1 hG,TOk.mono hG h.2⟩
theorem EOk2.mono {P:Program}{G G':World->Prop}{F:FuncId}{e:Ent2}(h:EOk2 P G F e)(hG:∀u,G' u->G u):EOk2 P G' F e:=⟨h.enter,fun G2 D R bl args v ps gs h2 hD hR he hH ho w hw hb=>h.ok G2 D R bl args v ps gs (fun u hu=>hG u (h2 u hu)) hD hR he hH ho w hw hb⟩
theorem TOk2.mono {P:Program}{G G':World->Prop}(hG:∀u,G' u->G u):∀{T:List (FuncId×Ent2)},TOk2 P G T->TOk2 P G' T
 |[],_=>trivial
 |(F,e) :: T,h=>⟨EOk2.mono h.1 hG,TOk2.mono hG h.2⟩
theorem EOk3.mono {P:Program}{G G':World->Prop}{F:FuncId}{e:Ent3}(h:EOk3 P G F e)(hG:∀u,G' u->G u):EOk3 P G' F e:=⟨h.enter,fun bl args v t r ps gs he hH ho w hw hb=>h.ok bl args v t r ps gs he hH ho w (hG w hw) hb⟩
theorem TOk3.mono {P:Program}{G G':World->Prop}(hG:∀u,G' u->G u):∀{T:List (FuncId×Ent3)},TOk3 P G T->TOk3 P G' T
 |[],_=>trivial
 |(F,e) :: T,h=>⟨EOk3.mono h.1 hG,TOk3.mono hG h.2⟩
theorem EOk4.mono {P:Program}{G G':World->Prop}{F:FuncId}{e:Ent4}(h:EOk4 P G F e)(hG:∀u,G' u->G u):EOk4 P G' F e:=⟨h.enter,fun he hH ho hg hm H=>h.ok he hH ho (fun u hu=>hG u (hg u hu)) hm H⟩
theorem TOk4.mono {P:Program}{G G':World->Prop}(hG:∀u,G' u->G u):∀{T:List (FuncId×Ent4)},TOk4 P G T->TOk4 P G' T
 |[],_=>trivial
 |(F,e) :: T,h=>⟨EOk4.mono h.1 hG,TOk4.mono hG h.2⟩
abbrev Cx.sym (C:Cx)(D:Option Addr->Nat->List Int->Prop)(H:List (Nat×Ev)):Cx:=⟨C.E,C.T,C.T2,C.T3,true,D,H,C.Gl,C.sg,C.EM,C.R,C.T4⟩
abbrev Cx.more (C:Cx)(T2:List (FuncId×Ent2)):Cx:=⟨C.E,C.T,T2,C.T3,true,C.D,C.H,C.Gl,C.sg,C.EM,C.R,C.T4⟩
theorem CxOk.more {P:Program}{C:Cx}{G:World->Prop}(h:CxOk P C G){T2:List (FuncId×Ent2)}(h2:TOk2 P G T2):CxOk P (C.more T2) G:=⟨⟨h.T,h2,h.T3,h.E,h.mix,h.D,h.gl,h.EM,h.R,h.T4⟩,h.H0⟩
abbrev Cx.made (C:Cx)(T3:List (FuncId×Ent3)):Cx:=⟨C.E,C.T,C.T2,T3,true,C.D,C.H,C.Gl,C.sg,C.EM,C.R,C.T4⟩
theorem CxOk.made {P:Program}{C:Cx}{G:World->Prop}(h:CxOk P C G){T3:List (FuncId×Ent3)}(h3:TOk3 P G T3):CxOk P (C.made T3) G:=⟨⟨h.T,h.T2,h3,h.E,h.mix,h.D,h.gl,h.EM,h.R,h.T4⟩,h.H0⟩
abbrev Cx.glob (C:Cx)(Gl:List (Nat×Row)):Cx:=⟨C.E,C.T,C.T2,C.T3,C.sy,C.D,C.H,Gl,C.sg,C.EM,C.R,C.T4⟩
theorem CxOk.glob {P:Program}{C:Cx}{G:World->Prop}(h:CxOk P C G){Gl:List (Nat×Row)}(hg:GlOk G Gl):CxOk P (C.glob Gl) G:=⟨⟨h.T,h.T2,h.T3,h.E,h.mix,h.D,hg,h.EM,h.R,h.T4⟩,h.H0⟩
abbrev Cx.eqs (C:Cx)(EM:List (TypeId×Nat)):Cx:=⟨C.E,C.T,C.T2,C.T3,C.sy,C.D,C.H,C.Gl,C.sg,EM,C.R,C.T4⟩
theorem CxOk.eqs {P:Program}{C:Cx}{G:World->Prop}(h:CxOk P C G){EM:List (TypeId×Nat)}(hE:EqTM P EM):CxOk P (C.eqs EM) G:=⟨⟨h.T,h.T2,h.T3,h.E,h.mix,h.D,h.gl,hE,h.R,h.T4⟩,h.H0⟩
theorem CxB.sym {P:Program}{C:Cx}{G G':World->Prop}(hC:CxB P C G)(hG:∀u,G' u->G u){D:Option Addr->Nat->List Int->Prop}(hD:DOk G' D)(H:List (Nat×Ev)):CxB P (C.sym D H) G':=⟨TOk.mono hG hC.T,TOk2.mono hG hC.T2,TOk3.mono hG hC.T3,hC.E,hC.mix,hD,fun n r h=>⟨(hC.gl n r h).1,fun u hu=>(hC.gl n r h).2 u (hG u hu)⟩,hC.EM,fun A r h=>⟨(hC.R A r h).1,(hC.R A r h).2.imp_right fun ⟨b,o,e,k⟩=>⟨b,o,e,fun u hu=>k u (hG u hu)⟩⟩,TOk4.mono hG hC.T4⟩
abbrev Cx.rows (C:Cx)(R:Option Addr->Row->Prop):Cx:=⟨C.E,C.T,C.T2,C.T3,true,C.D,C.H,C.Gl,C.sg,C.EM,R,C.T4⟩
theorem CxB.rows {P:Program}{C:Cx}{G:World->Prop}(hC:CxB P C G){R:Option Addr->Row->Prop}(hR:ROk G R):CxB P (C.rows R) G:=⟨hC.T,hC.T2,hC.T3,hC.E,hC.mix,hC.D,hC.gl,hC.EM,hR,hC.T4⟩
abbrev Cx.wrs (C:Cx)(T4:List (FuncId×Ent4)):Cx:=⟨C.E,C.T,C.T2,C.T3,true,C.D,C.H,C.Gl,C.sg,C.EM,C.R,T4⟩
theorem CxOk.wrs {P:Program}{C:Cx}{G:World->Prop}(h:CxOk P C G){T4:List (FuncId×Ent4)}(h4:TOk4 P G T4):CxOk P (C.wrs T4) G:=⟨⟨h.T,h.T2,h.T3,h.E,h.mix,h.D,h.gl,h.EM,h.R,h4⟩,h.H0⟩
theorem fn_out {P:Program}{C:Cx}{G:World->Prop}{N:Nat}{w:World}(hC:CxB P C G)(hH0:C.H=[]){F:FuncId}{fn:Func}(hf:P.funcs[F]? = some fn){args:List AV}{q:List Bool}{v:AV}{obs:List Ob}(k:Nat)(he:outW (evalF P C 0 N fn args [] q)=some (List.replicate k v,obs))(hH:Holds obs)
  (ho:∀a∈args,a.Ok 0) (hG:∀u,RowKit.Below w.heap.size w u->G u):Calls P F (args.map (AV.den [])).toArray w fun e w'=>e=.returned (v.den [])/\RowKit.Below w.heap.size w w':=by
 unfold outW at he
 split at he
 ·rename_i l ob h1
  split at he
  ·rename_i vs h2
   injection he with he
   injection he with e1 e2
   subst e1 e2
   have h:=fn_okH (gs:=[]) (bs:=[]) (m:=0) (w:=w) hC (fun c _ id c' f h=>by rw[hH0,hooked_nil] at h;cases h) hf h1 hH rfl rfl (by simpa using ho) hG (fun k t r h=>by simp at h)
   exact h.mono fun e w' ⟨u,hu,e1,o1,e2⟩=>⟨by rw[e1,outV_den (outL_ok h2 u hu) o1],e2⟩
  ·cases he
 ·cases he
def hookedF (H:List (Nat×Ev))(fn:Func):List (Nat×Code×Ev):=match fn.body with
 |some c=>hooked H c
 |none=>[]
def blkc (fn:Func)(id:Nat):Code:=match hookedF [(id,fun _ _ _=>none)] fn with
 |(_,c,_) :: _=>c
 |[]=>.skip
def lpc (fn:Func)(id:Nat):Code:=match blkc fn id with
 |.loop c=>c
 |c=>c
def AllH (P:Program)(S m:Nat)(w:World):List (Nat×Code×Ev)->Prop
 |[]=>True
 |(id,c,f) :: r=>Does P S m w (.block id c) f/\AllH P S m w r
theorem allH_mem {P:Program}{S m:Nat}{w:World}:∀{l:List (Nat×Code×Ev)},AllH P S m w l->∀id c f,(id,c,f)∈l->Does P S m w (.block id c) f
 |[],_,_,_,_,h=>by cases h
 |(i,d,g) :: r,h,id,c,f,hm=>by
  rcases List.mem_cons.1 hm with he|hm
  ·injection he with e1 he
   injection he with e2 e3
   subst e1 e2 e3
   exact h.1
  ·exact allH_mem h.2 id c f hm
theorem fn_hooks {P:Program}{S m:Nat}{w:World}{fn:Func}{H:List (Nat×Ev)}{l:List (Nat×Code×Ev)}(he:hookedF H fn=l)(h:AllH P S m w l):∀c,fn.body=some c->∀id c' f,(id,c',f)∈hooked H c->Does P S m w (.block id c') f:=fun c hc id c' f hm=>by
 subst he
 unfold hookedF at h
 rw[hc] at h
 exact allH_mem h id c' f hm
end Sx
namespace Sx
open Go Go.RowKit Reg Limb Fp2
def tbl (f:Nat->List Int):Nat->List Int
 |0=>[]
 |n+1=>tbl f n++f n
section
variable {f:Nat->List Int} {r:Nat}
theorem tbl_len (h:∀j,(f j).length=r):∀n,(tbl f n).length=n*r
 |0=>by simp[tbl]
 |n+1=>by rw[tbl,List.length_append,tbl_len h n,h,Nat.succ_mul]
theorem seg_tbl (h:∀j,(f j).length=r):∀{n d:Nat} (z:List Int),d<n->seg (d*r) r (tbl f n++z)=f d
 |n+1,d,z,hd=>by
  rw[tbl,List.append_assoc]
  rcases Nat.lt_or_ge d n with hlt|hge
  ·exact seg_tbl h _ hlt
  ·obtain rfl:d=n:=by omega
   rw[seg,List.drop_left' (tbl_len h d),List.take_left' (h d)]
theorem upd_tbl (h:∀j,(f j).length=r){n k:Nat}:upd (n*r) r (f n) (tbl f n++List.replicate ((k+1)*r) 0)=tbl f (n+1)++List.replicate (k*r) 0:=by
 have hl:=tbl_len h n
 have e:(tbl f n++List.replicate ((k+1)*r) (0:Int)).drop (n*r+r)=List.replicate (k*r) 0:=by
  rw[List.drop_append,hl,List.drop_eq_nil_of_le (by omega),List.nil_append,List.drop_replicate]
  congr 1
  rw[Nat.succ_mul]
  omega
 rw[upd,e,List.take_left' hl,tbl,List.append_assoc]
end
def mkSl (n:Nat)(l:List (Nat×AV)):List AV:=l.foldl (fun s p=>s.set p.1 p.2) (List.replicate n .unk)
end Sx
namespace Sx
open Go Go.RowKit Reg Base Limb Fp2
inductive AK where
 |w (n:Nat)
 |p (n:Nat)
 |num (k:IntKind)
 |bl
 |sl
 |rows
inductive AA where
 |w (xs:List Int)
 |p (xs:List Int) (b:Bool)
 |num (x:Int)
 |bl (b:Bool)
 |sl (n:Nat) (l:List Int)
 |rows (n:Nat) (r:Row)
def exts:Row->List (Option Addr×Nat×List Int)
 |[]=>[]
 |.nm (.ext A n _ l) :: r=>(A,n,l) :: exts r
 |_ :: r=>exts r
def okA:AK->AA->Prop
 |.w n,.w xs=>Nm n xs
 |.p n,.p xs _=>Nm n xs
 |.num _,.num _=>True
 |.bl,.bl _=>True
 |.sl,.sl n l=>n<=10000/\Nm n l
 |.rows,.rows _ r=>Ok r/\∀e∈exts r,Words e.2.2
 |_,_=>False
def okL:List AK->List AA->Prop
 |[],[]=>True
 |k :: ks,a :: l=>okA k a/\okL ks l
 |_,_=>False
def denA (u:World):AK->AA->Value->Prop
 |.w _,.w xs,v=>v=.agg (vals .u64 xs)
 |.p _,.p xs b,v=>v=.agg (vals .u64 xs ++ #[.bool b])
 |.num k,.num x,v=>v=.int k x
 |.bl,.bl b,v=>v=.bool b
 |.sl,.sl n l,v=>∃A c,v=.slice A n c/\∃B,B<=u.heap.size/\Rd u B A n .u64 l
 |.rows,.rows n r,v=>∃A c,v=.slice A n c/\(r=[]∨∃b o,A=some ⟨b,o,none⟩/\∀j v,(Sx.den r)[j]? = some v->u.cell? ⟨b,o+j,none⟩=some v/\b<u.heap.size)/\∀e∈exts r,∃B,B<=u.heap.size/\Rd u B e.1 e.2.1 .u64 e.2.2
 |_,_,_=>False
def denL (u:World):List AK->List AA->List Value->Prop
 |[],[],[]=>True
 |k :: ks,a :: l,v :: vs=>denA u k a v/\denL u ks l vs
 |_,_,_=>False
def takeA (D:Option Addr->Nat->List Int->Prop)(R:Option Addr->Row->Prop)(bl:Nat->Option Bk):AK->AV->Option (AA×List Ob)
 |.w n,.agg r=>match mg r with
  |some (k,xs)=>if k=n then some (.w xs,[]) else none
  |none=>none
 |.p n,.agg r=>match mgb r with
  |some (k,xs,b)=>if k=n then some (.p xs b,[]) else none
  |none=>none
 |.num k,v=>match numOf v with
  |some (k',x)=>if k'=k then some (.num x,[]) else none
  |none=>none
 |.bl,.val (.bool b)=>some (.bl b,[])
 |.sl,.ext A n _ l=>some (.sl n l,[D A n l,n<=10000])
 |.sl,.slc k 0 n _=>match bl k with
  |some (_,r)=>match mg r with
   |some (j,l)=>if j=n then some (.sl n l,[n<=10000]) else none
   |none=>none
  |none=>none
 |.sl,.val (.slice none 0 0)=>some (.sl 0 [],[])
 |.rows,.xr A n _ r=>some (.rows n r,[R A r,∀e∈exts r,D e.1 e.2.1 e.2.2])
 |_,_=>none
def takeL (D:Option Addr->Nat->List Int->Prop)(R:Option Addr->Row->Prop)(bl:Nat->Option Bk):List AK->List AV->Option (List AA×List Ob)
 |[],[]=>some ([],[])
 |k :: ks,v :: vs=>match takeA D R bl k v,takeL D R bl ks vs with
  |some (a,o),some (l,o')=>some (a :: l,o++o')
  |_,_=>none
 |_,_=>none
def entG (ks:List AK)(pre:List AA->List Ob)(f:List AA->AV):Ent2:=fun D R bl args=>match takeL D R bl ks args with
 |some (l,o)=>some (f l,o++pre l)
 |none=>none
def ConG (P:Program)(G:World->Prop)(F:FuncId)(ks:List AK)(pre:List AA->List Ob)(f:List AA->AV):Prop:=
 ∀l,okL ks l->Holds (pre l)->(∀n,(f l).Ok n)/\(∀gs,(f l).den gs=(f l).den [])/\∀w,G w->∀vs,denL w ks l vs->Calls P F vs.toArray w fun e w'=>e=.returned ((f l).den [])/\RowKit.Below w.heap.size w w'
section
variable {P:Program} {G:World->Prop} {F:FuncId} {fn:Func}
theorem cell_lt {u:World}{b o:Nat}{v:Value}(h:u.cell? ⟨b,o,none⟩=some v):b<u.heap.size:=by
 rcases Nat.lt_or_ge b u.heap.size with hlt|hge
 ·exact hlt
 ·have:u.heap[b]? = none:=Array.getElem?_eq_none hge
  simp[World.cell?,this] at h
theorem takeA_ok {G':World->Prop}{D:Option Addr->Nat->List Int->Prop}(hD:DOk G' D){R:Option Addr->Row->Prop}(hRr:ROk G' R){bl:Nat->Option Bk}{gs:List Nat}{u:World}(hG:G' u)(hB:BOk gs bl u){k:AK}{v:AV}{a:AA}{o:List Ob}(ho:v.Ok gs.length)(he:takeA D R bl k v=some (a,o))(hH:Holds o):okA k a/\denA u k a (v.den gs):=by
 unfold takeA at he
 split at he
 ·rename_i n r
  split at he
  ·rename_i m xs h1
   split at he
   ·rename_i hk
    subst hk
    injection he with he
    injection he with e1 e2
    subst e1
    obtain⟨d1,m1⟩:=agg_vals (gs:=gs) ho h1
    exact⟨m1,d1⟩
   ·cases he
  ·cases he
 ·rename_i n r
  split at he
  ·rename_i m xs b h1
   split at he
   ·rename_i hk
    subst hk
    injection he with he
    injection he with e1 e2
    subst e1
    obtain⟨m1,d1⟩:=mgb_ok ho h1
    exact⟨m1,by show (AV.agg r).den gs=_;rw[AV.den,d1];simp[vals]⟩
   ·cases he
  ·cases he
 ·rename_i kk v'
  split at he
  ·rename_i k' x h1
   split at he
   ·rename_i hk
    subst hk
    injection he with he
    injection he with e1 e2
    subst e1
    exact⟨trivial,numOf_den h1⟩
   ·cases he
  ·cases he
 ·rename_i b
  injection he with he
  injection he with e1 e2
  subst e1
  exact⟨trivial,rfl⟩
 ·rename_i A n c l
  injection he with he
  injection he with e1 e2
  subst e1 e2
  obtain⟨hw,B,hB'⟩:=hD _ _ _ hH.1
  obtain⟨h1,h2⟩:=hB' u hG
  exact⟨⟨hH.2.1,h2.len,hw⟩,_,_,rfl,B,h1,h2⟩
 ·rename_i k n c
  split at he
  ·rename_i t r h1
   split at he
   ·rename_i j l h2
    split at he
    ·rename_i hj
     subst hj
     injection he with he
     injection he with e1 e2
     subst e1 e2
     obtain⟨hh,hr⟩:=hB k t r h1
     obtain⟨m3,e3⟩:=mg_ok hr h2
     rw[e3] at hh
     exact⟨⟨hH.1,m3⟩,_,_,rfl,u.heap.size,Nat.le_refl _,Rd.of_has hh hh.lt (by rw[List.drop_zero,List.take_of_length_le (by rw[m3.len];exact Nat.le_refl _)]) (by rw[m3.len];omega)⟩
    ·cases he
   ·cases he
  ·cases he
 ·injection he with he
  injection he with e1 e2
  subst e1
  exact⟨⟨Nat.zero_le _,rfl,words_nil⟩,_,_,rfl,0,Nat.zero_le _,⟨rfl,fun h=>absurd h (Nat.lt_irrefl _)⟩⟩
 ·rename_i A n c r
  injection he with he
  injection he with e1 e2
  subst e1 e2
  obtain⟨h1,h2,_⟩:=hH
  obtain⟨k1,k2⟩:=hRr _ _ h1
  refine⟨⟨k1,fun e he=>(hD _ _ _ (h2 e he)).1⟩,A,c,rfl,k2.imp_right fun ⟨b,o,e,k3⟩=>⟨b,o,e,fun j v hv=>⟨k3 u hG j v hv,cell_lt (k3 u hG j v hv)⟩⟩,fun e he=>?_⟩
  obtain⟨_,B,hB'⟩:=hD _ _ _ (h2 e he)
  exact⟨B,hB' u hG⟩
 ·cases he
theorem takeL_ok {G':World->Prop}{D:Option Addr->Nat->List Int->Prop}(hD:DOk G' D){R:Option Addr->Row->Prop}(hRr:ROk G' R){bl:Nat->Option Bk}{gs:List Nat}{u:World}(hG:G' u)(hB:BOk gs bl u):∀{ks:List AK} {args:List AV} {l:List AA} {o:List Ob},(∀a∈args,a.Ok gs.length)->takeL D R bl ks args=some (l,o)->Holds o->okL ks l/\denL u ks l (args.map (AV.den gs))
 |[],[],l,o,_,he,_=>by
  injection he with he
  injection he with e1 e2
  subst e1
  exact⟨trivial,trivial⟩
 |k :: ks,v :: vs,l,o,ho,he,hH=>by
  unfold takeL at he
  split at he
  ·rename_i a o1 l' o2 h1 h2
   injection he with he
   injection he with e1 e2
   subst e1 e2
   obtain⟨ha,hb⟩:=holds_app hH
   obtain⟨a1,a2⟩:=takeA_ok hD hRr hG hB (ho v (by simp)) h1 ha
   obtain⟨b1,b2⟩:=takeL_ok hD hRr hG hB (fun a ha=>ho a (List.mem_cons_of_mem _ ha)) h2 hb
   exact⟨⟨a1,b1⟩,a2,b2⟩
  ·cases he
 |[],_ :: _,_,_,_,he,_=>by cases he
 |_ :: _,[],_,_,_,he,_=>by cases he
theorem EOk2.conG {ks:List AK}{pre:List AA->List Ob}{f:List AA->AV}(hf:P.funcs[F]? = some fn)(hb:fn.body.isNone=false)(hn:(fn.name == "runtime.NumGoroutine")=false)(hc:ConG P G F ks pre f):EOk2 P G F (entG ks pre f):=by
 refine⟨enter_of hf hb hn,fun G' D R bl args v ps gs hG' hD hRr he hH ho w hG hB=>?_⟩
 unfold entG at he
 split at he
 ·rename_i l o h1
  injection he with he
  injection he with e1 e2
  subst e1 e2
  obtain⟨ha,hb'⟩:=holds_app hH
  obtain⟨b1,b2⟩:=takeL_ok hD hRr hG hB ho h1 ha
  obtain⟨c1,c2,c3⟩:=hc l b1 hb'
  exact⟨c1 _,by rw[c2];exact c3 w (hG' w hG) _ b2⟩
 ·cases he
end
def cnS:Sg->Sg
 |.one (.bool b)=>.nm (.bl b)
 |s=>s
def cnG:Option (Nat×List Int)->Row->Row
 |none,[]=>[]
 |some (n,xs),[]=>[.nums n xs]
 |none,.nums n xs :: r=>cnG (some (n,xs)) r
 |some (n,xs),.nums m ys :: r=>cnG (some (n+m,xs++ys)) r
 |none,s :: r=>cnS s :: cnG none r
 |some (n,xs),s :: r=>.nums n xs :: cnS s :: cnG none r
def cnR (r:Row):Row:=cnG none r
theorem cnS_ok {s:Sg}(h:s.Ok):(cnS s).den=s.den/\(cnS s).Ok:=by
 unfold cnS
 split
 ·exact⟨rfl,trivial⟩
 ·exact⟨rfl,h⟩
def hd_:Option (Nat×List Int)->List Value
 |none=>[]
 |some (_,xs)=>xs.map (.int .u64)
theorem cnG_ok:∀{r:Row} {o:Option (Nat×List Int)},Ok r->(∀n xs,o=some (n,xs)->Nm n xs)->den (cnG o r)=hd_ o++den r/\Ok (cnG o r)
 |[],none,_,_=>⟨rfl,trivial⟩
 |[],some (n,xs),_,ho=>⟨rfl,ho n xs rfl,trivial⟩
 |.nums n xs :: r,none,hr,_=>by
  have h:=cnG_ok (r:=r) (o:=some (n,xs)) hr.2 (fun m ys e=>by injection e with e;injection e with e1 e2;subst e1 e2;exact hr.1)
  rw[cnG]
  exact⟨h.1,h.2⟩
 |.nums m ys :: r,some (n,xs),hr,ho=>by
  have h:=cnG_ok (r:=r) (o:=some (n+m,xs++ys)) hr.2 (fun k zs e=>by injection e with e;injection e with e1 e2;subst e1 e2;exact (ho n xs rfl).app hr.1)
  rw[cnG]
  refine⟨?_,h.2⟩
  rw[h.1,hd_,hd_,den,Sg.den,List.map_append,List.append_assoc]
 |.one v :: r,none,hr,_=>by
  have h:=cnG_ok (r:=r) (o:=none) hr.2 (fun _ _ e=>by cases e)
  have hs:=cnS_ok hr.1
  rw[cnG]
  ·exact⟨by rw[den,den,hs.1,h.1];rfl,hs.2,h.2⟩
  ·intro n xs e;cases e
 |.nm v :: r,none,hr,_=>by
  have h:=cnG_ok (r:=r) (o:=none) hr.2 (fun _ _ e=>by cases e)
  have hs:=cnS_ok hr.1
  rw[cnG]
  ·exact⟨by rw[den,den,hs.1,h.1];rfl,hs.2,h.2⟩
  ·intro n xs e;cases e
 |.one v :: r,some (n,xs),hr,ho=>by
  have h:=cnG_ok (r:=r) (o:=none) hr.2 (fun _ _ e=>by cases e)
  have hs:=cnS_ok hr.1
  rw[cnG]
  ·exact⟨by rw[den,den,den,hs.1,h.1];rfl,ho n xs rfl,hs.2,h.2⟩
  ·intro n xs e;cases e
 |.nm v :: r,some (n,xs),hr,ho=>by
  have h:=cnG_ok (r:=r) (o:=none) hr.2 (fun _ _ e=>by cases e)
  have hs:=cnS_ok hr.1
  rw[cnG]
  ·exact⟨by rw[den,den,den,hs.1,h.1];rfl,ho n xs rfl,hs.2,h.2⟩
  ·intro n xs e;cases e
theorem cnR_ok {r:Row}(h:Ok r):den (cnR r)=den r/\Ok (cnR r):=by
 have:=cnG_ok (r:=r) (o:=none) h (fun _ _ e=>by cases e)
 exact⟨this.1,this.2⟩
def cnT:TV->TV
 |.agg r=>.agg (cnR r)
 |.val (.int k x)=>.num k x
 |.val (.bool b)=>.bl b
 |v=>v
def cnV:AV->AV
 |.agg r=>.agg (cnR r)
 |.tup vs=>.tup (vs.map cnT)
 |.val (.int k x)=>.num k x
 |.val (.bool b)=>.bl b
 |v=>v
theorem cnT_den {v:TV}(h:v.Ok):(cnT v).den=v.den:=by
 unfold cnT
 split
 ·exact congrArg (fun l=>Value.agg (List.toArray l)) (cnR_ok h).1
 ·rfl
 ·rfl
 ·rfl
theorem okL_mem:∀{vs:List TV} {v:TV},TV.OkL vs->v∈vs->v.Ok
 |a :: r,v,h,hm=>by
  rcases List.mem_cons.1 hm with rfl|hm
  ·exact h.1
  ·exact okL_mem h.2 hm
theorem cnV_den {v:AV}(gs:List Nat)(h:∀n,v.Ok n):(cnV v).den gs=v.den gs:=by
 unfold cnV
 split
 ·exact congrArg (fun l=>Value.agg (List.toArray l)) (cnR_ok (h 0)).1
 ·rename_i vs
  have hv:TV.OkL vs:=h 0
  simp only[AV.den,List.map_map]
  congr 2
  exact List.map_congr_left fun v hm=>cnT_den (okL_mem hv hm)
 ·rfl
 ·rfl
 ·rfl
def outM (r:Option (List AV×List Ob)):Option (List AV×List Ob):=match r with
 |some (l,obs)=>some (l.map cnV,obs)
 |none=>none
abbrev SS:=List (Option Addr×Nat×List Int×Nat)
def DS (ss:SS)(A:Option Addr)(n:Nat)(l:List Int):Prop:=∃B,(A,n,l,B)∈ss
def GS (G:World->Prop)(ss:SS)(u:World):Prop:=G u/\∀s∈ss,s.2.2.2<=u.heap.size/\Rd u s.2.2.2 s.1 s.2.1 .u64 s.2.2.1
theorem GS.keep {G:World->Prop}(hk:∀{u v:World},G u->RowKit.Below u.heap.size u v->G v){ss:SS}{u v:World}(h:GS G ss u)(hb:RowKit.Below u.heap.size u v):GS G ss v:=⟨hk h.1 hb,fun s hs=>⟨Nat.le_trans (h.2 s hs).1 hb.size,(h.2 s hs).2.keep hb (h.2 s hs).1⟩⟩
theorem DS_ok {G:World->Prop}{ss:SS}(hw:∀s∈ss,Words s.2.2.1):DOk (GS G ss) (DS ss):=fun A n l ⟨B,hm⟩=>⟨hw _ hm,B,fun u hu=>hu.2 _ hm⟩
abbrev SR:=List (Option Addr×Row)
def GR (G:World->Prop)(rs:SR)(u:World):Prop:=G u/\∀s∈rs,s.2=[]∨∃b o,s.1=some ⟨b,o,none⟩/\∀j v,(den s.2)[j]? = some v->u.cell? ⟨b,o+j,none⟩=some v/\b<u.heap.size
section
variable {P:Program} {C:Cx} {G:World->Prop} {F:FuncId} {fn:Func} {N:Nat} {w:World}
theorem fn_outK (hC:CxB P C G)(hk:∀c,fn.body=some c->∀id c' f,(id,c',f)∈hooked C.H c->Does P w.heap.size 0 w (.block id c') f)(hf:P.funcs[F]? = some fn)(hG:∀u,RowKit.Below w.heap.size w u->G u){args:List AV}{q:List Bool}{v:AV}{obs:List Ob}(k:Nat)
  (he:outM (evalF P C 0 N fn args [] q)=some (List.replicate k v,obs)) (hH:Holds obs) (ho:∀a∈args,a.Ok 0) {want:Value} (hv:v.den []=want) {vs:List Value} (ha:args.map (AV.den [])=vs):Calls P F vs.toArray w fun e w'=>e=.returned want/\RowKit.Below w.heap.size w w':=by
 subst ha hv
 unfold outM at he
 split at he
 ·rename_i l ob h1
  injection he with he
  injection he with e1 e2
  subst e2
  have h:=fn_okH (gs:=[]) (bs:=[]) (m:=0) (w:=w) hC hk hf h1 hH rfl rfl (by simpa using ho) hG (fun k t r h=>by simp at h)
  refine h.mono fun e w' ⟨u,hu,e2,o1,e3⟩=>⟨?_,e3⟩
  have hu2:cnV u=v:=List.eq_of_mem_replicate (by rw[<-e1];exact List.mem_map_of_mem hu)
  rw[e2,<-hu2,cnV_den _ o1]
 ·cases he
theorem fn_outS (hC:CxOk P C G)(hk:∀{u v:World},G u->RowKit.Below u.heap.size u v->G v)(hf:P.funcs[F]? = some fn)(ss:SS)(hw:∀s∈ss,Words s.2.2.1)(hG:GS G ss w){args:List AV}{q:List Bool}{v:AV}{obs:List Ob}(k:Nat)
  (he:outM (evalF P (C.sym (DS ss) []) 0 N fn args [] q)=some (List.replicate k v,obs)) (hH:Holds obs) (ho:∀a∈args,a.Ok 0) {want:Value} (hv:v.den []=want) {vs:List Value} (ha:args.map (AV.den [])=vs):Calls P F vs.toArray w fun e w'=>e=.returned want/\RowKit.Below w.heap.size w w':=by
 subst ha hv
 unfold outM at he
 split at he
 ·rename_i l ob h1
  injection he with he
  injection he with e1 e2
  subst e2
  have h:=fn_okH (gs:=[]) (bs:=[]) (m:=0) (w:=w) (hC.toCxB.sym (G':=GS G ss) (fun u hu=>hu.1) (DS_ok hw) []) (fun c _ id c' f h=>by rw[hooked_nil] at h;cases h) hf h1 hH rfl rfl (by simpa using ho) (fun u hu=>hG.keep hk hu) (fun k t r h=>by simp at h)
  refine h.mono fun e w' ⟨u,hu,e2,o1,e3⟩=>⟨?_,e3⟩
  have hu2:cnV u=v:=List.eq_of_mem_replicate (by rw[<-e1];exact List.mem_map_of_mem hu)
  rw[e2,<-hu2,cnV_den _ o1]
 ·cases he
end
def entQ (P:Program)(F:FuncId)(C:Cx)(N:Nat)(q:List Bool):Ent2:=fun D R bl args=>match P.funcs[F]? with
 |some fn=>match relo args 0 with
  |some (l,ks)=>match bks bl ks with
   |some bs=>match evalF P ((C.sym D []).rows R) bs.length N fn l bs q with
    |some ([v],obs)=>if plain v then some (v,obs) else none
    |_=>none
   |none=>none
  |none=>none
 |none=>none
theorem EOk2.inlineQ {P:Program}{C:Cx}{G:World->Prop}{N:Nat}{q:List Bool}{F:FuncId}{fn:Func}(hC:CxOk P C G)(hk:∀{u v:World},G u->RowKit.Below u.heap.size u v->G v)(hf:P.funcs[F]? = some fn)(hb:fn.body.isNone=false)(hn:(fn.name == "runtime.NumGoroutine")=false):EOk2 P G F (entQ P F C N q):=by
 refine⟨enter_of hf hb hn,fun G' D R bl args v ps gs hG' hD hRr he hH ho w hG hB=>?_⟩
 unfold entQ at he
 rw[hf] at he
 simp only at he
 split at he
 ·rename_i l ks h1
  split at he
  ·rename_i bs h2
   split at he
   ·rename_i v' obs h3
    split at he
    ·rename_i hp
     injection he with he
     injection he with e1 e2
     subst e1 e2
     obtain⟨a1,a2⟩:=relo_ok (gs:=gs) (hs:=[]) ho h1 rfl
     obtain⟨b1,b2⟩:=bks_ok h2
     rw[List.nil_append] at a1
     have hlen:(ks.map fun k=>gs.getD k 0).length=bs.length:=by simp[b1]
     have hD2:DOk (fun u=>G u/\RowKit.Below w.heap.size w u) D:=fun A n l h=>by
      obtain⟨hw,B,hB⟩:=hD A n l h
      exact⟨hw,B,fun u hu=>⟨Nat.le_trans (hB w hG).1 hu.2.size,(hB w hG).2.keep hu.2 (hB w hG).1⟩⟩
     have hR2:ROk (fun u=>G u/\RowKit.Below w.heap.size w u) R:=fun A r h=>⟨(hRr A r h).1,(hRr A r h).2.imp_right fun ⟨b,o,e,k⟩=>⟨b,o,e,fun u hu j x hx=>(hu.2.cell (p:=⟨b,o+j,none⟩) (cell_lt (k w hG j x hx))).trans (k w hG j x hx)⟩⟩
     have hc:=fn_okH (gs:=ks.map fun k=>gs.getD k 0) (w:=w) ((hC.toCxB.sym (G':=fun u=>G u/\RowKit.Below w.heap.size w u) (fun u h=>h.1) hD2 []).rows hR2) (fun c _ id c' f h=>by rw[hooked_nil] at h;cases h) hf h3 hH hlen rfl (fun a ha=>by
      have:=a2 a ha
      rw[Nat.zero_add] at this
      rw[List.length_map]
      exact this) (fun u hu=>⟨hk (hG' w hG) hu,hu⟩) (fun i t r hi=>by
      obtain⟨k,hk1,hk2⟩:=b2 i (t,r) hi
      have:(ks.map fun k=>gs.getD k 0).getD i 0=gs.getD k 0:=by simp[List.getD,hk1]
      rw[this]
      exact hB k t r hk2)
     have hc:Calls P F ((l.map (AV.den (ks.map fun k=>gs.getD k 0))).toArray) w fun e w'=>e=.returned (v'.den (ks.map fun k=>gs.getD k 0))/\(∀n,v'.Ok n)/\RowKit.Below w.heap.size w w':=hc.mono fun e w' h=>by
      obtain⟨u,hu,r⟩:=h
      obtain rfl:u=v':=by simpa using hu
      exact r
     obtain⟨_,_,_,hr,_⟩:=hc []
     refine⟨hr.2.1 _,?_⟩
     rw[<-a1,plain_den hp gs (ks.map fun k=>gs.getD k 0)]
     exact hc.mono fun e w' h=>⟨h.1,h.2.2⟩
    ·cases he
   ·cases he
  ·cases he
 ·cases he
end Sx
namespace Sx
open Go Go.RowKit Reg Base Limb Fp2
theorem part_mid {P:Program}{w:World}{e:TypeId}{de:TypeDesc}{n off:Nat}{xs:List Int}{b:Bool}(hu:P.underlying e=some de)(hd:(match de with | .struct _ | .array _ _=>true|_=>false)=true)(hi:(P.info? e).map (·.size)=some n)(hl:off+n<=xs.length):(Go.part e (vals .u64 xs ++ #[.bool b]) off).run P w=.ok (.agg (vals .u64 (seg off n xs))) w:=by
 have hagg:(isAgg e).run P w=.ok true w:=by
  unfold isAgg
  rw[Sem.run_bind,run_underlying hu w]
  cases de<;>first|rfl|(simp at hd)
 cases hq:P.info? e with
 |none=>simp[hq] at hi
 |some i=>
  have hs:i.size=n:=by simpa [hq] using hi
  have he:(vals .u64 xs ++ #[Value.bool b]).extract off (off+n)=vals .u64 (seg off n xs):=by
   apply Array.ext'
   simp only[vals,seg,Array.toList_extract,Array.toList_append,List.extract_eq_take_drop,List.map_take,List.map_drop,Nat.add_sub_cancel_left]
   rw[List.drop_append_of_le_length (by simp;omega),List.take_append_of_le_length (by simp;omega)]
  have hee:(vals .u64 xs ++ #[Value.bool b]).extract off (off+i.size)=vals .u64 (seg off n xs):=by rw[hs,he]
  generalize vals .u64 xs ++ #[Value.bool b]=A at hee
  simp[Go.part,Sem.run_bind,hagg,sizeOf,typeInfo,hq,hee]
theorem part_end {P:Program}{w:World}{e:TypeId}{de:TypeDesc}{off:Nat}{xs:List Int}{b:Bool}(hu:P.underlying e=some de)(hd:(match de with | .struct _ | .array _ _=>true|_=>false)=false)(hl:off=xs.length):(Go.part e (vals .u64 xs ++ #[.bool b]) off).run P w=.ok (.bool b) w:=by
 have hagg:(isAgg e).run P w=.ok false w:=by
  unfold isAgg
  rw[Sem.run_bind,run_underlying hu w]
  cases de<;>first|rfl|(simp at hd)
 have hg:(vals .u64 xs ++ #[Value.bool b])[off]? = some (.bool b):=by
  subst hl
  rw[Array.getElem?_append_right (by simp[vals])]
  simp[vals]
 generalize vals .u64 xs ++ #[Value.bool b]=A at hg
 simp[Go.part,Sem.run_bind,hagg,hg]
theorem eqBool_ {P:Program}{t:TypeId}(ht:P.underlying t=some .bool)(d:Nat)(b c:Bool)(w:World):(Op.equalIn (d+1) t (.bool b) (.bool c)).run P w=.ok (b==c) w:=by
 simp only[Op.equalIn,Sem.run_bind,run_underlying ht,Result.andThen_ok]
 rfl
theorem eqob_two {P:Program}{d n:Nat}{t e bt:TypeId}{de:TypeDesc}(h:EqOK P (d+1) e n)(hu:P.underlying e=some de)(hd:(match de with | .struct _ | .array _ _=>true|_=>false)=true)(hi:(P.info? e).map (·.size)=some n)(hb:P.underlying bt=some .bool)(ht:P.underlying t=some (.struct (P.fieldsOf t)))(hp:P.stoodInHeld t=false)
  (hf:(P.fieldsOf t).toList.map (fun f=>(decide (f.name = "_"),f.type,f.offset))=[(false,e,0),(false,e,n),(false,bt,n+n)]):EqOB P (d+1+1) t (n+n):=fun w xs ys b c hx hy=>by
 rw[run_equalIn_struct w (d+1) t _ _ ht hp]
 generalize (P.fieldsOf t).toList=fs at hf
 obtain⟨f,g,k,rfl⟩:∃f g k,fs=[f,g,k]:=by
  rcases fs with _|⟨f,_|⟨g,_|⟨k,_|⟨m,r⟩⟩⟩⟩<;>simp at hf
  exact⟨f,g,k,rfl⟩
 simp only[List.map_cons,List.map_nil,List.cons.injEq,Prod.mk.injEq,decide_eq_false_iff_not,and_true] at hf
 obtain⟨⟨f1,f2,f3⟩,⟨g1,g2,g3⟩,k1,k2,k3⟩:=hf
 have p1:=part_mid (w:=w) (off:=0) (xs:=xs) (b:=b) hu hd hi (by omega)
 have p2:=part_mid (w:=w) (off:=n) (xs:=xs) (b:=b) hu hd hi (by omega)
 have p3:=part_end (w:=w) (off:=n+n) (xs:=xs) (b:=b) hb rfl hx.symm
 have q1:=part_mid (w:=w) (off:=0) (xs:=ys) (b:=c) hu hd hi (by omega)
 have q2:=part_mid (w:=w) (off:=n) (xs:=ys) (b:=c) hu hd hi (by omega)
 have q3:=part_end (w:=w) (off:=n+n) (xs:=ys) (b:=c) hb rfl hy.symm
 have e1:=h w (seg 0 n xs) (seg 0 n ys) (seg_len rfl (by omega)) (seg_len rfl (by omega))
 have e2:=h w (seg n n xs) (seg n n ys) (seg_len rfl (by omega)) (seg_len rfl (by omega))
 have e3:=eqBool_ hb d b c w
 generalize vals .u64 xs ++ #[Value.bool b]=A at p1 p2 p3 ⊢
 generalize vals .u64 ys ++ #[Value.bool c]=B at q1 q2 q3 ⊢
 have hr:decide (xs=ys/\b=c)=(decide (seg 0 n xs=seg 0 n ys)&&(decide (seg n n xs=seg n n ys)&&(b==c))):=by
  rw[Bool.eq_iff_iff]
  simp only[Bool.and_eq_true,decide_eq_true_eq,beq_iff_eq]
  exact⟨fun hh=>⟨by rw[hh.1],by rw[hh.1],hh.2⟩,fun hh=>⟨by rw[seg_all hx,seg_all hy,hh.1,hh.2.1],hh.2.2⟩⟩
 rw[hr]
 generalize decide (seg 0 n xs=seg 0 n ys)=dx at e1 ⊢
 generalize decide (seg n n xs=seg n n ys)=dy at e2 ⊢
 generalize (b==c)=db at e3 ⊢
 cases dx<;>cases dy<;>cases db<;>simp[Op.eqFields,f1,f2,f3,g1,g2,g3,k1,k2,k3,p1,p2,p3,q1,q2,q3,e1,e2,e3]
end Sx
end Go.Proofs.YtjamcbjghffboaaGreatDoor
