/-
  Own text.
-/
import Derived.Test.YtjamcbjghffboaaGreatDoorMRegT
import Derived.Test.YtjamcbjghffboaaGreatDoorMReg
import Derived.Great.Frames
set_option linter.unusedVariables false
set_option linter.unusedSimpArgs false
namespace Go.Proofs.YtjamcbjghffboaaGreatDoor
namespace Reg
open Go Go.RowKit Base
section
variable {P:Program} {ops:Array Oper} {md:Region.Mode} {Q:Exit->Act->World->Prop}
theorem Own.apart {y:World}{base:Nat}{e t:TypeId}{k:IntKind}{A:Option Addr}{n c q:Nat}{xs:List Int}{z:Array Value}(h:Own y base e k A n c xs)(hq:Has y q t z)(hne:t≠e):∀g,A=some ⟨g,0,none⟩->q≠g:=by
 rintro g rfl rfl
 rcases h.own.2 with ⟨hv,_⟩|⟨g',cap,cur,hv,hg,hh,r⟩
 ·injection hv with h1
  cases h1
 ·injection hv with h1
  injection h1 with h1
  injection h1 with h1
  subst h1
  have:=hq.eq.symm.trans hh
  injection this with this
  injection this with _ this
  exact hne this
def stm (M:Array Bool)(p:Nat):Array Bool:=M.setIfInBounds p true
def kpE (B:Nat)(t:TypeId)(z:Array Value)(y:World):Option Nat->Prop
 |none=>True
 |some g=>Has y g t z/\B<=g
theorem Own.but {y u:World}{base g:Nat}{e:TypeId}{k:IntKind}{A:Option Addr}{n c:Nat}{xs:List Int}(h:Own y base e k A n c xs)(hg:∀q,A=some ⟨q,0,none⟩->g≠q)(hb:But g y u):Own u base e k A n c xs:=by
 refine⟨h.own.1,?_⟩
 rcases h.own.2 with h0|⟨q,cap,cur,hv,hq,hh,r⟩
 ·exact .inl h0
 ·injection hv with hv1 hv2 hv3
  exact .inr ⟨q,cap,cur,by rw[hv1,hv3],hq,(hb.block q (Array.getElem?_eq_some_iff.1 hh).1 (Ne.symm (hg q hv1))).trans hh,r⟩
theorem then_store {S:World->Prop}{i f:Nat}{o:Oper}{L:Array Bool}{a:Act}{w:World}(hi:ops[i]? = some o)(hr:Region.ready md ops L=[i])(hgd:o.guard=none){ty:TypeId}{p q:Operand}(ho:o.op=.store ty p q)
  (hd:o.dst=none) {g n:Nat} {cells:Array Value} (hx:a.eval p=.pointer (some ⟨g,0,none⟩)) (hy:a.eval q=.agg cells) [hA:Agg P ty n] [hC:Cz n cells]
  {t:TypeId} {old:Array Value} (hg:Has w g t old) (hold:old.size=n) (h:∀w',Has w' g t cells->But g w w'->S w'/\wpAnyU P md ops Q S f (L.setIfInBounds i true) a w'):wpAnyU P md ops Q S (f+1) L a w:=by
 refine wpAnyU_run hi hr (fun w1 hq=>?_)
 have hg1:Has w1 g t old:=hg.keep hq
 have hb1:But g w w1:=But.of hq g
 refine wpList_store_rowTo hgd ty p q ho hd g cells hx hy t old hg1.eq (by rw[hC.sz];exact hA.inf) (by rw[hold,hC.sz]) hC.one ?_
 have hH:Has (w1.setRow g cells) g t cells:=hg1.row cells
 have hB:But g w (w1.setRow g cells):=⟨hb1.os,hb1.tape,hb1.output,by simpa using hb1.size,fun k hk hne=>(setRow_other w1 g k cells hne).trans (hb1.block k hk hne)⟩
 exact h _ hH hB
theorem end_take {S:World->Prop}(hS:∀w w',S w->RowKit.Below w.heap.size w w'->S w'){i:Nat}{oi:Oper}{v:Value}{listed:Array Bool}{a:Act}{w:World}(hi:ops[i]? = some oi)
  (hs:Region.noSelect ops=true) (hf:Region.free md ops listed i=true) (hr:(Region.ready md ops listed).contains i=true) (he:Region.ready md ops (listed.setIfInBounds i true)=[])
  (hQ:∀c a d v w,Q (.panic c) (Act.put a d v) w->Q (.panic c) a w) (hw:S w) (hy:Steady P ops S oi v a)
  (h:∀w',RowKit.Below w.heap.size w w'->Q .normal (a.put oi.dst v) w'):wpAnyU P md ops Q S 1 listed a w:=
 wpAnyU_take hS (f:=0) hi hs hf hr hQ hw hy (wpAnyU_end he h)
end
end Reg
end Go.Proofs.YtjamcbjghffboaaGreatDoor
