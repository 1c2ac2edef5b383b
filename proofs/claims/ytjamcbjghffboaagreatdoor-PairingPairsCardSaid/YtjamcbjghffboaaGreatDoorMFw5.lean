/-
  Own text.
-/
import Derived.Test.YtjamcbjghffboaaGreatDoorLimbOwnA
import Derived.Test.YtjamcbjghffboaaGreatDoorMFpR
import Derived.Test.YtjamcbjghffboaaGreatDoorMFw4
import Derived.Test.YtjamcbjghffboaaGreatDoorMFw2
import Derived.Test.YtjamcbjghffboaaGreatDoorMFw3
set_option linter.unusedVariables false
set_option linter.unusedSimpArgs false
set_option maxRecDepth 100000
namespace Go.Proofs.YtjamcbjghffboaaGreatDoor
namespace Limb
open Go Go.RowKit Reg Base
theorem isNaN_c (x:Int)(w:World):Calls Tryz.prog 182 #[.int .u64 x] w fun e w'=>e=.returned (.bool false)/\w=w':=by
 have h:(x != x)=false:=bne_self_eq_false x
 go_enter Tryz.func182,Tryz.ntmps182
 go_wp2
 go_ret
 exact⟨rfl,rfl⟩
def ordL (x y:Int):Int:=if x<y then -1 else if x=y then 0 else 1
set_option maxHeartbeats 1000000 in
theorem compare_c (x y:Int)(w:World):Calls Tryz.prog 179 #[.int .u64 x,.int .u64 y] w fun e w'=>e=.returned (.int .i64 (ordL x y))/\w=w':=by
 rcases Int.lt_trichotomy x y with h1|h1|h1
 ·rw[show ordL x y=-1 by unfold ordL;rw[if_pos h1]]
  go_enter Tryz.func179,Tryz.ntmps179
  go_wp2_with (first
   |(have q1:=f1;go_at_call 182;refine (isNaN_c y _).mono ?_;rintro e w' ⟨rfl,rfl⟩)
   |(go_at_call 182;refine (isNaN_c x _).mono ?_;rintro e w' ⟨rfl,rfl⟩;have f1:=True.intro))
  go_ret
  exact⟨rfl,rfl⟩
 ·subst h1
  rw[show ordL x x=0 by unfold ordL;rw[if_neg (by omega),if_pos rfl]]
  have h2:¬x<x:=by omega
  go_enter Tryz.func179,Tryz.ntmps179
  go_wp2_with (go_at_call 182;refine (isNaN_c x _).mono ?_;rintro e w' ⟨rfl,rfl⟩)
  go_ret
  exact⟨rfl,rfl⟩
 ·rw[show ordL x y=1 by unfold ordL;rw[if_neg (by omega),if_neg (by omega)]]
  have h2:¬x<y:=by omega
  go_enter Tryz.func179,Tryz.ntmps179
  go_wp2_with (first
   |(have q1:=f1;go_at_call 182;refine (isNaN_c y _).mono ?_;rintro e w' ⟨rfl,rfl⟩)
   |(go_at_call 182;refine (isNaN_c x _).mono ?_;rintro e w' ⟨rfl,rfl⟩;have f1:=True.intro))
  go_ret
  exact⟨rfl,rfl⟩
set_option maxHeartbeats 2000000 in
theorem cmp_lt' (A:Option Addr)(n c:Nat)(a:List Int)(A':Option Addr)(n' c':Nat)(b:List Int)(B:Nat)(w:World)(hr:Rd w B A n .u64 a)(hwa:Words a)(hr':Rd w B A' n' .u64 b)(hwb:Words b)(hn:n<=10000)(hn':n'<=10000)(hcmp:n<n') :
    Calls Tryz.prog 173 #[.slice A n c,.slice A' n' c'] w fun e w'=>e=.returned (.int .i64 (cmpL a b))/\w=w':=by
  have WA:Keep _:=⟨hwa⟩
  have WB:Keep _:=⟨hwb⟩
  have HH:Keep (∀j,n'<=j->nth a j=nth b j):=⟨fun j hj=>by rw[nth_ge (by have:=hr.len;omega),nth_ge (by have:=hr'.len;omega)]⟩
  clear hwa hwb
  go_enter Tryz.func173,Tryz.ntmps173
  go_wp2
  go_loopw [5] (fun vi wr=>∃k:Nat,k<=n'/\vi=.int .i64 ((k:Int)-1)/\Keep (∀j,k<=j->nth a j=nth b j)/\w=wr) (fun vi _=>(intOf vi+1).toNat)
  case atStart=>exact⟨n',Nat.le_refl _,rfl,HH,rfl⟩
  case round=>
    obtain⟨k,hk,rfl,hE,rfl⟩:=hrel
    rcases k with _|i
    · have hc:=cmp_eq hE.out
      have HC:Keep _:=⟨hc⟩
      clear hc
      go_wp2
      go_ret
      exact⟨by rw[HC.out];rfl,rfl⟩
    · have e1:((i+1:Nat):Int)-1=(i:Int):=by omega
      rw[e1]
      clear e1
      obtain⟨x,hx⟩:∃x,nth a i=x:=⟨_,rfl⟩
      obtain⟨y,hy⟩:∃y,nth b i=y:=⟨_,rfl⟩
      have HX:Keep _:=⟨hx⟩
      have HY:Keep _:=⟨hy⟩
      clear hx hy
      rcases Int.lt_trichotomy x y with h1|h1|h1
      · have HC:Keep (cmpL a b=-1):=⟨cmp_lt WA.out WB.out hE.out (by rw[HX.out,HY.out];exact h1)⟩
        have HO:Keep (ordL x y=-1):=⟨by unfold ordL;rw[if_pos h1]⟩
        clear h1
        go_wp2_with (first
          | (go_at_call 179;refine (compare_c x y _).mono ?_;rintro e w' ⟨rfl,rfl⟩;rw[HO.out])
          | (have q1:=f1;go_at_call 180;refine (wordAt_c A' n' c' b B i _ hr').mono ?_;rintro e w' ⟨rfl,rfl⟩;rw[HY.out];clear q1 f1)
          | (go_at_call 180;refine (wordAt_c A n c a B i _ hr).mono ?_;rintro e w' ⟨rfl,rfl⟩;rw[HX.out];have f1:=True.intro))
        go_ret
        exact⟨by rw[HC.out];rfl,rfl⟩
      · subst h1
        have hE':Keep (∀j,i<=j->nth a j=nth b j):=⟨fun j hj=>by
          rcases Nat.lt_or_ge i j with h|h
          · exact hE.out j h
          · obtain rfl:j=i:=by omega
            rw[HX.out,HY.out]⟩
        have HO:Keep (ordL x x=0):=⟨by unfold ordL;rw[if_neg (by omega),if_pos rfl]⟩
        go_wp2_with (first
          | (go_at_call 179;refine (compare_c x x _).mono ?_;rintro e w' ⟨rfl,rfl⟩;rw[HO.out])
          | (have q1:=f1;go_at_call 180;refine (wordAt_c A' n' c' b B i _ hr').mono ?_;rintro e w' ⟨rfl,rfl⟩;rw[HY.out];clear q1 f1)
          | (go_at_call 180;refine (wordAt_c A n c a B i _ hr).mono ?_;rintro e w' ⟨rfl,rfl⟩;rw[HX.out];have f1:=True.intro))
        first
          | exact⟨⟨i,by omega,rfl,hE',by trivial⟩,by simp[intOf]⟩
          | (go_roundw
             case rel=>exact⟨i,by omega,rfl,hE',by trivial⟩
             case measure=>simp[intOf])
      · have HC:Keep (cmpL a b=1):=⟨cmp_gt WA.out WB.out hE.out (by rw[HX.out,HY.out];exact h1)⟩
        have HO:Keep (ordL x y=1):=⟨by unfold ordL;rw[if_neg (by omega),if_neg (by omega)]⟩
        clear h1
        go_wp2_with (first
          | (go_at_call 179;refine (compare_c x y _).mono ?_;rintro e w' ⟨rfl,rfl⟩;rw[HO.out])
          | (have q1:=f1;go_at_call 180;refine (wordAt_c A' n' c' b B i _ hr').mono ?_;rintro e w' ⟨rfl,rfl⟩;rw[HY.out];clear q1 f1)
          | (go_at_call 180;refine (wordAt_c A n c a B i _ hr).mono ?_;rintro e w' ⟨rfl,rfl⟩;rw[HX.out];have f1:=True.intro))
        go_ret
        exact⟨by rw[HC.out];rfl,rfl⟩
set_option maxHeartbeats 2000000 in
theorem cmp_ge' (A:Option Addr)(n c:Nat)(a:List Int)(A':Option Addr)(n' c':Nat)(b:List Int)(B:Nat)(w:World)(hr:Rd w B A n .u64 a)(hwa:Words a)(hr':Rd w B A' n' .u64 b)(hwb:Words b)(hn:n<=10000)(_hn':n'<=10000)(hcmp:¬n<n') :
    Calls Tryz.prog 173 #[.slice A n c,.slice A' n' c'] w fun e w'=>e=.returned (.int .i64 (cmpL a b))/\w=w':=by
  have WA:Keep _:=⟨hwa⟩
  have WB:Keep _:=⟨hwb⟩
  have HH:Keep (∀j,n<=j->nth a j=nth b j):=⟨fun j hj=>by rw[nth_ge (by have:=hr.len;omega),nth_ge (by have:=hr'.len;omega)]⟩
  clear hwa hwb
  go_enter Tryz.func173,Tryz.ntmps173
  go_wp2
  go_loopw [5] (fun vi wr=>∃k:Nat,k<=n/\vi=.int .i64 ((k:Int)-1)/\Keep (∀j,k<=j->nth a j=nth b j)/\w=wr) (fun vi _=>(intOf vi+1).toNat)
  case atStart=>exact⟨n,Nat.le_refl _,rfl,HH,rfl⟩
  case round=>
    obtain⟨k,hk,rfl,hE,rfl⟩:=hrel
    rcases k with _|i
    · have hc:=cmp_eq hE.out
      have HC:Keep _:=⟨hc⟩
      clear hc
      go_wp2
      go_ret
      exact⟨by rw[HC.out];rfl,rfl⟩
    · have e1:((i+1:Nat):Int)-1=(i:Int):=by omega
      rw[e1]
      clear e1
      obtain⟨x,hx⟩:∃x,nth a i=x:=⟨_,rfl⟩
      obtain⟨y,hy⟩:∃y,nth b i=y:=⟨_,rfl⟩
      have HX:Keep _:=⟨hx⟩
      have HY:Keep _:=⟨hy⟩
      clear hx hy
      rcases Int.lt_trichotomy x y with h1|h1|h1
      · have HC:Keep (cmpL a b=-1):=⟨cmp_lt WA.out WB.out hE.out (by rw[HX.out,HY.out];exact h1)⟩
        have HO:Keep (ordL x y=-1):=⟨by unfold ordL;rw[if_pos h1]⟩
        clear h1
        go_wp2_with (first
          | (go_at_call 179;refine (compare_c x y _).mono ?_;rintro e w' ⟨rfl,rfl⟩;rw[HO.out])
          | (have q1:=f1;go_at_call 180;refine (wordAt_c A' n' c' b B i _ hr').mono ?_;rintro e w' ⟨rfl,rfl⟩;rw[HY.out];clear q1 f1)
          | (go_at_call 180;refine (wordAt_c A n c a B i _ hr).mono ?_;rintro e w' ⟨rfl,rfl⟩;rw[HX.out];have f1:=True.intro))
        go_ret
        exact⟨by rw[HC.out];rfl,rfl⟩
      · subst h1
        have hE':Keep (∀j,i<=j->nth a j=nth b j):=⟨fun j hj=>by
          rcases Nat.lt_or_ge i j with h|h
          · exact hE.out j h
          · obtain rfl:j=i:=by omega
            rw[HX.out,HY.out]⟩
        have HO:Keep (ordL x x=0):=⟨by unfold ordL;rw[if_neg (by omega),if_pos rfl]⟩
        go_wp2_with (first
          | (go_at_call 179;refine (compare_c x x _).mono ?_;rintro e w' ⟨rfl,rfl⟩;rw[HO.out])
          | (have q1:=f1;go_at_call 180;refine (wordAt_c A' n' c' b B i _ hr').mono ?_;rintro e w' ⟨rfl,rfl⟩;rw[HY.out];clear q1 f1)
          | (go_at_call 180;refine (wordAt_c A n c a B i _ hr).mono ?_;rintro e w' ⟨rfl,rfl⟩;rw[HX.out];have f1:=True.intro))
        first
          | exact⟨⟨i,by omega,rfl,hE',by trivial⟩,by simp[intOf]⟩
          | (go_roundw
             case rel=>exact⟨i,by omega,rfl,hE',by trivial⟩
             case measure=>simp[intOf])
      · have HC:Keep (cmpL a b=1):=⟨cmp_gt WA.out WB.out hE.out (by rw[HX.out,HY.out];exact h1)⟩
        have HO:Keep (ordL x y=1):=⟨by unfold ordL;rw[if_neg (by omega),if_neg (by omega)]⟩
        clear h1
        go_wp2_with (first
          | (go_at_call 179;refine (compare_c x y _).mono ?_;rintro e w' ⟨rfl,rfl⟩;rw[HO.out])
          | (have q1:=f1;go_at_call 180;refine (wordAt_c A' n' c' b B i _ hr').mono ?_;rintro e w' ⟨rfl,rfl⟩;rw[HY.out];clear q1 f1)
          | (go_at_call 180;refine (wordAt_c A n c a B i _ hr).mono ?_;rintro e w' ⟨rfl,rfl⟩;rw[HX.out];have f1:=True.intro))
        go_ret
        exact⟨by rw[HC.out];rfl,rfl⟩
theorem cmp_c (A:Option Addr)(n c:Nat)(a:List Int)(A':Option Addr)(n' c':Nat)(b:List Int)(B:Nat)(w:World)(hr:Rd w B A n .u64 a)(hwa:Words a)(hr':Rd w B A' n' .u64 b)(hwb:Words b)(_hB:B<=w.heap.size)(hn:n<=10000)(hn':n'<=10000) :
  Calls Tryz.prog 173 #[.slice A n c,.slice A' n' c'] w fun e w'=>e=.returned (.int .i64 (cmpL a b))/\Below w.heap.size w w':=by
 have h:Calls Tryz.prog 173 #[.slice A n c,.slice A' n' c'] w fun e w'=>e=.returned (.int .i64 (cmpL a b))/\w=w':=by
  by_cases h:n<n'
  ·exact cmp_lt' A n c a A' n' c' b B w hr hwa hr' hwb hn hn' h
  ·exact cmp_ge' A n c a A' n' c' b B w hr hwa hr' hwb hn hn' h
 refine h.mono ?_
 rintro e w' ⟨rfl,rfl⟩
 exact⟨rfl,Below.refl _ _⟩
end Limb
namespace Fp
open Go Go.RowKit Reg Base Limb Bits
end Fp
namespace Fp
open Go Go.RowKit Reg Base Limb Bits
theorem results_row_tmp {P:Program}{fn:Func}{p u:Tmp}{ty:TypeId}(h:fn.results=#[.cell p ty,.tmp u])(tmps:Array Value)(w:World)(g:Nat)(t:TypeId)(cs:Array Value)(fr:Nat×Nat)(d:TypeDesc)(v:Value)
  (hp:tmps.getD p undef=.pointer (some ⟨g,0,none⟩)) (hv:tmps.getD u undef=v) (hg:w.heap[g]? = some (.cells cs t fr))
  (hu:P.underlying ty=some d) (hd:(match d with | .struct _ | .array _ _=>true|_=>false)=true) (hi:(P.info? ty).map (·.size)=some cs.size) :
  (results fn tmps).run P w=.ok (.tuple #[.agg cs,v]) w:=by
 rw[results_cell_tmp h,hp,hv]
 simp[asAddr,run_loadVar_row w g t ty cs fr d hg hu hd hi]
end Fp
namespace Fp
open Go Go.RowKit Reg Base Limb Bits
theorem one6:Words [1,0,0,0,0,0]:=words_of _ (by decide)
theorem less_sub {x y:List Int}{o:List Int}{d:Int}(hx:x.length=6)(hwx:Words x)(hl:o.length=6)(hw:Words o)(hs:num o-wp 6*d=num x-num y)(hy:0<=num y)(_hd0:0<=d)(hd1:d<=1)(h:num y<num x):num o=num x-num y:=by
 have h4:=num6 hw hl
 have h5:=num6 hwx hx
 rw[wp_six] at *
 omega
theorem le_pow {d:Nat}{v v':Int}(h:v=2^d*v')(h0:0<v'):v'<=v:=by
 have p:(0:Int)<2^d:=Int.pow_pos (by omega)
 have:1*v'<=2^d*v':=Int.mul_le_mul_of_nonneg_right (by omega) (by omega)
 omega
theorem sum_fit {x y o:List Int}{d:Int}(hs:num o+wp 6*d=num x+num y)(ho:0<=num o)(hd0:0<=d)(h:num x+num y<wp 6):num o=num x+num y:=by
 rw[wp_six] at *
 omega
set_option maxHeartbeats 4000000 in
theorem doubledInverse_c (a:List Int)(hla:a.length=6)(hwa:Words a)(ha0:0<num a)(haP:num a<PP)(w:World)(hG:GlobD w) :
    Calls Tryz.prog 154 #[.agg (vals .u64 a)] w fun e w'=>∃(s:List Int) (D:Nat),e=.returned (.tuple #[.agg (vals .u64 s),.int .i64 (D:Int)])/\s.length=6/\Words s/\(num a*num s)%PP=2^D%PP/\D<=767/\Below w.heap.size w w':=by
  obtain⟨S,hS⟩:∃S,w.heap.size=S:=⟨_,rfl⟩
  obtain⟨w0,hw0⟩:∃w0,(w.alloc (.cells (vals .u64 a) 24)).alloc (.cells (vals .u64 Z6) 24)=w0:=⟨_,rfl⟩
  have hA0:Has w0 S 24 (vals .u64 a):=by rw[<-hw0];exact (Has.new' _ hS.symm _ _).alloc _
  have hR0:Has w0 (S+1) 24 (vals .u64 Z6):=by rw[<-hw0];exact Has.new' _ (by rw[World.size_alloc,hS]) _ _
  have hb0:Below S w w0:=by rw[<-hw0,<-hS];exact ((Below.refl _ _).alloc (Nat.le_refl _) _).alloc (by simp) _
  have hsz:w0.heap.size=S+2:=by rw[<-hw0,World.size_alloc,World.size_alloc,hS]
  have HG0:Keep (GlobD w0):=⟨hG.keep (by rw[hS];exact hb0)⟩
  have HS0:Keep (S<=w.heap.size):=⟨by omega⟩
  have FR:Keep (∀g,S<=g->FreeD g):=⟨fun g hg=>hG.free (by omega)⟩
  obtain⟨tp,hP0⟩:=HG0.out.p
  have HSZ:Keep _:=⟨hsz⟩
  have LA:Keep _:=⟨hla⟩
  have WA:Keep _:=⟨hwa⟩
  have A0:Keep _:=⟨ha0⟩
  have AP:Keep _:=⟨haP⟩
  clear hla hwa ha0 haP hG hsz
  rw[hS]
  go_enter Tryz.func154,Tryz.ntmps154
  go_wp2
  change Code.wp _ _ _ _ ((w.alloc (.cells (vals .u64 a) 24)).alloc (.cells (vals .u64 Z6) 24))
  rw[hw0]
  clear hw0 hS
  have HW0:Keep (∀w w':World,Below w0.heap.size w0 w->Below w.heap.size w w'->Below w0.heap.size w0 w'):=⟨fun w w' h hb=>below_tr h hb⟩
  have hdr:Below w0.heap.size w0 w0.drew:=⟨rfl,rfl,rfl,Nat.le_refl _,fun _ _=>rfl⟩
  refine wp_regionU (S:=fun x=>Below w0.heap.size w0 x) (by kernel_rfl) ?_
  change wpAnyU _ _ _ _ _ 12 _ _ _
  refine wpAnyU_take (i:=0) (v:=_) HW0.out (by rfl) (by kernel_rfl) (by kernel_rfl) (by kernel_rfl) (fun _ _ d _ _ h=>by cases d<;>exact h) hdr (Steady.load_seg (by rfl) 24 (.global 5) (by rfl) 5 0 6 (by rfl) tp .u64 pL pL _ (fun w hw=>hP0.keep hw) Tryz.underlying24 rfl (by kernel_rfl) (by rw[List.drop_zero,take_all pL_len]) (by rw[pL_len];exact Nat.le_refl _)) ?_
  simp only[List.getElem_toArray,List.getElem_cons_zero,List.getElem_cons_succ,Act.put,List.setIfInBounds_toArray,List.set_cons_zero,List.set_cons_succ]
  refine wpAnyU_take (i:=1) (v:=_) HW0.out (by rfl) (by kernel_rfl) (by kernel_rfl) (by kernel_rfl) (fun _ _ d _ _ h=>by cases d<;>exact h) hdr (Steady.load_seg (by rfl) 24 (.tmp 1) (by rfl) S 0 6 (by rfl) 24 .u64 a a _ (fun w hw=>hA0.keep hw) Tryz.underlying24 rfl (by kernel_rfl) (by rw[List.drop_zero,take_all LA.out]) (by rw[LA.out];exact Nat.le_refl _)) ?_
  simp only[List.getElem_toArray,List.getElem_cons_zero,List.getElem_cons_succ,Act.put,List.setIfInBounds_toArray,List.set_cons_zero,List.set_cons_succ]
  refine wpAnyU_take (i:=2) (v:=_) HW0.out (by rfl) (by kernel_rfl) (by kernel_rfl) (by kernel_rfl) (fun _ _ d _ _ h=>by cases d<;>exact h) hdr (Steady.build (by rfl) 24 #[] (by rfl) (vals .u64 Z6) (by kernel_rfl)) ?_
  simp only[List.getElem_toArray,List.getElem_cons_zero,List.getElem_cons_succ,Act.put,List.setIfInBounds_toArray,List.set_cons_zero,List.set_cons_succ]
  refine wpAnyU_take (i:=3) (v:=_) HW0.out (by rfl) (by kernel_rfl) (by kernel_rfl) (by kernel_rfl) (fun _ _ d _ _ h=>by cases d<;>exact h) hdr (Steady.build (by rfl) 24 #[(0,.const (.int .u64 1))] (by rfl) (vals .u64 [1,0,0,0,0,0]) (by kernel_rfl)) ?_
  simp only[List.getElem_toArray,List.getElem_cons_zero,List.getElem_cons_succ,Act.put,List.setIfInBounds_toArray,List.set_cons_zero,List.set_cons_succ]
  refine wpAnyU_allocs (f:=4) (B:=w0.heap.size) [4,5,6,7] (fun i=>i) (fun _=>24) (fun _=>vals .u64 Z6) HW0.out (by decide) (fun i _ j _ h=>h) ?_ (by kernel_rfl) hdr (Nat.le_refl _) ?_
  · intro i hi
    rcases (by simpa using hi:i=4∨i=5∨i=6∨i=7) with rfl|rfl|rfl|rfl
    · exact⟨⟨_,rfl,rfl,rfl,rfl⟩,⟨_,_,by rfl,by rfl,by rfl⟩⟩
    · exact⟨⟨_,rfl,rfl,rfl,rfl⟩,⟨_,_,by rfl,by rfl,by rfl⟩⟩
    · exact⟨⟨_,rfl,rfl,rfl,rfl⟩,⟨_,_,by rfl,by rfl,by rfl⟩⟩
    · exact⟨⟨_,rfl,rfl,rfl,rfl⟩,⟨_,_,by rfl,by rfl,by rfl⟩⟩
  intro G w2 hs2 hg2 hd2
  simp only[pts,List.foldl_cons,List.foldl_nil,Act.put,List.setIfInBounds_toArray,List.set_cons_zero,List.set_cons_succ]
  have q4:Has w2 (G 4) 24 (vals .u64 Z6):=(hg2 4 (by simp)).1
  have l4:=(hg2 4 (by simp)).2
  have q5:Has w2 (G 5) 24 (vals .u64 Z6):=(hg2 5 (by simp)).1
  have l5:=(hg2 5 (by simp)).2
  have q6:Has w2 (G 6) 24 (vals .u64 Z6):=(hg2 6 (by simp)).1
  have l6:=(hg2 6 (by simp)).2
  have q7:Has w2 (G 7) 24 (vals .u64 Z6):=(hg2 7 (by simp)).1
  have l7:=(hg2 7 (by simp)).2
  have n45:=hd2 4 (by simp) 5 (by simp) (by decide)
  have n46:=hd2 4 (by simp) 6 (by simp) (by decide)
  have n47:=hd2 4 (by simp) 7 (by simp) (by decide)
  have n56:=hd2 5 (by simp) 6 (by simp) (by decide)
  have n57:=hd2 5 (by simp) 7 (by simp) (by decide)
  have n67:=hd2 6 (by simp) 7 (by simp) (by decide)
  obtain⟨g4,hg4⟩:∃x,G 4=x:=⟨_,rfl⟩
  obtain⟨g5,hg5⟩:∃x,G 5=x:=⟨_,rfl⟩
  obtain⟨g6,hg6⟩:∃x,G 6=x:=⟨_,rfl⟩
  obtain⟨g7,hg7⟩:∃x,G 7=x:=⟨_,rfl⟩
  rw[hg4] at q4 l4 n45 n46 n47 ⊢
  rw[hg5] at q5 l5 n45 n56 n57 ⊢
  rw[hg6] at q6 l6 n46 n56 n67 ⊢
  rw[hg7] at q7 l7 n47 n57 n67 ⊢
  have hR2:=hR0.keep hs2
  have hsz2:=HSZ.out
  clear hg2 hd2 hg4 hg5 hg6 hg7 G hA0
  refine wpAnyU_run (i:=8) (by rfl) (by kernel_rfl) (fun y8 hq=>?_)
  refine store_abs2 (by rfl) 24 (.tmp 4) (.tmp 10) (by rfl) (by rfl) g4 (vals .u64 pL) (by rfl) (by rfl) 24 (vals .u64 Z6) (q4.keep hq) (by rw[vals_size,pL_len];kernel_rfl) (by rw[vals_size,vals_size,pL_len];rfl) vals_one ?_
  intro z8 p4 hkeep hbg
  have hs8:Below w0.heap.size w0 z8:=(below_tr hs2 hq).trans (hbg.mono l4)
  have q5_8:=hkeep _ _ _ (q5.keep hq) (n45.symm)
  have q6_8:=hkeep _ _ _ (q6.keep hq) (n46.symm)
  have q7_8:=hkeep _ _ _ (q7.keep hq) (n47.symm)
  have hR_8:=hkeep _ _ _ (hR2.keep hq) (by omega)
  clear hkeep hbg hq hs2 hR2 q4 q5 q6 q7
  refine⟨hs8,?_⟩
  refine wpAnyU_run (i:=9) (by rfl) (by kernel_rfl) (fun y9 hq=>?_)
  refine store_abs2 (by rfl) 24 (.tmp 5) (.tmp 11) (by rfl) (by rfl) g5 (vals .u64 a) (by rfl) (by rfl) 24 (vals .u64 Z6) (q5_8.keep hq) (by rw[vals_size,LA.out];kernel_rfl) (by rw[vals_size,vals_size,LA.out];rfl) vals_one ?_
  intro z9 p5 hkeep hbg
  have hs9:Below w0.heap.size w0 z9:=(below_tr hs8 hq).trans (hbg.mono l5)
  have p4_9:=hkeep _ _ _ (p4.keep hq) (n45)
  have q6_8_9:=hkeep _ _ _ (q6_8.keep hq) (n56.symm)
  have q7_8_9:=hkeep _ _ _ (q7_8.keep hq) (n57.symm)
  have hR_9:=hkeep _ _ _ (hR_8.keep hq) (by omega)
  clear hkeep hbg hq hs8 hR_8 p4 q5_8 q6_8 q7_8
  refine⟨hs9,?_⟩
  refine wpAnyU_run (i:=10) (by rfl) (by kernel_rfl) (fun y10 hq=>?_)
  refine store_abs2 (by rfl) 24 (.tmp 6) (.tmp 12) (by rfl) (by rfl) g6 (vals .u64 Z6) (by rfl) (by rfl) 24 (vals .u64 Z6) (q6_8_9.keep hq) (by kernel_rfl) (by rfl) vals_one ?_
  intro z10 p6 hkeep hbg
  have hs10:Below w0.heap.size w0 z10:=(below_tr hs9 hq).trans (hbg.mono l6)
  have p4_9_10:=hkeep _ _ _ (p4_9.keep hq) (n46)
  have p5_10:=hkeep _ _ _ (p5.keep hq) (n56)
  have q7_8_9_10:=hkeep _ _ _ (q7_8_9.keep hq) (n67.symm)
  have hR_10:=hkeep _ _ _ (hR_9.keep hq) (by omega)
  clear hkeep hbg hq hs9 hR_9 p4_9 p5 q6_8_9 q7_8_9
  refine⟨hs10,?_⟩
  refine wpAnyU_run (i:=11) (by rfl) (by kernel_rfl) (fun y11 hq=>?_)
  refine store_abs2 (by rfl) 24 (.tmp 7) (.tmp 13) (by rfl) (by rfl) g7 (vals .u64 [1,0,0,0,0,0]) (by rfl) (by rfl) 24 (vals .u64 Z6) (q7_8_9_10.keep hq) (by kernel_rfl) (by rfl) vals_one ?_
  intro z11 p7 hkeep hbg
  have hs11:Below w0.heap.size w0 z11:=(below_tr hs10 hq).trans (hbg.mono l7)
  have p4_9_10_11:=hkeep _ _ _ (p4_9_10.keep hq) (n47)
  have p5_10_11:=hkeep _ _ _ (p5_10.keep hq) (n57)
  have p6_11:=hkeep _ _ _ (p6.keep hq) (n67)
  have hR_11:=hkeep _ _ _ (hR_10.keep hq) (by omega)
  clear hkeep hbg hq hs10 hR_10 p4_9_10 p5_10 p6 q7_8_9_10
  refine⟨hs11,wpAnyU_end (by kernel_rfl) (fun w7 hq7=>?_)⟩
  have hU:=p4_9_10_11.keep hq7
  have hV:=p5_10_11.keep hq7
  have hRr:=p6_11.keep hq7
  have hSs:=p7.keep hq7
  have hRes:=hR_11.keep hq7
  have hb7:Below S w w7:=hb0.trans ((below_tr hs11 hq7).mono (by omega))
  have HG7:Keep (GlobD w7):=⟨HG0.out.keep (below_tr hs11 hq7)⟩
  have F4:Keep (FreeD g4):=⟨FR.out _ (by omega)⟩
  have F5:Keep (FreeD g5):=⟨FR.out _ (by omega)⟩
  have F6:Keep (FreeD g6):=⟨FR.out _ (by omega)⟩
  have F7:Keep (FreeD g7):=⟨FR.out _ (by omega)⟩
  have r4:S+1<g4:=by omega
  have r5:S+1<g5:=by omega
  have r6:S+1<g6:=by omega
  have r7:S+1<g7:=by omega
  have HSS:Keep (∀w',Below S w w'->S<=w'.heap.size):=⟨fun w' hb=>Nat.le_trans HS0.out hb.size⟩
  clear hq7 hs11 hR_11 hb0 HG0 hdr HW0 hP0 l4 l5 l6 l7 hsz2 p4_9_10_11 p5_10_11 p6_11 p7
  go_wp2_with (first
    | (refine store_val (by rfl) 3 (.tmp 8) (.const (.int .i64 0)) (by rfl) (by rfl) w7.heap.size 0 (by rfl) (.int .i64 0) (by rfl) (by rfl) (by rfl) (by kernel_rfl) 3 #[.int .i64 0] (Has.new _ _ _) (by decide) (fun w8 hD8 ho=>?_)
       have hbe:Below w7.heap.size w7 w8:=((Below.refl w7.heap.size w7).alloc (Nat.le_refl _) (.cells #[.int .i64 0] 3)).trans (ho.below (Nat.le_refl _) (by simp))
       have hU8:=hU.keep hbe
       have hV8:=hV.keep hbe
       have hRr8:=hRr.keep hbe
       have hSs8:=hSs.keep hbe
       have hRes8:=hRes.keep hbe
       have HG8:Keep _:=⟨HG7.out.keep hbe⟩
       have hb8:=hb7.trans (hbe.mono (HSS.out _ hb7))
       have hg48:g4≠w7.heap.size:=Nat.ne_of_lt hU.lt
       have hg58:g5≠w7.heap.size:=Nat.ne_of_lt hV.lt
       have hg68:g6≠w7.heap.size:=Nat.ne_of_lt hRr.lt
       have hg78:g7≠w7.heap.size:=Nat.ne_of_lt hSs.lt
       have hgR8:S+1<w7.heap.size:=hRes.lt
       have F8:Keep (FreeD w7.heap.size):=⟨FR.out _ (by omega)⟩
       obtain⟨g8,hg8⟩:∃g8,w7.heap.size=g8:=⟨_,rfl⟩
       rw[hg8] at hD8 hg48 hg58 hg68 hg78 hgR8 F8
       clear ho hbe hU hV hRr hSs hRes HG7 hb7)
    | (go_at_call 169
       rw[hg8]
       refine (makeOdd_c g5 g6 g8 24 24 3 a Z6 0 LA.out WA.out rfl (words_of _ (by decide)) A0.out (by rw[show num Z6=0 by decide +kernel,Int.mul_zero];exact wp_pos 6) (by omega) n56 hg58 hg68 F5.out F6.out F8.out _ HG8.out hV8 hRr8 hD8).mono ?_
       rintro e w9 ⟨rfl,v',r',d,hV9,hRr9,hD9,hI9,hG9,hF9⟩
       have hU9:=hF9.has _ _ _ hU8 n45 n46 hg48
       have hSs9:=hF9.has _ _ _ hSs8 n57.symm n67.symm hg78
       have hRes9:=hF9.has _ _ _ hRes8 (by omega) (by omega) (by omega)
       have HG9:Keep _:=⟨hG9⟩
       have hb9:=hb8.trans (hF9.below S (by omega) (by omega) (by omega) (HSS.out _ hb8))
       have HI9:Keep (pL.length=6/\Words pL/\v'.length=6/\Words v'/\r'.length=6/\Words r'/\([1,0,0,0,0,0]:List Int).length=6/\Words [1,0,0,0,0,0]/\Euc (num a) (num pL) (num v') (num r') (num [1,0,0,0,0,0]) (0+d)):=⟨pL_len,pL_words,hI9.1,hI9.2.1,hI9.2.2.1,hI9.2.2.2.1,rfl,one6,by
         have h1:=(Euc.start A0.out).odd_v hI9.2.2.2.2.2.1 hI9.2.2.2.2.1 (r':=num r') (by rw[hI9.2.2.2.2.2.2];show 2^d*num Z6=2^d*0;rw[show num Z6=0 by decide +kernel])
         rw[num_pL,num_one]
         exact h1⟩
       clear hG9 hF9 hI9 hU8 hV8 hRr8 hSs8 hD8 hRes8 HG8 hb8))
  have hn0:num pL+num v'<=((num pL+num v').toNat:Int):=by omega
  have HSG:=hg8
  clear hg8
  go_loopg [] (num pL+num v').toNat (fun (gk:Nat) wr=>∃(u v r s:List Int) (D:Nat),Keep (u.length=6/\Words u/\v.length=6/\Words v/\r.length=6/\Words r/\s.length=6/\Words s/\Euc (num a) (num u) (num v) (num r) (num s) D)/\Keep (num u+num v<=(gk:Int))/\Has wr g4 24 (vals .u64 u)/\Has wr g5 24 (vals .u64 v)/\Has wr g6 24 (vals .u64 r)/\Has wr g7 24 (vals .u64 s)/\Has wr g8 3 (vals .i64 [(D:Int)])/\Has wr (S+1) 24 (vals .u64 Z6)/\Keep (GlobD wr)/\Below S w wr)
  case atStart=>exact⟨pL,v',r',[1,0,0,0,0,0],0+d,HI9,⟨hn0⟩,hU9,hV9,hRr9,hSs9,hD9,hRes9,HG9,hb9⟩
  case round=>
    clear hU9 hV9 hRr9 hSs9 hD9 hRes9 HG9 hb9 HI9 hn0
    obtain⟨u,v,r,s,D,HI,HK,hU,hV,hR,hS,hD,hE,HG,hb⟩:=hrel
    have LU:Keep (u.length=6):=⟨HI.out.1⟩
    have LV:Keep (v.length=6):=⟨HI.out.2.2.1⟩
    have hgd:=gd6
    by_cases huv:u=v
    · have E1:=eq6 u LU.out
      subst huv
      go_wp2_with (first
        | (refine wpList_load_row rfl 24 (.tmp 4) rfl g4 rfl _ _ _ _ hU.eq Tryz.underlying24 rfl (by rw[vals_size,LU.out];kernel_rfl) ?_)
        | (refine wpList_load_row rfl 24 (.tmp 5) rfl g5 rfl _ _ _ _ hV.eq Tryz.underlying24 rfl (by rw[vals_size,LU.out];kernel_rfl) ?_))
      have EU:Keep (Euc (num a) (num u) (num u) (num r) (num s) D):=⟨HI.out.2.2.2.2.2.2.2.2⟩
      have FIN:Keep (s.length=6/\Words s/\(num a*num s)%PP=2^D%PP/\D<=767):=⟨HI.out.2.2.2.2.2.2.1,HI.out.2.2.2.2.2.2.2.1,EU.out.done AP.out,EU.out.small AP.out⟩
      have HS2:Keep (∀w w':World,(Has w g7 24 (vals .u64 s)/\Has w g8 3 (vals .i64 [(D:Int)]))->Below w.heap.size w w'->(Has w' g7 24 (vals .u64 s)/\Has w' g8 3 (vals .i64 [(D:Int)]))):=⟨fun w w' h hb=>⟨h.1.keep hb,h.2.keep hb⟩⟩
      have KD:Keep (∀w',(Has w' g7 24 (vals .u64 s)/\Has w' g8 3 (vals .i64 [(D:Int)]))->w'.cell? ⟨g8,0,none⟩=some (.int .i64 (D:Int))):=⟨fun w' h=>h.2.val (i:=0) (by simp)⟩
      have hdr2:Has wr.drew g7 24 (vals .u64 s)/\Has wr.drew g8 3 (vals .i64 [(D:Int)]):=⟨hS.drew,hD.drew⟩
      have hEd:=hE.drew
      have hbd:Below S w wr.drew:=hb.trans ⟨rfl,rfl,rfl,Nat.le_refl _,fun _ _=>rfl⟩
      refine wp_regionU (S:=fun x=>Has x g7 24 (vals .u64 s)/\Has x g8 3 (vals .i64 [(D:Int)])) (by kernel_rfl) ?_
      change wpAnyU _ _ _ _ _ 4 _ _ _
      refine wpAnyU_take (i:=0) (v:=_) HS2.out (by rfl) (by kernel_rfl) (by kernel_rfl) (by kernel_rfl) (fun _ _ d _ _ h=>by cases d<;>exact h) hdr2 (Steady.load_seg (by rfl) 24 (.tmp 7) (by rfl) g7 0 6 (by rfl) 24 .u64 s s _ (fun w hw=>hw.1) Tryz.underlying24 rfl (by kernel_rfl) (by rw[List.drop_zero,take_all FIN.out.1]) (by rw[FIN.out.1];exact Nat.le_refl _)) ?_
      simp only[List.getElem_toArray,List.getElem_cons_zero,List.getElem_cons_succ,Act.put,List.setIfInBounds_toArray,List.set_cons_zero,List.set_cons_succ]
      refine wpAnyU_take (i:=1) (v:=.int .i64 (D:Int)) HS2.out (by rfl) (by kernel_rfl) (by kernel_rfl) (by kernel_rfl) (fun _ _ d _ _ h=>by cases d<;>exact h) hdr2 (Or.inl ⟨by rfl,fun w hw=>(by unfold Oper.quietAt;have c:=KD.out w hw;go_simp)⟩) ?_
      simp only[List.getElem_toArray,List.getElem_cons_zero,List.getElem_cons_succ,Act.put,List.setIfInBounds_toArray,List.set_cons_zero,List.set_cons_succ]
      refine wpAnyU_run (i:=2) (by rfl) (by kernel_rfl) (fun w1 hq=>?_)
      refine store_abs2 (by rfl) 24 (.tmp 2) (.tmp 32) (by rfl) (by rfl) (S+1) (vals .u64 s) (by rfl) (by rfl) 24 (vals .u64 Z6) (hEd.keep hq) (by rw[vals_size,FIN.out.1];kernel_rfl) (by rw[vals_size,vals_size,FIN.out.1];rfl) vals_one ?_
      intro w2 hE2 hkeep hbg
      have hs3:Has w2 g7 24 (vals .u64 s)/\Has w2 g8 3 (vals .i64 [(D:Int)]):=⟨hkeep _ _ _ (hdr2.1.keep hq) (by omega),hkeep _ _ _ (hdr2.2.keep hq) (by omega)⟩
      have hb2:Below S w w2:=(hbd.trans (hq.mono (HSS.out _ hbd))).trans (hbg.mono (by omega))
      refine⟨hs3,?_⟩
      refine wpAnyU_take (i:=3) (v:=_) HS2.out (by rfl) (by kernel_rfl) (by kernel_rfl) (by kernel_rfl) (fun _ _ d _ _ h=>by cases d<;>exact h) hs3 (Steady.of_yields (Or.inl ⟨by rfl,fun w=>(by go_simp;with_reducible rfl)⟩)) ?_
      simp only[List.getElem_toArray,List.getElem_cons_zero,List.getElem_cons_succ,Act.put,List.setIfInBounds_toArray,List.set_cons_zero,List.set_cons_succ]
      refine wpAnyU_end (by kernel_rfl) (fun w3 hq3=>?_)
      have hE3:=hE2.keep hq3
      have hb3:Below S w w3:=hb2.trans (hq3.mono (HSS.out _ hb2))
      go_wp2
      refine bodyPost_ret (v:=.tuple #[.agg (vals .u64 s),.int .i64 (D:Int)]) (results_row_tmp rfl _ _ (S+1) _ _ _ _ _ rfl rfl hE3.eq Tryz.underlying24 rfl (by rw[vals_size,FIN.out.1];kernel_rfl)) rfl ⟨s,D,rfl,FIN.out.1,FIN.out.2.1,FIN.out.2.2.1,FIN.out.2.2.2,hb3⟩
    · have E1:=eq6_ne u v LU.out LV.out huv
      have hnum:num u≠num v:=fun h=>huv (num_inj HI.out.2.1 HI.out.2.2.2.1 (LU.out.trans LV.out.symm) h)
      have EU:Keep (Euc (num a) (num u) (num v) (num r) (num s) D):=⟨HI.out.2.2.2.2.2.2.2.2⟩
      have HDs:=EU.out.small AP.out
      have HNU:Keep (num u≠num v):=⟨hnum⟩
      clear huv hnum
      go_wp2_with (first
        | (refine wpList_load_row rfl 24 (.tmp 4) rfl g4 rfl _ _ _ _ hU.eq Tryz.underlying24 rfl (by rw[vals_size,LU.out];kernel_rfl) ?_)
        | (refine wpList_load_row rfl 24 (.tmp 5) rfl g5 rfl _ _ _ _ hV.eq Tryz.underlying24 rfl (by rw[vals_size,LV.out];kernel_rfl) ?_))
      have CM:∀w',Below wr.heap.size wr w'->Calls Tryz.prog 173 #[.slice (some ⟨g4,0,none⟩) 6 6,.slice (some ⟨g5,0,none⟩) 6 6] w' fun e w''=>e=.returned (.int .i64 (cmpL u v))/\Below w'.heap.size w' w'':=fun w' hb'=>cmp_c (some ⟨g4,0,none⟩) 6 6 u (some ⟨g5,0,none⟩) 6 6 v w'.heap.size w' (Rd.of_has (off:=0) (hU.keep hb') (hU.keep hb').lt (by rw[List.drop_zero,take_all LU.out]) (by rw[LU.out];exact Nat.le_refl _)) HI.out.2.1 (Rd.of_has (off:=0) (hV.keep hb') (hV.keep hb').lt (by rw[List.drop_zero,take_all LV.out]) (by rw[LV.out];exact Nat.le_refl _)) HI.out.2.2.2.1 (Nat.le_refl _) (by omega) (by omega)
      by_cases hlt:num u<num v
      · have hz:cmpL u v=-1:=by
          rw[cmpL]
          rw[if_pos hlt]
        have HLT:Keep (num u<num v):=⟨by have:=HNU.out;omega⟩
        have CMP:Keep _:=⟨CM⟩
        rw[hz] at CMP
        clear hz hlt CM
        refine wp_fam_all (by kernel_rfl) (by kernel_rfl) (fun I hI' fw hf hback=>?_)
        repeat (go_big_quiet_step (first|fail|(go_at_call 173;with_reducible exact calls_fam hf hback (CMP.out _ (hf _)))))
        refine wpQuiet_nil ?_
        intro w1 hq
        have hU1:=hU.keep hq
        have hV1:=hV.keep hq
        have hR1:=hR.keep hq
        have hS1:=hS.keep hq
        have hD1:=hD.keep hq
        have hE1:=hE.keep hq
        have HG1:Keep _:=⟨HG.out.keep hq⟩
        have hb1:=hb.trans (hq.mono (HSS.out _ hb))
        clear hf hback hq hU hV hR hS hD hE HG hb CMP E1
        go_wp2_with (first
        | (go_at_call 169
           refine (makeOdd_c g5 g6 g8 24 24 3 x2 r D X2.out.1 X2.out.2.1 HI.out.2.2.2.2.1 HI.out.2.2.2.2.2.1 E4.out.v0 E4.out.fit.1 (by omega) n56 hg58 hg68 F5.out F6.out F8.out _ HG3.out hV3 hR3 hD3).mono ?_
           rintro e w4 ⟨rfl,xx,rr,d,hA4,hB4,hD4,hI4,hG4,hF4⟩
           have hC4:=hF4.has _ _ _ hU3 n45 n46 hg48
           have hP4:=hF4.has _ _ _ hS3 n57.symm n67.symm hg78
           have hE4:=hF4.has _ _ _ hE3 (by omega) (by omega) (by omega)
           have HG4:Keep _:=⟨hG4⟩
           have hb4:=hb3.trans (hF4.below S (by omega) (by omega) (by omega) (HSS.out _ hb3))
           have EN:Keep _:=⟨E4.out.odd_v hI4.2.2.2.2.2.1 hI4.2.2.2.2.1 hI4.2.2.2.2.2.2⟩
           have HX4:Keep _:=⟨hI4⟩
           clear hG4 hF4 hI4 hD3 hE3 hb3 hU3 hV3 hR3 hS3)
        | (go_at_call 149
           refine (addTo_c g7 g6 24 24 s r HI.out.2.2.2.2.2.2.1 HI.out.2.2.2.2.1 HI.out.2.2.2.2.2.2.2.1 HI.out.2.2.2.2.2.1 n67.symm _ hS2 hR2).mono ?_
           rintro e w3 ⟨rfl,p3,d3,hS3,hl,hw,hs,hd0,hd1,ho⟩
           have P3:Keep (p3.length=6/\Words p3/\num p3=num s+num r):=⟨hl,hw,sum_fit hs (num_bounds hw).1 hd0 (by have:=EU.out.fit.2.2;omega)⟩
           have E4:Keep _:=⟨EU.out.sub_v HLT.out X2.out.2.2 P3.out.2.2⟩
           clear hl hw hs hd0 hd1
           have hU3:=ho.has hU2 n47
           have hV3:=ho.has hV2 n57
           have hR3:=ho.has hR2 n67
           have hD3:=ho.has hD2 hg78.symm
           have hE3:=ho.has hE2 (by omega)
           have HG3:Keep _:=⟨HG2.out.only ho F7.out⟩
           have hb3:=hb2.trans (ho.below (B:=S) (by omega) (HSS.out _ hb2))
           clear ho hD2 hE2 hb2 hU2 hV2 hR2 hS2
           )
        | (go_at_call 148
           refine (takeFrom_c g5 g4 24 24 v u HI.out.2.2.1 HI.out.1 HI.out.2.2.2.1 HI.out.2.1 n45.symm _ hV1 hU1).mono ?_
           rintro e w2 ⟨x2,d2,rfl,hV2,hl,hw,hs,hd0,hd1,ho⟩
           have X2:Keep (x2.length=6/\Words x2/\num x2=num v-num u):=⟨hl,hw,less_sub HI.out.2.2.1 HI.out.2.2.2.1 hl hw hs (num_bounds HI.out.2.1).1 hd0 hd1 HLT.out⟩
           clear hl hw hs hd0 hd1
           have hU2:=ho.has hU1 n45
           have hR2:=ho.has hR1 n56.symm
           have hS2:=ho.has hS1 n57.symm
           have hD2:=ho.has hD1 hg58.symm
           have hE2:=ho.has hE1 (by omega)
           have HG2:Keep _:=⟨HG1.out.only ho F5.out⟩
           have hb2:=hb1.trans (ho.below (B:=S) (by omega) (HSS.out _ hb1))
           clear ho hD1 hE1 hb1 hU1 hV1 hR1 hS1
           ))
        have hk1:=HK.out
        have hk2:=le_pow HX4.out.2.2.2.2.2.1 HX4.out.2.2.2.2.1
        have hk3:=X2.out.2.2
        have hk5:=HX4.out.2.2.2.2.1
        have hk4:=EU.out.u0
        have HN:Keep (u.length=6/\Words u/\xx.length=6/\Words xx/\rr.length=6/\Words rr/\p3.length=6/\Words p3/\Euc (num a) (num u) (num xx) (num rr) (num p3) (D+d)):=⟨HI.out.1,HI.out.2.1,HX4.out.1,HX4.out.2.1,HX4.out.2.2.1,HX4.out.2.2.2.1,P3.out.1,P3.out.2.1,EN.out⟩
        go_roundg (gk-1)
        case measure=>omega
        case rel=>exact⟨u,xx,rr,p3,D+d,HN,⟨by omega⟩,hC4,hA4,hB4,hP4,hD4,hE4,HG4,hb4⟩
      · have hz:cmpL u v=1:=by
          rw[cmpL]
          rw[if_neg hlt,if_neg HNU.out]
        have HLT:Keep (num v<num u):=⟨by have:=HNU.out;omega⟩
        have CMP:Keep _:=⟨CM⟩
        rw[hz] at CMP
        clear hz hlt CM
        refine wp_fam_all (by kernel_rfl) (by kernel_rfl) (fun I hI' fw hf hback=>?_)
        repeat (go_big_quiet_step (first|fail|(go_at_call 173;with_reducible exact calls_fam hf hback (CMP.out _ (hf _)))))
        refine wpQuiet_nil ?_
        intro w1 hq
        have hU1:=hU.keep hq
        have hV1:=hV.keep hq
        have hR1:=hR.keep hq
        have hS1:=hS.keep hq
        have hD1:=hD.keep hq
        have hE1:=hE.keep hq
        have HG1:Keep _:=⟨HG.out.keep hq⟩
        have hb1:=hb.trans (hq.mono (HSS.out _ hb))
        clear hf hback hq hU hV hR hS hD hE HG hb CMP E1
        go_wp2_with (first
        | (go_at_call 169
           refine (makeOdd_c g4 g7 g8 24 24 3 x2 s D X2.out.1 X2.out.2.1 HI.out.2.2.2.2.2.2.1 HI.out.2.2.2.2.2.2.2.1 E4.out.u0 E4.out.fit.2.1 (by omega) n47 hg48 hg78 F4.out F7.out F8.out _ HG3.out hU3 hS3 hD3).mono ?_
           rintro e w4 ⟨rfl,xx,rr,d,hA4,hB4,hD4,hI4,hG4,hF4⟩
           have hC4:=hF4.has _ _ _ hV3 n45.symm n57 hg58
           have hP4:=hF4.has _ _ _ hR3 n46.symm n67 hg68
           have hE4:=hF4.has _ _ _ hE3 (by omega) (by omega) (by omega)
           have HG4:Keep _:=⟨hG4⟩
           have hb4:=hb3.trans (hF4.below S (by omega) (by omega) (by omega) (HSS.out _ hb3))
           have EN:Keep _:=⟨E4.out.odd_u hI4.2.2.2.2.2.1 hI4.2.2.2.2.1 hI4.2.2.2.2.2.2⟩
           have HX4:Keep _:=⟨hI4⟩
           clear hG4 hF4 hI4 hD3 hE3 hb3 hU3 hV3 hR3 hS3)
        | (go_at_call 149
           refine (addTo_c g6 g7 24 24 r s HI.out.2.2.2.2.1 HI.out.2.2.2.2.2.2.1 HI.out.2.2.2.2.2.1 HI.out.2.2.2.2.2.2.2.1 n67 _ hR2 hS2).mono ?_
           rintro e w3 ⟨rfl,p3,d3,hR3,hl,hw,hs,hd0,hd1,ho⟩
           have P3:Keep (p3.length=6/\Words p3/\num p3=num r+num s):=⟨hl,hw,sum_fit hs (num_bounds hw).1 hd0 (by have:=EU.out.fit.2.2;omega)⟩
           have E4:Keep _:=⟨EU.out.sub_u HLT.out X2.out.2.2 P3.out.2.2⟩
           clear hl hw hs hd0 hd1
           have hU3:=ho.has hU2 n46
           have hV3:=ho.has hV2 n56
           have hS3:=ho.has hS2 n67.symm
           have hD3:=ho.has hD2 hg68.symm
           have hE3:=ho.has hE2 (by omega)
           have HG3:Keep _:=⟨HG2.out.only ho F6.out⟩
           have hb3:=hb2.trans (ho.below (B:=S) (by omega) (HSS.out _ hb2))
           clear ho hD2 hE2 hb2 hU2 hV2 hR2 hS2
           )
        | (go_at_call 148
           refine (takeFrom_c g4 g5 24 24 u v HI.out.1 HI.out.2.2.1 HI.out.2.1 HI.out.2.2.2.1 n45 _ hU1 hV1).mono ?_
           rintro e w2 ⟨x2,d2,rfl,hU2,hl,hw,hs,hd0,hd1,ho⟩
           have X2:Keep (x2.length=6/\Words x2/\num x2=num u-num v):=⟨hl,hw,less_sub HI.out.1 HI.out.2.1 hl hw hs (num_bounds HI.out.2.2.2.1).1 hd0 hd1 HLT.out⟩
           clear hl hw hs hd0 hd1
           have hV2:=ho.has hV1 n45.symm
           have hR2:=ho.has hR1 n46.symm
           have hS2:=ho.has hS1 n47.symm
           have hD2:=ho.has hD1 hg48.symm
           have hE2:=ho.has hE1 (by omega)
           have HG2:Keep _:=⟨HG1.out.only ho F4.out⟩
           have hb2:=hb1.trans (ho.below (B:=S) (by omega) (HSS.out _ hb1))
           clear ho hD1 hE1 hb1 hU1 hV1 hR1 hS1
           ))
        have hk1:=HK.out
        have hk2:=le_pow HX4.out.2.2.2.2.2.1 HX4.out.2.2.2.2.1
        have hk3:=X2.out.2.2
        have hk5:=HX4.out.2.2.2.2.1
        have hk4:=EU.out.v0
        have HN:Keep (xx.length=6/\Words xx/\v.length=6/\Words v/\p3.length=6/\Words p3/\rr.length=6/\Words rr/\Euc (num a) (num xx) (num v) (num p3) (num rr) (D+d)):=⟨HX4.out.1,HX4.out.2.1,HI.out.2.2.1,HI.out.2.2.2.1,P3.out.1,P3.out.2.1,HX4.out.2.2.1,HX4.out.2.2.2.1,EN.out⟩
        go_roundg (gk-1)
        case measure=>omega
        case rel=>exact⟨xx,v,p3,rr,D+d,HN,⟨by omega⟩,hA4,hC4,hP4,hB4,hD4,hE4,HG4,hb4⟩
end Fp
namespace Fp
open Go Go.RowKit Reg Base Limb Bits
def undL:List Int:=[10454859253183940369,4959273314082530696,6883765490207098161,12556295555899814999,10912384135759873330,1061470279007220875]
theorem und_words:Words undL:=words_of _ (by decide)
theorem und_inv:(2^767*num undL)%PP=1:=by decide +kernel
theorem inv_one {A x y:Int}(hx:(A*x)%PP=1)(hy:(A*y)%PP=1):x%PP=y%PP:=by
 have h1:(x*(A*y))%PP=x%PP:=by rw[Int.mul_emod,hy,Int.mul_one,Int.emod_emod]
 have h2:((A*x)*y)%PP=y%PP:=by rw[Int.mul_emod,hx,Int.one_mul,Int.emod_emod]
 rw[<-h1,<-h2]
 congr 1
 grind
theorem inv_end {x:Int}{s:List Int}{D f:Nat}(hx:x%PP≠0)(hs:(num (fe x)*num s)%PP=2^D%PP)(hf:D+f=767) :
  fe (num (fe (num s*num (fe (2^f))))*num undL)=fe (pw x (PP-2)):=by
 rw[fe_mulr,fe_mull,<-fe_pw x]
 refine fe_congr (inv_one (A:=num (fe x)) ?_ ?_)
 ·rw[show num (fe x)*(num s*2^f*num undL)=(num (fe x)*num s)*(2^f*num undL) by grind,Int.mul_emod,hs,<-Int.mul_emod,<-Int.mul_assoc,<-Int.pow_add,hf]
  exact und_inv
 ·exact pw_inverse (by rw[num_fe,Int.emod_emod];exact hx)
def bitAt (f:Nat):List Int:=(List.replicate 12 (0:Int)).set (f/64) (2^(f%64))
theorem bitAt_spec {f:Nat}(h:f<=767):(bitAt f).length=12/\Words (bitAt f)/\num (bitAt f)=2^f:=by
 have h1:f/64<12:=by omega
 have h2:(2:Int)^(f%64)<18446744073709551616:=by
  have h3:=tp_le (show f%64<=63 by omega)
  have h4:tp 63=9223372036854775808:=by decide
  have h5:(2:Int)^(f%64)=tp (f%64):=rfl
  omega
 have h0:(0:Int)<2^(f%64):=Int.pow_pos (by omega)
 refine⟨by simp[bitAt],words_set (words_zeros 12) (by omega) (by omega),?_⟩
 rw[bitAt,num_set _ (by simpa using h1),num_zeros]
 have h3:nth (List.replicate 12 (0:Int)) (f/64)=0:=by unfold nth;rw[List.getD_eq_getElem?_getD,List.getElem?_replicate];split<;>rfl
 rw[h3,Int.zero_add,Int.sub_zero]
 have h4:=tp_wp (f/64)
 have h5:wp (f/64)*tp (f%64)=tp f:=by
  rw[<-h4,<-tp_add]
  congr 1
  omega
 exact h5
set_option maxHeartbeats 2000000 in
theorem fpInv_c (a:List Int)(hla:a.length=6)(hwa:Words a)(w:World)(hG:GlobD w):Calls Tryz.prog 127 #[.agg (vals .u64 a)] w fun e w'=>e=.returned (.agg (vals .u64 (fe (pw (num a) (PP-2)))))/\Below w.heap.size w w':=by
  obtain⟨o,ho⟩:∃o,fe (pw (num a) (PP-2))=o:=⟨_,rfl⟩
  have OL:Keep (o.length=6):=⟨by rw[<-ho];exact fe_len _⟩
  have LA:Keep _:=⟨hla⟩
  have WA:Keep _:=⟨hwa⟩
  obtain⟨S,hS⟩:∃S,w.heap.size=S:=⟨_,rfl⟩
  have hA0:Has ((w.alloc (.cells (vals .u64 a) 24)).alloc (.cells (vals .u64 Z6) 24)) S 24 (vals .u64 a):=by exact (Has.new' _ hS.symm _ _).alloc _
  have hR0:Has ((w.alloc (.cells (vals .u64 a) 24)).alloc (.cells (vals .u64 Z6) 24)) (S+1) 24 (vals .u64 Z6):=by exact Has.new' _ (by rw[World.size_alloc,hS]) _ _
  have hb0:Below S w ((w.alloc (.cells (vals .u64 a) 24)).alloc (.cells (vals .u64 Z6) 24)):=by rw[<-hS];exact ((Below.refl _ _).alloc (Nat.le_refl _) _).alloc (by simp) _
  have HG0:Keep (GlobD ((w.alloc (.cells (vals .u64 a) 24)).alloc (.cells (vals .u64 Z6) 24))):=⟨hG.keep (by rw[hS];exact hb0)⟩
  have HS0:Keep (S<=w.heap.size):=⟨by omega⟩
  have FR:Keep (∀g,S<=g->FreeD g):=⟨fun g hg=>hG.free (by omega)⟩
  have HSS:Keep (∀w',Below S w w'->S<=w'.heap.size):=⟨fun w' hb=>Nat.le_trans HS0.out hb.size⟩
  have hgd:=gd6
  rw[ho,hS]
  obtain⟨x,hx⟩:∃x,fe (num a)=x:=⟨_,rfl⟩
  have LX:Keep (x.length=6):=⟨by rw[<-hx];exact fe_len _⟩
  have WX:Keep (Words x):=⟨by rw[<-hx];exact fe_words _⟩
  have HX:Keep _:=⟨hx⟩
  clear hla hwa hG
  by_cases hz:x=Z6
  · have FIN:Keep (Z6=o):=⟨by
      rw[<-ho]
      have:num a%PP=0:=by
        have h1:num x=0:=by rw[hz];decide +kernel
        rw[<-hx,num_fe] at h1
        exact h1
      rw[fe_inv_zero this,fe_zero]⟩
    have E1:=eq6 Z6 rfl
    have HZ:Keep _:=⟨hz⟩
    clear hz ho hx
    go_enter Tryz.func127,Tryz.ntmps127
    go_wp2_with (first
      | (refine wpList_load_row rfl 24 (.tmp 1) rfl S rfl _ _ _ _ hA1.eq Tryz.underlying24 rfl (by kernel_rfl) ?_)
      | (refine wpList_buildTo (by rfl) 24 #[] (by rfl) (some 10) (by rfl) (vals .u64 Z6) (by kernel_rfl) ?_)
      | (refine wpList_store_rowTo rfl 24 (.tmp 2) (.tmp 12) rfl rfl (S+1) (vals .u64 Z6) rfl rfl _ _ hR1.eq (by kernel_rfl) (by rfl) vals_one ?_)
      | (go_at_call 147
         refine (fpLower_c S 24 a LA.out WA.out (FR.out _ (Nat.le_refl _)).toFree _ HG0.out.toGlob hA0).mono ?_
         rintro e w1 ⟨rfl,hA1,ho⟩
         rw[HX.out,HZ.out] at hA1
         have hR1:=ho.has hR0 (by omega)
         have hb1:=hb0.trans (ho.below (B:=S) (by omega) (HSS.out _ hb0))
         clear ho hA0 hR0 hb0))
    refine bodyPost_ret (v:=.agg (vals .u64 Z6)) (results_cell_row rfl _ _ (S+1) _ _ _ _ rfl (hR1.row _).eq Tryz.underlying24 rfl (by kernel_rfl)) rfl ⟨by rw[FIN.out],below_row hb1 (by omega) _⟩
  · have E1:=eq6_ne x Z6 LX.out rfl hz
    have hn:num a%PP≠0:=fun h=>hz (by rw[<-hx,(fe_zero_iff _).2 h,fe_zero])
    have h0:0<num x/\num x<PP:=by rw[<-hx,num_fe];have:=fe_mod (num a);omega
    have HN:Keep (0<num x/\num x<PP):=⟨h0⟩
    have FINF:Keep (∀(s:List Int) (D f:Nat),(num x*num s)%PP=2^D%PP->D+f=767->fe (num (fe (num s*num (fe (2^f))))*num undL)=o):=⟨fun s D f h1 h2=>by rw[<-ho];exact inv_end hn (by rw[hx];exact h1) h2⟩
    clear hz ho hx hn h0
    go_enter Tryz.func127,Tryz.ntmps127
    go_wp2_with (first
      | (refine store_word (by rfl) 22 (.tmp 26) (.tmp 25) (by rfl) (by rfl) w4.heap.size q (by rfl) .u64 y (by rfl) (by kernel_rfl) 115 (List.replicate 12 0) (Has.new _ _ _) (by rw[List.length_replicate];exact HQ.out.1) (bitAt f) HQ.out.2 (fun w5 hP5 ho=>?_)
         have hbe:Below w4.heap.size w4 w5:=((Below.refl w4.heap.size w4).alloc (Nat.le_refl _) (.cells (vals .u64 (List.replicate 12 0)) 115)).trans (ho.below (Nat.le_refl _) (by simp))
         have hI5:=hI4.keep hbe
         have hU5:=hU4.keep hbe
         have hR5:=hR4.keep hbe
         have HG5:Keep _:=⟨HG4.out.keep hbe⟩
         have hb5:=hb4.trans (hbe.mono (HSS.out _ hb4))
         have FP:Keep (FreeD w4.heap.size):=⟨FR.out _ (HSS.out _ hb4)⟩
         have nI:w3.heap.size≠w4.heap.size:=Nat.ne_of_lt hI4.lt
         have nU:w1.heap.size≠w4.heap.size:=Nat.ne_of_lt hU4.lt
         have nR:S+1≠w4.heap.size:=Nat.ne_of_lt hR4.lt
         have HS4:Keep (S<=w4.heap.size):=⟨HSS.out _ hb4⟩
         have NRI:Keep (w3.heap.size≠S+1):=⟨by have:=hR3lt.out;omega⟩
         have NRU:Keep (w1.heap.size≠S+1):=⟨by have:=hR1lt.out;omega⟩
         clear ho hbe hI4 hU4 hR4 HG4 hb4)
      | (refine store_abs2 (by rfl) 24 (.tmp 4) (.tmp 17) (by rfl) (by rfl) w3.heap.size (vals .u64 s) (by rfl) (by rfl) 24 (vals .u64 Z6) (Has.new' _ rfl _ _) (by rw[vals_size,HI.out.1];kernel_rfl) (by rw[vals_size,vals_size,HI.out.1];rfl) vals_one ?_
         intro w4 hI4 hkeep hbg
         have hbe:=((Below.refl w3.heap.size w3).alloc (Nat.le_refl _) (.cells (vals .u64 Z6) 24)).trans hbg
         have hU4:=hU3.keep hbe
         have hR4:=hR3.keep hbe
         have HG4:Keep _:=⟨HG3.out.keep hbe⟩
         have hb4:=hb3.trans (hbe.mono (HSS.out _ hb3))
         have hR3lt:Keep (S+1<w3.heap.size):=⟨hR3.lt⟩
         obtain⟨f,hf⟩:∃f:Nat,D+f=767:=⟨767-D,by have:=HI.out.2.2.2;omega⟩
         have hfD:(767:Int)-(D:Int)=(f:Int):=by omega
         have hf767:f<=767:=by omega
         obtain⟨q,hq⟩:∃q,f/64=q:=⟨_,rfl⟩
         obtain⟨e2,he2⟩:∃e2,f%64=e2:=⟨_,rfl⟩
         have hqi:(f:Int).tdiv 64=(q:Int):=by rw[Int.tdiv_eq_ediv_of_nonneg (by omega)];omega
         have hri:(f:Int).tmod 64=(e2:Int):=by rw[Int.tmod_eq_emod_of_nonneg (by omega)];omega
         have he64:e2<=63:=by omega
         have hq12:q<=11:=by omega
         obtain⟨y,hy⟩:∃y,(2:Int)^e2=y:=⟨_,rfl⟩
         have hyw:IntKind.u64.wrap y=y:=by
           have h2:=tp_le he64
           have h3:tp 63=9223372036854775808:=by decide
           have h4:tp e2=y:=hy
           have h5:=tp_pos e2
           rw[IntKind.wrap_u64]
           omega
         have HQ:Keep (q<12/\(List.replicate 12 (0:Int)).set q y=bitAt f):=⟨by omega,by rw[bitAt,hq,he2,hy]⟩
         have HF:Keep (D+f=767):=⟨hf⟩
         have HB:=bitAt_spec hf767
         have HB':Keep _:=⟨HB⟩
         clear hkeep hbg hbe hU3 hR3 hb3 hf hq he2 HB)
      | (go_at_call 154
         refine (doubledInverse_c x LX.out WX.out HN.out.1 HN.out.2 _ HG2.out).mono ?_
         rintro e w3 ⟨s,D,rfl,hls,hws,hsD,hD,hq⟩
         have hU3:=hU2.keep hq
         have hR3:=hR2.keep hq
         have HG3:Keep _:=⟨HG2.out.keep hq⟩
         have hb3:=hb2.trans (hq.mono (HSS.out _ hb2))
         have HI:Keep (s.length=6/\Words s/\(num x*num s)%PP=2^D%PP/\D<=767):=⟨hls,hws,hsD,hD⟩
         clear hq hA2 hU2 hR2 hb2 hls hws hsD hD)
      | (refine wpList_load_row rfl 24 (.tmp 1) rfl S rfl _ _ _ _ hA2.eq Tryz.underlying24 rfl (by rw[vals_size,LX.out];kernel_rfl) ?_)
      | (refine wpList_buildFlatArrTo rfl 24 22 6 _ rfl .u64 undL (some 13) rfl Tryz.underlying24 (by kernel_rfl) (by kernel_rfl) rfl ?_)
      | (refine store_abs2 (by rfl) 24 (.tmp 3) (.tmp 13) (by rfl) (by rfl) w1.heap.size (vals .u64 undL) (by rfl) (by rfl) 24 (vals .u64 Z6) (Has.new' _ rfl _ _) (by kernel_rfl) (by rfl) vals_one ?_
         intro w2 hU2 hkeep hbg
         have hbe:=((Below.refl w1.heap.size w1).alloc (Nat.le_refl _) (.cells (vals .u64 Z6) 24)).trans hbg
         have hR1lt:Keep (S+1<w1.heap.size):=⟨hR1.lt⟩
         have hA2:=hA1.keep hbe
         have hR2:=hR1.keep hbe
         have HG2:Keep _:=⟨HG1.out.keep hbe⟩
         have hb2:=hb1.trans (hbe.mono (HSS.out _ hb1))
         clear hkeep hbg hbe hA1 hR1 hb1 E1)
      | (refine wpList_load_row rfl 24 (.tmp 1) rfl S rfl _ _ _ _ hA1.eq Tryz.underlying24 rfl (by rw[vals_size,LX.out];kernel_rfl) ?_)
      | (refine wpList_buildTo (by rfl) 24 #[] (by rfl) (some 10) (by rfl) (vals .u64 Z6) (by kernel_rfl) ?_)
      | (go_at_call 147
         refine (fpLower_c S 24 a LA.out WA.out (FR.out _ (Nat.le_refl _)).toFree _ HG0.out.toGlob hA0).mono ?_
         rintro e w1 ⟨rfl,hA1,ho⟩
         rw[HX.out] at hA1
         have hR1:=ho.has hR0 (by omega)
         have HG1:Keep _:=⟨HG0.out.only ho (FR.out _ (Nat.le_refl _))⟩
         have hb1:=hb0.trans (ho.below (B:=S) (by omega) (HSS.out _ hb0))
         clear ho hA0 hR0 hb0))
    have HS2:Keep (∀w w':World,(Has w w3.heap.size 24 (vals .u64 s)/\Has w w1.heap.size 24 (vals .u64 undL))->Below w.heap.size w w'->(Has w' w3.heap.size 24 (vals .u64 s)/\Has w' w1.heap.size 24 (vals .u64 undL))):=⟨fun w w' h hb=>⟨h.1.keep hb,h.2.keep hb⟩⟩
    have hdr:(Has w5.drew w3.heap.size 24 (vals .u64 s)/\Has w5.drew w1.heap.size 24 (vals .u64 undL)):=⟨hI5.drew,hU5.drew⟩
    have hPd:=hP5.drew
    have hRd:=hR5.drew
    have HGd:Keep (GlobD w5.drew):=⟨HG5.out.keep ⟨rfl,rfl,rfl,Nat.le_refl _,fun _ _=>rfl⟩⟩
    have hbd:Below S w w5.drew:=hb5.trans ⟨rfl,rfl,rfl,Nat.le_refl _,fun _ _=>rfl⟩
    have FIN:Keep _:=⟨FINF.out s D f HI.out.2.2.1 HF.out⟩
    clear hI5 hU5 hP5 hR5 HG5 hb5 HG0
    refine wp_regionU (S:=fun x=>(Has x w3.heap.size 24 (vals .u64 s)/\Has x w1.heap.size 24 (vals .u64 undL))) (by kernel_rfl) ?_
    change wpAnyU _ _ _ _ _ 6 _ _ _
    refine wpAnyU_take (i:=0) (v:=_) HS2.out (by rfl) (by kernel_rfl) (by kernel_rfl) (by kernel_rfl) (fun _ _ d _ _ h=>by cases d<;>exact h) hdr (Steady.load_seg (by rfl) 24 (.tmp 4) (by rfl) w3.heap.size 0 6 (by rfl) 24 .u64 s s _ (fun w hw=>hw.1) Tryz.underlying24 rfl (by kernel_rfl) (by rw[List.drop_zero,take_all HI.out.1]) (by rw[HI.out.1];exact Nat.le_refl _)) ?_
    simp only[List.getElem_toArray,List.getElem_cons_zero,List.getElem_cons_succ,Act.put,List.setIfInBounds_toArray,List.set_cons_zero,List.set_cons_succ]
    refine wpAnyU_take (i:=3) (v:=_) HS2.out (by rfl) (by kernel_rfl) (by kernel_rfl) (by kernel_rfl) (fun _ _ d _ _ h=>by cases d<;>exact h) hdr (Steady.load_seg (by rfl) 24 (.tmp 3) (by rfl) w1.heap.size 0 6 (by rfl) 24 .u64 undL undL _ (fun w hw=>hw.2) Tryz.underlying24 rfl (by kernel_rfl) (by rfl) (by decide)) ?_
    simp only[List.getElem_toArray,List.getElem_cons_zero,List.getElem_cons_succ,Act.put,List.setIfInBounds_toArray,List.set_cons_zero,List.set_cons_succ]
    refine wpAnyU_run (i:=1) (by rfl) (by kernel_rfl) (fun w6 hq=>?_)
    have hP6:=hPd.keep hq
    have hR6:=hRd.keep hq
    have hS6:=HS2.out _ _ hdr hq
    have HG6:Keep _:=⟨HGd.out.keep hq⟩
    have hb6:=hbd.trans (hq.mono (HSS.out _ hbd))
    clear hPd hRd hdr HGd hbd hq
    refine wpList_own (by rfl) ?_
    go_wp2_with (go_at_call 152
                 refine (folded_c w4.heap.size 115 (bitAt f) HB'.out.1 HB'.out.2.1 FP.out.toFree _ HG6.out.toGlob hP6).mono ?_
                 rintro e w7 ⟨rfl,ho⟩
                 rw[HB'.out.2.2]
                 have SK:Keep (Has w7 w3.heap.size 24 (vals .u64 s)/\Has w7 w1.heap.size 24 (vals .u64 undL)):=⟨⟨ho.has hS6.1 nI,ho.has hS6.2 nU⟩⟩
                 have hR7:=ho.has hR6 nR
                 have HG7:Keep _:=⟨HG6.out.only ho FP.out⟩
                 have hb7:=hb6.trans (ho.below (B:=S) (HS4.out) (HSS.out _ hb6))
                 clear ho hP6 hR6 hS6 hb6)
    refine⟨SK.out,?_⟩
    refine wpAnyU_run (i:=2) (by rfl) (by kernel_rfl) (fun w8 hq=>?_)
    have hR8:=hR7.keep hq
    have SK8:Keep (Has w8 w3.heap.size 24 (vals .u64 s)/\Has w8 w1.heap.size 24 (vals .u64 undL)):=⟨HS2.out _ _ SK.out hq⟩
    have HG8:Keep _:=⟨HG7.out.keep hq⟩
    have hb8:=hb7.trans (hq.mono (HSS.out _ hb7))
    clear hR7 SK HG7 hb7 hq
    refine wpList_own (by rfl) ?_
    go_wp2_with (go_at_call 120
                 refine (fpMul_c s HI.out.1 HI.out.2.1 (fe (2^f)) (fe_len _) (fe_words _) _ HG8.out.toGlob).mono ?_
                 rintro e w9 ⟨rfl,hq⟩
                 have hR9:=hR8.keep hq
                 have SK9:Keep (Has w9 w3.heap.size 24 (vals .u64 s)/\Has w9 w1.heap.size 24 (vals .u64 undL)):=⟨HS2.out _ _ SK8.out hq⟩
                 have HG9:Keep _:=⟨HG8.out.keep hq⟩
                 have hb9:=hb8.trans (hq.mono (HSS.out _ hb8))
                 clear hR8 SK8 hb8 hq)
    refine⟨SK9.out,?_⟩
    refine wpAnyU_run (i:=4) (by rfl) (by kernel_rfl) (fun w10 hq=>?_)
    have hR10:=hR9.keep hq
    have SK10:Keep (Has w10 w3.heap.size 24 (vals .u64 s)/\Has w10 w1.heap.size 24 (vals .u64 undL)):=⟨HS2.out _ _ SK9.out hq⟩
    have HG10:Keep _:=⟨HG9.out.keep hq⟩
    have hb10:=hb9.trans (hq.mono (HSS.out _ hb9))
    clear hR9 SK9 HG9 hb9 hq
    refine wpList_own (by rfl) ?_
    go_wp2_with (go_at_call 120
                 refine (fpMul_c (fe (num s*num (fe (2^f)))) (fe_len _) (fe_words _) undL rfl und_words _ HG10.out.toGlob).mono ?_
                 rintro e w11 ⟨rfl,hq⟩
                 rw[FIN.out]
                 have hR11:=hR10.keep hq
                 have SK11:Keep (Has w11 w3.heap.size 24 (vals .u64 s)/\Has w11 w1.heap.size 24 (vals .u64 undL)):=⟨HS2.out _ _ SK10.out hq⟩
                 have hb11:=hb10.trans (hq.mono (HSS.out _ hb10))
                 clear hR10 SK10 hb10 hq)
    refine⟨SK11.out,?_⟩
    refine wpAnyU_run (i:=5) (by rfl) (by kernel_rfl) (fun w12 hq=>?_)
    refine store_abs2 (by rfl) 24 (.tmp 2) (.tmp 31) (by rfl) (by rfl) (S+1) (vals .u64 o) (by rfl) (by rfl) 24 (vals .u64 Z6) (hR11.keep hq) (by rw[vals_size,OL.out];kernel_rfl) (by rw[vals_size,vals_size,OL.out];rfl) vals_one ?_
    intro w13 hR13 hkeep hbg
    have hs13:=HS2.out _ _ SK11.out hq
    refine⟨⟨hkeep _ _ _ hs13.1 NRI.out,hkeep _ _ _ hs13.2 NRU.out⟩,?_⟩
    have hb13:Below S w w13:=(hb11.trans (hq.mono (HSS.out _ hb11))).trans (hbg.mono (by omega))
    refine wpAnyU_end (by kernel_rfl) (fun w14 hq4=>?_)
    have hR14:=hR13.keep hq4
    have hb14:=hb13.trans (hq4.mono (HSS.out _ hb13))
    go_wp2
    refine bodyPost_ret (v:=.agg (vals .u64 o)) (results_cell_row rfl _ _ (S+1) _ _ _ _ rfl hR14.eq Tryz.underlying24 rfl (by rw[vals_size,OL.out];kernel_rfl)) rfl ⟨rfl,hb14⟩
end Fp
end Go.Proofs.YtjamcbjghffboaaGreatDoor
