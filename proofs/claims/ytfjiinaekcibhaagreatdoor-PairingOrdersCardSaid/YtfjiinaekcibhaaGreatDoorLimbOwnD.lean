/-
  Own text.
-/
import Derived.Test.YtfjiinaekcibhaaGreatDoorLimbOwnA
namespace Go.Proofs.YtfjiinaekcibhaaGreatDoor
namespace Limb
open Go Go.RowKit Reg Base Bits
structure Only (g:Nat) (w w':World):Prop where
 os:w'.os=w.os
 tape:w'.tape=w.tape
 output:w'.output=w.output
 size:w.heap.size≤w'.heap.size
 block:∀k,k<w.heap.size→k≠g→w'.heap[k]? = w.heap[k]?
section
variable {g B:Nat} {a w w':World}
theorem Only.refl (g:Nat)(w:World):Only g w w:=⟨rfl,rfl,rfl,Nat.le_refl _,fun _ _ _=>rfl⟩
theorem Only.then (h:Only g a w)(k:Below B w w')(hB:a.heap.size≤B):Only g a w':=
 ⟨k.os.trans h.os,k.tape.trans h.tape,k.output.trans h.output,Nat.le_trans h.size k.size,fun i hi hne=>(k.block i (by omega)).trans (h.block i hi hne)⟩
theorem Only.trans (h:Only g a w)(k:Only g w w'):Only g a w':=
 ⟨k.os.trans h.os,k.tape.trans h.tape,k.output.trans h.output,Nat.le_trans h.size k.size,fun i hi hne=>(k.block i (Nat.lt_of_lt_of_le hi h.size) hne).trans (h.block i hi hne)⟩
theorem Only.set_ (h:Only g a w){p:Addr}(hp:p.block=g)(v:Value):Only g a (w.setCell p v):=by
 refine⟨h.os,h.tape,h.output,?_,fun i hi hne=>?_⟩
 ·have:=((Below.refl 0 w).setCell (p:=p) (Nat.zero_le _) v).size
  exact Nat.le_trans h.size this
 ·rw[heap_setCell_other w p i v (by rw[hp];exact hne)]
  exact h.block i hi hne
theorem Only.below (h:Only g w w')(hB:B≤g)(hB':B≤w.heap.size):Below B w w':=⟨h.os,h.tape,h.output,h.size,fun k hk=>h.block k (by omega) (by omega)⟩
theorem Only.has (h:Only g w w'){g':Nat}{t:TypeId}{cs:Array Value}(hh:Has w g' t cs)(hne:g'≠g):Has w' g' t cs:=⟨(h.block g' hh.lt hne).trans hh.eq⟩
theorem Only.of_below (h:Below w.heap.size w w')(g:Nat):Only g w w':=⟨h.os,h.tape,h.output,h.size,fun k hk _=>h.block k hk⟩
end
theorem word_prod {x y:Int}(hx0:0≤x)(hx1:x≤18446744073709551615)(hy0:0≤y)(hy1:y≤18446744073709551615):0≤x*y∧x*y≤340282366920938463426481119284349108225:=by
 refine⟨Int.mul_nonneg hx0 hy0,?_⟩
 have h1:x*y≤18446744073709551615*y:=Int.mul_le_mul_of_nonneg_right hx1 hy0
 omega
theorem word_add {p c t:Int}(hp0:0≤p)(hp1:p≤340282366920938463426481119284349108225)(hc0:0≤c)(hc1:c≤18446744073709551615)(ht0:0≤t)(ht1:t≤18446744073709551615) :
  ((p%18446744073709551616+c)%18446744073709551616+t)%18446744073709551616=(p+c+t)%18446744073709551616 ∧
  p/18446744073709551616+(p%18446744073709551616+c)/18446744073709551616+((p%18446744073709551616+c)%18446744073709551616+t)/18446744073709551616=(p+c+t)/18446744073709551616 ∧
  0≤p/18446744073709551616∧p/18446744073709551616+(p%18446744073709551616+c)/18446744073709551616≤18446744073709551615 ∧
  0≤(p+c+t)/18446744073709551616∧(p+c+t)/18446744073709551616≤18446744073709551615:=by omega
set_option maxRecDepth 100000 in
set_option maxHeartbeats 1000000 in
theorem addNext_c (t y x cy:Int)(ht0:0≤t)(ht1:t≤18446744073709551615)(hy0:0≤y)(hy1:y≤18446744073709551615)(hx0:0≤x)(hx1:x≤18446744073709551615)(hc0:0≤cy)(hc1:cy≤18446744073709551615)(g g':Nat)(w:World)(hX:Has w g 26 (vals .u64 [x]))(hC:Has w g' 26 (vals .u64 [cy])) :
  Calls Tryz.prog 79 #[.int .u64 t,.int .u64 y,.pointer (some ⟨g,0,none⟩),.pointer (some ⟨g',0,none⟩)] w fun e w'=>e=.returned (.int .u64 ((x*y+cy+t)%18446744073709551616))∧Has w' g' 26 (vals .u64 [(x*y+cy+t)/18446744073709551616])∧(∀g1 t1 cs1,Has w g1 t1 cs1→g1≠g'→Has w' g1 t1 cs1)∧Below g' w w':=by
 have hp:=word_prod hx0 hx1 hy0 hy1
 have ar:=word_add hp.1 hp.2 hc0 hc1 ht0 ht1
 have MU:=fun w=>mul64_c x y hx0 hx1 hy0 hy1 w
 obtain⟨hi,hhi⟩:∃z,x*y/18446744073709551616=z:=⟨_,rfl⟩
 obtain⟨lo,hlo⟩:∃z,x*y%18446744073709551616=z:=⟨_,rfl⟩
 rw[hhi,hlo] at MU ar
 have MU':Keep _:=⟨MU⟩
 have blo:0≤lo∧lo≤18446744073709551615:=by omega
 obtain⟨u,hu⟩:∃u,(x*y+cy+t)%18446744073709551616=u:=⟨_,rfl⟩
 obtain⟨v,hv⟩:∃v,(x*y+cy+t)/18446744073709551616=v:=⟨_,rfl⟩
 obtain⟨s1,hs1⟩:∃z,(lo+cy)%18446744073709551616=z:=⟨_,rfl⟩
 obtain⟨o1,ho1⟩:∃z,(lo+cy)/18446744073709551616=z:=⟨_,rfl⟩
 obtain⟨o2,ho2⟩:∃z,(s1+t)/18446744073709551616=z:=⟨_,rfl⟩
 rw[hs1,ho1,ho2,hu,hv] at ar
 rw[hu,hv]
 have bs1:0≤s1∧s1≤18446744073709551615:=by omega
 have hadd1:=addc_run lo cy 0 blo.1 hc0 (by omega) (by omega)
 rw[Int.add_zero,hs1,ho1] at hadd1
 have hadd2:=addc_run s1 t 0 bs1.1 ht0 (by omega) (by omega)
 rw[Int.add_zero,ar.1,ho2] at hadd2
 have hw1:IntKind.u64.wrap (hi+o1)=hi+o1:=by rw[IntKind.wrap_u64];omega
 have hw2:IntKind.u64.wrap (hi+o1+o2)=v:=by rw[IntKind.wrap_u64];omega
 have c1:=hX.val (i:=0) (by simp)
 have c2:=hC.val (i:=0) (by simp)
 have z2:=hC.frozen 0
 have h4:=hC.set_ 0 (.int .u64 v)
 have H5:Keep (∀g1 t1 cs1,Has w g1 t1 cs1→g1≠g'→Has (w.setCell ⟨g',0,none⟩ (.int .u64 v)) g1 t1 cs1):=⟨fun g1 t1 cs1 h hne=>h.far hne _⟩
 have h6:Below g' w (w.setCell ⟨g',0,none⟩ (.int .u64 v)):=(Below.refl g' w).setCell (p:=⟨g',0,none⟩) (Nat.le_refl g') _
 simp only[nth,List.getD_cons_zero] at c1 c2
 clear hX hC hhi hlo hs1 ho1 ho2 hu hv ar MU hp blo bs1
 go_enter Tryz.func79,Tryz.ntmps79
 go_wp2_with (go_at_call 80;refine (MU'.out _).mono ?_;rintro e w' ⟨rfl,rfl⟩)
 go_ret
 exact⟨rfl,h4,H5.out,h6⟩
theorem mid_len {l o:List Int}{off k:Nat}(ho:o.length=k)(h:off+k≤l.length):(l.take off++(o++l.drop (off+k))).length=l.length:=by simp;omega
theorem mid_nth {l o:List Int}{off k:Nat}(ho:o.length=k)(h:off+k≤l.length):nth (l.take off++(o++l.drop (off+k))) (off+k)=nth l (off+k):=by
 have e:(l.take off).length=off:=by simp;omega
 rw[nth_append_right _ _ _ (by omega),e,show off+k-off=k by omega,nth_append_right _ _ _ (by omega),ho,Nat.sub_self,nth_drop,Nat.add_zero]
theorem mid_set {l o:List Int}{off k:Nat}(ho:o.length=k)(h:off+k<l.length)(d:Int):(l.take off++(o++l.drop (off+k))).set (off+k) d=l.take off++((o++[d])++l.drop (off+(k+1))):=by
 have e:(l.take off).length=off:=by simp;omega
 rw[List.set_append_right _ _ (by omega),e,show off+k-off=k by omega,List.set_append_right _ _ (by omega),ho,Nat.sub_self,List.drop_eq_getElem_cons h,List.set_cons_zero,List.append_assoc]
 rfl
theorem times_step {o d b:List Int}{k:Nat}{cy t nx x:Int}(ho:o.length=k)(hi:num o+wp k*cy=low d k+x*low b k)(hx:t+18446744073709551616*nx=x*nth b k+cy+nth d k) :
  num (o++[t])+wp (k+1)*nx=low d (k+1)+x*low b (k+1):=by
 rw[num_snoc,ho,wp_succ,low_succ,low_succ]
 grind
set_option maxRecDepth 100000 in
set_option maxHeartbeats 2000000 in
theorem addTimes_c (g off m cw:Nat)(Aw:Option Addr)(l:List Int)(A':Option Addr)(c':Nat)(b:List Int)(x:Int)(B:Nat)(w:World)(hW:Has w g 26 (vals .u64 l))(hwl:Words l)(hoff:off+m≤l.length)(hAw:0<m→Aw=some ⟨g,off,none⟩)(hr:Rd w B A' m .u64 b)(hwb:Words b)(hB:B≤g)(hx0:0≤x)(hx1:x≤18446744073709551615)(hm:m≤10000) :
    Calls Tryz.prog 43 #[.slice Aw m cw,.slice A' m c',.int .u64 x] w fun e w'=>∃(cy:Int) (o:List Int),e=.returned (.int .u64 cy)∧0≤cy∧cy≤18446744073709551615∧Has w' g 26 (vals .u64 (l.take off++(o++l.drop (off+m))))∧Words o∧o.length=m∧num o+wp m*cy=low (l.drop off) m+x*low b m∧Only g w w':=by
  have WL:Keep _:=⟨hwl⟩
  have WB:Keep _:=⟨hwb⟩
  have HO:Keep _:=⟨hoff⟩
  have HA:Keep _:=⟨hAw⟩
  have hgl:=hW.lt
  clear hwl hwb hoff hAw
  obtain⟨S,hS⟩:∃S,w.heap.size=S:=⟨_,rfl⟩
  obtain⟨w1,hw1⟩:∃w1,w.alloc (.cells #[.int .u64 x] 26)=w1:=⟨_,rfl⟩
  obtain⟨w2,hw2⟩:∃w2,w1.alloc (.cells #[.int .u64 0] 26)=w2:=⟨_,rfl⟩
  have hs1:w1.heap.size=S+1:=by rw[←hw1,World.size_alloc,hS]
  have hX:Has w2 S 26 (vals .u64 [x]):=by rw[←hw2,←hw1];exact (Has.new' _ hS.symm _ _).alloc _
  have hC:Has w2 (S+1) 26 (vals .u64 [0]):=by rw[←hw2];exact Has.new' _ hs1.symm _ _
  have hD:Has w2 g 26 (vals .u64 (l.take off++([]++l.drop (off+0)))):=by
    rw[List.nil_append,Nat.add_zero,List.take_append_drop,←hw2,←hw1]
    exact (hW.alloc _).alloc _
  have hb:Only g w w2:=by
    refine Only.of_below ?_ g
    rw[←hw2,←hw1]
    exact ((Below.refl _ _).alloc (Nat.le_refl _) _).alloc (by simp) _
  have HS:Keep _:=⟨hS⟩
  rw[hS] at hgl
  go_enter Tryz.func43,Tryz.ntmps43
  go_wp2
  go_loopw [14] (fun vi wr=>∃(k:Nat) (o:List Int) (cy:Int),k≤m∧vi=.int .i64 k∧0≤cy∧cy≤18446744073709551615∧Has wr S 26 (vals .u64 [x])∧Has wr (S+1) 26 (vals .u64 [cy])∧Has wr g 26 (vals .u64 (l.take off++(o++l.drop (off+k))))∧Keep (Words o∧o.length=k∧num o+wp k*cy=low (l.drop off) k+x*low b k)∧Only g w wr) (fun vi _=>m-(intOf vi).toNat)
  case atStart=>exact⟨0,[],0,Nat.zero_le _,rfl,by omega,by omega,hX,hC,hD,⟨words_nil,rfl,by simp[num_nil,low_zero]⟩,hb⟩
  case round=>
    clear hX hC hD hb hw1 hw2 hs1
    obtain⟨k,o,cy,hk,rfl,hc0,hc1,hX,hC,hD,hI,hb⟩:=hrel
    by_cases hlt:k<m
    · obtain rfl:=HA.out (by omega)
      obtain⟨b1,o1,rfl,hlb1,hcs1⟩:=hr.at_ (by omega)
      obtain⟨y,hy⟩:∃y,nth b k=y:=⟨_,rfl⟩
      obtain⟨t,ht⟩:∃t,nth l (off+k)=t:=⟨_,rfl⟩
      have by':0≤y∧y≤18446744073709551615:=hy▸WB.out k
      have bt:0≤t∧t≤18446744073709551615:=ht▸WL.out (off+k)
      have cb:wr.cell? ⟨b1,o1+k,none⟩=some (.int .u64 y):=((hb.below hB (by have:=HS.out;omega)).cell (p:=⟨b1,o1+k,none⟩) hlb1).trans (by rw[hcs1 k hlt,hy])
      have ct:wr.cell? ⟨g,off+k,none⟩=some (.int .u64 t):=by
        rw[←ht,←mid_nth hI.out.2.1 (by have:=HO.out;omega)]
        exact hD.val (by rw[mid_len hI.out.2.1 (by have:=HO.out;omega)];have:=HO.out;omega)
      have hp:=word_prod hx0 hx1 by'.1 by'.2
      have ar:=word_add hp.1 hp.2 hc0 hc1 bt.1 bt.2
      obtain⟨u,hu⟩:∃u,(x*y+cy+t)%18446744073709551616=u:=⟨_,rfl⟩
      obtain⟨v,hv⟩:∃v,(x*y+cy+t)/18446744073709551616=v:=⟨_,rfl⟩
      have HN:=fun (w:World) hX hC=>addNext_c t y x cy bt.1 bt.2 by'.1 by'.2 hx0 hx1 hc0 hc1 S (S+1) w hX hC
      rw[hu,hv] at HN
      have HN':Keep _:=⟨HN⟩
      have HT:Keep (u+18446744073709551616*v=x*nth b k+cy+nth (l.drop off) k∧0≤u∧u≤18446744073709551615∧0≤v∧v≤18446744073709551615):=⟨by
        rw[nth_drop,hy,ht]
        generalize x*y=p at *
        omega⟩
      clear HN hu hv hp ar ht hy hcs1
      go_wp2_with (go_at_call 79
                   refine (HN'.out _ hX hC).mono ?_
                   rintro e w2 ⟨rfl,hC2,hfar,hb2⟩
                   have hX2:=hfar _ _ _ hX (by omega)
                   have hD2:=hfar _ _ _ hD (by omega)
                   have hbb2:=hb.then hb2 (by have:=HS.out;omega)
                   have c0:=hD2.val (i:=off+k) (by rw[mid_len hI.out.2.1 (by have:=HO.out;omega)];have:=HO.out;omega)
                   have z0:=hD2.frozen (off+k)
                   clear hX hC hD hfar hb2)
      have h4:=hD2.set_ (off+k) (.int .u64 u)
      rw[vals_set,mid_set hI.out.2.1 (by have:=HO.out;omega)] at h4
      have hX4:=hX2.far (p:=⟨g,off+k,none⟩) (by show S≠g;omega) (.int .u64 u)
      have hC4:=hC2.far (p:=⟨g,off+k,none⟩) (by show S+1≠g;omega) (.int .u64 u)
      have hI4:Keep (Words (o++[u])∧(o++[u]).length=k+1∧num (o++[u])+wp (k+1)*v=low (l.drop off) (k+1)+x*low b (k+1)):=⟨words_append hI.out.1 (words_one HT.out.2.1 HT.out.2.2.1),by rw[List.length_append,hI.out.2.1];rfl,times_step hI.out.2.1 hI.out.2.2 HT.out.1⟩
      have hb4:=hbb2.set_ (p:=⟨g,off+k,none⟩) rfl (.int .u64 u)
      first
        | exact⟨⟨k+1,o++[u],v,by omega,by go_num,HT.out.2.2.2.1,HT.out.2.2.2.2,hX4,hC4,h4,hI4,hb4⟩,by simp[intOf];omega⟩
        | (go_roundw
           case rel=>exact⟨k+1,o++[u],v,by omega,by go_num,HT.out.2.2.2.1,HT.out.2.2.2.2,hX4,hC4,h4,hI4,hb4⟩
           case measure=>simp[intOf];omega)
    · obtain rfl:k=m:=by omega
      have c1:=hC.val (i:=0) (by simp)
      simp only[nth,List.getD_cons_zero] at c1
      go_wp2
      go_ret
      exact⟨cy,o,rfl,hc0,hc1,hD,hI.out.1,hI.out.2.1,hI.out.2.2,hb⟩
end Limb
end Go.Proofs.YtfjiinaekcibhaaGreatDoor
