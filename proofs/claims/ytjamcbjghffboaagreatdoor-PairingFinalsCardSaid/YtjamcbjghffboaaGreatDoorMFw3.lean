/-
  Own text.
-/
import Derived.Test.YtjamcbjghffboaaGreatDoorMFw2
set_option linter.unusedVariables false
set_option linter.unusedSimpArgs false
set_option maxRecDepth 100000
namespace Go.Proofs.YtjamcbjghffboaaGreatDoor
namespace Fp
open Go Go.RowKit Reg Base Limb Bits
def rs (j:Nat):Int:=num ((rL.drop (6*j)).take 6)
def dotR (h:List Int):Nat->Int
 |0=>0
 |k+1=>dotR h k+nth h k*rs k
def rsum:Nat->Int
 |0=>0
 |k+1=>rsum k+rs k
theorem rs_all:∀j:Fin 6,rs j%PP=wp (6+j)%PP/\0<=rs j/\rsum j<=rsum 6:=by decide +kernel
theorem rs_words (j:Nat):Words ((rL.drop (6*j)).take 6):=words_take (words_drop (words_of _ (by decide)) _) _
theorem rs_len {j:Nat}(h:j<6):((rL.drop (6*j)).take 6).length=6:=by
 have:rL.length=36:=rfl
 simp
 omega
theorem dotR_mod (h:List Int):∀k,k<=6->dotR h k%PP=(wp 6*low h k)%PP
 |0,_=>by rw[low_zero,Int.mul_zero];rfl
 |k+1,hk=>by
  have e:=dotR_mod h k (by omega)
  have r:=(rs_all ⟨k,by omega⟩).1
  rw[dotR,low_succ,Int.mul_add,Int.add_emod,e,Int.mul_emod (nth h k),r,<-Int.mul_emod,<-Int.add_emod]
  show (wp 6*low h k+nth h k*wp (6+k))%PP=_
  rw[wp_add]
  congr 1
  grind
theorem dotR_le {h:List Int}(hw:Words h):∀k,k<=6->0<=dotR h k/\dotR h k<=18446744073709551615*rsum k
 |0,_=>by simp[dotR,rsum]
 |k+1,hk=>by
  have e:=dotR_le hw k (by omega)
  have r:=(rs_all ⟨k,by omega⟩).2.1
  have r':0<=rs k:=r
  have b:=hw k
  have h1:nth h k*rs k<=18446744073709551615*rs k:=Int.mul_le_mul_of_nonneg_right b.2 r'
  have h2:0<=nth h k*rs k:=Int.mul_nonneg b.1 r'
  rw[dotR,rsum,Int.mul_add]
  omega
theorem rsum_le {k:Nat}(h:k<=6):rsum k<=rsum 6:=by
 by_cases h6:k=6
 ·rw[h6];omega
 ·exact (rs_all ⟨k,by omega⟩).2.2
theorem rsum_room:wp 6+18446744073709551615*rsum 6<wp 7:=by decide +kernel
theorem rsum_top:wp 6+((wp 6+18446744073709551615*rsum 6)/wp 6)*rs 0<4611686018427387904*PP:=by decide +kernel
theorem fold_room {a h:List Int}{V x r:Int}{k:Nat}(ha:num a<wp 6)(hw:Words h)(hk:k<6)(hV:V=num a+dotR h k)(hx:nth h k=x)(hr:rs k=r):V+x*r<wp 7:=by
 have h1:=(dotR_le hw (k+1) (by omega)).2
 have h2:=rsum_le (k:=k+1) (by omega)
 have h3:=rsum_room
 rw[dotR,hx,hr] at h1
 omega
theorem fold_last {a h o o':List Int}{c c':Int}(ha:num a<wp 6)(hw:Words h)(ho:0<=num o)(ho':num o<wp 6)(hV:num o+wp 6*c=num a+dotR h 6)(he:num o'+wp 6*c'=num o+wp 6*0+c*rs 0) :
  num o+wp 6*0+c*rs 0<wp 7/\num o'+wp 6*c'<4611686018427387904*PP/\(num o'+wp 6*c')%PP=(num a+wp 6*low h 6)%PP:=by
 have h1:=(dotR_le hw 6 (by omega)).2
 have h2:=rsum_top
 have h3:=rsum_room
 have h4:0<=rs 0:=(rs_all 0).2.1
 have h5:=wp_pos 6
 have hc:c<=(wp 6+18446744073709551615*rsum 6)/wp 6:=by
  rw[Int.le_ediv_iff_mul_le h5,Int.mul_comm]
  omega
 have h6:c*rs 0<=((wp 6+18446744073709551615*rsum 6)/wp 6)*rs 0:=Int.mul_le_mul_of_nonneg_right hc h4
 have h7:4611686018427387904*PP<wp 7:=by decide +kernel
 rw[he]
 refine⟨by omega,by omega,?_⟩
 have e:=dotR_mod h 6 (by omega)
 have r:rs 0%PP=wp 6%PP:=(rs_all 0).1
 rw[Int.mul_zero,Int.add_zero,Int.add_emod,Int.mul_emod,r,<-Int.mul_emod,<-Int.add_emod,Int.mul_comm c,hV,Int.add_emod,e,<-Int.add_emod]
theorem fold_room2 {a h o:List Int}{c:Int}(ha:num a<wp 6)(hw:Words h)(ho:0<=num o)(ho':num o<wp 6)(hV:num o+wp 6*c=num a+dotR h 6):num o+wp 6*0+c*num (rL.take 6)<wp 7:=by
 have h1:=(dotR_le hw 6 (by omega)).2
 have h2:=rsum_top
 have h4:0<=rs 0:=(rs_all 0).2.1
 have h5:=wp_pos 6
 have hc:c<=(wp 6+18446744073709551615*rsum 6)/wp 6:=by
  rw[Int.le_ediv_iff_mul_le h5,Int.mul_comm]
  omega
 have h6:c*rs 0<=((wp 6+18446744073709551615*rsum 6)/wp 6)*rs 0:=Int.mul_le_mul_of_nonneg_right hc h4
 have h7:4611686018427387904*PP<wp 7:=by decide +kernel
 show num o+wp 6*0+c*rs 0<wp 7
 omega
theorem split12 {L:List Int}(h:L.length=12):L=L.take 6++L.drop 6/\(L.take 6).length=6/\(L.drop 6).length=6/\num L=num (L.take 6)+wp 6*num (L.drop 6):=by
 have h1:(L.take 6).length=6:=by simp;omega
 have h2:(L.drop 6).length=6:=by simp;omega
 refine⟨(List.take_append_drop 6 L).symm,h1,h2,?_⟩
 have:=num_append (L.take 6) (L.drop 6)
 rwa [List.take_append_drop,h1] at this
theorem seg_res {k:Nat}(h:k<6):6*k+6<=rL.length:=by
 have:rL.length=36:=rfl
 omega
def Z5:List Int:=[0,0,0,0,0]
theorem clear_high {a r:List Int}(ha:a.length=6)(hr:r.length=6):(a++r).take 6++(List.replicate 6 0++(a++r).drop (6+6))=a++0 :: Z5:=by
 have h1:(a++r).take 6=a:=by rw[<-ha];simp
 have h2:(a++r).drop (6+6)=[]:=List.drop_eq_nil_of_le (by simp;omega)
 rw[h1,h2]
 rfl
set_option maxHeartbeats 2000000 in
theorem folded_c (g:Nat)(t:TypeId)(L:List Int)(hlL:L.length=12)(hwL:Words L)(hf:Free g)(w:World)(hG:Glob w)(hA:Has w g t (vals .u64 L)) :
    Calls Tryz.prog 152 #[.pointer (some ⟨g,0,none⟩)] w fun e w'=>e=.returned (.agg (vals .u64 (fe (num L))))/\Only g w w':=by
  obtain⟨hL,hla,hlh,hnum⟩:=split12 hlL
  have hwa:Words (L.take 6):=words_take hwL 6
  have hwh:Words (L.drop 6):=words_drop hwL 6
  obtain⟨a,ha⟩:∃a,L.take 6=a:=⟨_,rfl⟩
  obtain⟨h,hh⟩:∃h,L.drop 6=h:=⟨_,rfl⟩
  rw[ha,hh] at hL hnum
  rw[ha] at hla hwa
  rw[hh] at hlh hwh
  have hlow:low h 6=num h:=by rw[num,hlh]
  obtain⟨o0,ho0⟩:∃o,fe (num L)=o:=⟨_,rfl⟩
  have OL:Keep (o0.length=6):=⟨by rw[<-ho0];exact fe_len _⟩
  have HO:Keep (∀v,v%PP=(num a+wp 6*low h 6)%PP->fe v=o0):=⟨fun v hv=>by rw[<-ho0,hnum];exact fe_congr (by rw[hv,hlow])⟩
  rw[ho0]
  have hgl:=hA.lt
  rw[hL] at hA
  obtain⟨S,hS⟩:∃S,w.heap.size=S:=⟨_,rfl⟩
  obtain⟨w0,hw0⟩:∃w0,(w.alloc (.cells #[.pointer (some ⟨g,0,none⟩)] 138)).alloc (.cells (vals .u64 Z6) 24)=w0:=⟨_,rfl⟩
  have hA0:Has w0 g t (vals .u64 (a++h)):=by rw[<-hw0];exact (hA.alloc _).alloc _
  have hB0:Has w0 S 138 #[.pointer (some ⟨g,0,none⟩)]:=by rw[<-hw0];exact (Has.new' _ hS.symm _ _).alloc _
  have hR0:Has w0 (S+1) 24 (vals .u64 Z6):=by rw[<-hw0];exact Has.new' _ (by rw[World.size_alloc,hS]) _ _
  have hb0:Below S w w0:=by rw[<-hw0,<-hS];exact ((Below.refl _ _).alloc (Nat.le_refl _) _).alloc (by simp) _
  have hsz:w0.heap.size=S+2:=by rw[<-hw0,World.size_alloc,World.size_alloc,hS]
  have HG0:Keep _:=⟨hG.keep (w':=w0) (by rw[hS];exact hb0)⟩
  have HF:Keep _:=⟨hf⟩
  have hgS:g<S:=by omega
  have RowOnly:Keep (∀w',Only g w w'->∀cs,Only g w (w'.setRow (S+1) cs)):=⟨fun w' ho cs=>⟨ho.os,ho.tape,ho.output,by have:=ho.size;simpa using this,fun k hk hne=>(setRow_other w' (S+1) k cs (by omega)).trans (ho.block k hk hne)⟩⟩
  have OFB:Keep (∀w',Below S w w'->Only g w w'):=⟨fun w' hb=>Only.of_below (by rw[hS];exact hb) g⟩
  have LA:Keep _:=⟨hla⟩
  have WA:Keep _:=⟨hwa⟩
  have LH:Keep _:=⟨hlh⟩
  have WH:Keep _:=⟨hwh⟩
  have NA:Keep (num a<wp 6):=⟨(num6 hwa hla).2⟩
  have HSZ:Keep _:=⟨hsz⟩
  have HAT1:Keep (∀w,(Instr.arrayAt 24 (.slice (some ⟨g,0,none⟩) 6 12)).run Tryz.prog w=.ok (.pointer (some ⟨g,0,none⟩)) w):=⟨fun w=>arrayAt_run Tryz.underlying24 (by omega)⟩
  have HAT2:Keep (∀w,(Instr.arrayAt 24 (.slice (some ⟨g,6,none⟩) 6 6)).run Tryz.prog w=.ok (.pointer (some ⟨g,6,none⟩)) w):=⟨fun w=>arrayAt_run Tryz.underlying24 (by omega)⟩
  clear hf hG hlL hwL hla hlh hnum hwa hwh ha hh hL hlow ho0 hgl hA hsz
  go_enter Tryz.func152,Tryz.ntmps152
  go_wp2
  change Code.wp _ _ _ _ ((w.alloc (.cells #[.pointer (some ⟨g,0,none⟩)] 138)).alloc (.cells (vals .u64 Z6) 24))
  rw[hw0]
  clear hw0 hS
  have HW0:Keep (∀w w':World,Below w0.heap.size w0 w->Below w.heap.size w w'->Below w0.heap.size w0 w'):=⟨fun w w' h hb=>below_tr h hb⟩
  have hdr:Below w0.heap.size w0 w0.drew:=⟨rfl,rfl,rfl,Nat.le_refl _,fun _ _=>rfl⟩
  have KB:Keep (∀w',Below w0.heap.size w0 w'->w'.cell? ⟨S,0,none⟩=some (.pointer (some ⟨g,0,none⟩))):=⟨fun w' hb=>(hB0.keep hb).cell 0⟩
  refine wp_regionU (S:=fun x=>Below w0.heap.size w0 x) (by kernel_rfl) ?_
  change wpAnyU _ _ _ _ _ 13 _ _ _
  refine wpAnyU_take (i:=0) (v:=.pointer (some ⟨g,0,none⟩)) HW0.out (by rfl) (by kernel_rfl) (by kernel_rfl) (by kernel_rfl) (fun _ _ d _ _ h=>by cases d<;>exact h) hdr (Or.inl ⟨by rfl,fun w hw=>(by unfold Oper.quietAt;have c:=KB.out w hw;go_simp)⟩) ?_
  simp only[List.getElem_toArray,List.getElem_cons_zero,List.getElem_cons_succ,Act.put,List.setIfInBounds_toArray,List.set_cons_zero,List.set_cons_succ]
  refine wpAnyU_take (i:=1) (v:=_) HW0.out (by rfl) (by kernel_rfl) (by kernel_rfl) (by kernel_rfl) (fun _ _ d _ _ h=>by cases d<;>exact h) hdr (Steady.of_yields (Or.inl ⟨by rfl,fun w=>(by go_simp;with_reducible rfl)⟩)) ?_
  simp only[List.getElem_toArray,List.getElem_cons_zero,List.getElem_cons_succ,Act.put,List.setIfInBounds_toArray,List.set_cons_zero,List.set_cons_succ]
  refine wpAnyU_take (i:=2) (v:=_) HW0.out (by rfl) (by kernel_rfl) (by kernel_rfl) (by kernel_rfl) (fun _ _ d _ _ h=>by cases d<;>exact h) hdr (Steady.of_yields (Or.inl ⟨by rfl,fun w=>(by go_simp;with_reducible rfl)⟩)) ?_
  simp only[List.getElem_toArray,List.getElem_cons_zero,List.getElem_cons_succ,Act.put,List.setIfInBounds_toArray,List.set_cons_zero,List.set_cons_succ]
  refine wpAnyU_take (i:=3) (v:=.pointer (some ⟨g,0,none⟩)) HW0.out (by rfl) (by kernel_rfl) (by kernel_rfl) (by kernel_rfl) (fun _ _ d _ _ h=>by cases d<;>exact h) hdr (Steady.of_yields (Or.inl ⟨by rfl,fun w=>(by have h:=HAT1.out w;go_simp)⟩)) ?_
  simp only[List.getElem_toArray,List.getElem_cons_zero,List.getElem_cons_succ,Act.put,List.setIfInBounds_toArray,List.set_cons_zero,List.set_cons_succ]
  refine wpAnyU_take (i:=4) (v:=.pointer (some ⟨g,0,none⟩)) HW0.out (by rfl) (by kernel_rfl) (by kernel_rfl) (by kernel_rfl) (fun _ _ d _ _ h=>by cases d<;>exact h) hdr (Or.inl ⟨by rfl,fun w hw=>(by unfold Oper.quietAt;have c:=KB.out w hw;go_simp)⟩) ?_
  simp only[List.getElem_toArray,List.getElem_cons_zero,List.getElem_cons_succ,Act.put,List.setIfInBounds_toArray,List.set_cons_zero,List.set_cons_succ]
  refine wpAnyU_take (i:=5) (v:=_) HW0.out (by rfl) (by kernel_rfl) (by kernel_rfl) (by kernel_rfl) (fun _ _ d _ _ h=>by cases d<;>exact h) hdr (Steady.of_yields (Or.inl ⟨by rfl,fun w=>(by go_simp;with_reducible rfl)⟩)) ?_
  simp only[List.getElem_toArray,List.getElem_cons_zero,List.getElem_cons_succ,Act.put,List.setIfInBounds_toArray,List.set_cons_zero,List.set_cons_succ]
  refine wpAnyU_take (i:=6) (v:=_) HW0.out (by rfl) (by kernel_rfl) (by kernel_rfl) (by kernel_rfl) (fun _ _ d _ _ h=>by cases d<;>exact h) hdr (Steady.of_yields (Or.inl ⟨by rfl,fun w=>(by go_simp;with_reducible rfl)⟩)) ?_
  simp only[List.getElem_toArray,List.getElem_cons_zero,List.getElem_cons_succ,Act.put,List.setIfInBounds_toArray,List.set_cons_zero,List.set_cons_succ]
  refine wpAnyU_take (i:=7) (v:=.pointer (some ⟨g,6,none⟩)) HW0.out (by rfl) (by kernel_rfl) (by kernel_rfl) (by kernel_rfl) (fun _ _ d _ _ h=>by cases d<;>exact h) hdr (Steady.of_yields (Or.inl ⟨by rfl,fun w=>(by have h:=HAT2.out w;go_simp)⟩)) ?_
  simp only[List.getElem_toArray,List.getElem_cons_zero,List.getElem_cons_succ,Act.put,List.setIfInBounds_toArray,List.set_cons_zero,List.set_cons_succ]
  refine wpAnyU_take (i:=8) (v:=_) HW0.out (by rfl) (by kernel_rfl) (by kernel_rfl) (by kernel_rfl) (fun _ _ d _ _ h=>by cases d<;>exact h) hdr (Steady.load_seg (by rfl) 24 (.tmp 16) (by rfl) g 6 6 (by rfl) t .u64 (a++h) h _ (fun w hw=>hA0.keep hw) Tryz.underlying24 rfl (by kernel_rfl) (by rw[List.drop_append_of_le_length (by rw[LA.out];exact Nat.le_refl _),List.drop_eq_nil_of_le (by rw[LA.out];exact Nat.le_refl _),List.nil_append,<-LH.out,List.take_length]) (by rw[List.length_append,LA.out,LH.out];exact Nat.le_refl _)) ?_
  simp only[List.getElem_toArray,List.getElem_cons_zero,List.getElem_cons_succ,Act.put,List.setIfInBounds_toArray,List.set_cons_zero,List.set_cons_succ]
  refine wpAnyU_allocs (f:=2) (B:=w0.heap.size) [9,10] (fun i=>if i=9 then 3 else 4) (fun i=>if i=9 then 132 else 24) (fun i=>if i=9 then #[.pointer none] else vals .u64 Z6) HW0.out (by decide) (by decide) ?_ (by kernel_rfl) hdr (Nat.le_refl _) ?_
  · intro i hi
    rcases (by simpa using hi:i=9∨i=10) with rfl|rfl
    · exact⟨⟨_,rfl,rfl,rfl,rfl⟩,⟨_,_,by rfl,by rfl,by rfl⟩⟩
    · exact⟨⟨_,rfl,rfl,rfl,rfl⟩,⟨_,_,by rfl,by rfl,by rfl⟩⟩
  intro G w2 hs2 hg2 hd2
  have q3:Has w2 (G 9) 132 #[.pointer none]:=(hg2 9 (by simp)).1
  have q4:Has w2 (G 10) 24 (vals .u64 Z6):=(hg2 10 (by simp)).1
  have l3:=(hg2 9 (by simp)).2
  have l4:=(hg2 10 (by simp)).2
  have l34:=hd2 9 (by simp) 10 (by simp) (by decide)
  simp only[pts,List.foldl_cons,List.foldl_nil,Act.put,↓reduceIte,Nat.reduceEqDiff,List.setIfInBounds_toArray,List.set_cons_zero,List.set_cons_succ]
  obtain⟨g3,hg3⟩:∃x,G 9=x:=⟨_,rfl⟩
  obtain⟨g4,hg4⟩:∃x,G 10=x:=⟨_,rfl⟩
  rw[hg3] at q3 l3 l34 ⊢
  rw[hg4] at q4 l4 l34 ⊢
  have hA2:=hA0.keep hs2
  have hB2:=hB0.keep hs2
  have hR2:=hR0.keep hs2
  have hsz2:=HSZ.out
  clear hg2 hd2 hg3 hg4 G
  refine wpAnyU_run (i:=11) (by rfl) (by kernel_rfl) (fun w3 hq=>?_)
  refine store_val (by rfl) 132 (.tmp 3) (.tmp 12) (by rfl) (by rfl) g3 0 (by rfl) (.pointer (some ⟨g,0,none⟩)) (by rfl) (by rfl) (by rfl) (by kernel_rfl) _ _ (q3.keep hq) (by decide) (fun w4 q3' ho=>?_)
  have hs4:Below w0.heap.size w0 w4:=(below_tr hs2 hq).trans (ho.below l3 (below_tr hs2 hq).size)
  have q4':=ho.has (q4.keep hq) (Ne.symm l34)
  have hA4:=ho.has (hA2.keep hq) (by omega)
  have hB4:=ho.has (hB2.keep hq) (by omega)
  have hR4:=ho.has (hR2.keep hq) (by omega)
  clear ho hq q3 q4 hA2 hB2 hR2 hs2
  refine⟨hs4,?_⟩
  refine wpAnyU_run (i:=12) (by rfl) (by kernel_rfl) (fun w5 hq=>?_)
  refine store_abs2 (by rfl) 24 (.tmp 4) (.tmp 17) (by rfl) (by rfl) g4 (vals .u64 h) (by rfl) (by rfl) 24 (vals .u64 Z6) (q4'.keep hq) (by rw[vals_size,LH.out];kernel_rfl) (by rw[vals_size,vals_size,LH.out];rfl) vals_one ?_
  intro w6 q4'' hkeep hbg
  have hs6:Below w0.heap.size w0 w6:=(below_tr hs4 hq).trans (hbg.mono l4)
  refine⟨hs6,wpAnyU_end (by kernel_rfl) (fun w7 hq7=>?_)⟩
  have hA7:=(hkeep _ _ _ (hA4.keep hq) (by omega)).keep hq7
  have hB7:=(hkeep _ _ _ (hB4.keep hq) (by omega)).keep hq7
  have hR7:=(hkeep _ _ _ (hR4.keep hq) (by omega)).keep hq7
  have q37:Has w7 g3 132 #[.pointer (some ⟨g,0,none⟩)]:=(hkeep _ _ _ (q3'.keep hq) l34).keep hq7
  have q47:=q4''.keep hq7
  have hb7:Below S w w7:=hb0.trans ((below_tr hs6 hq7).mono (by omega))
  have HG7:Keep (Glob w7):=⟨HG0.out.keep (below_tr hs6 hq7)⟩
  have hS3:S<g3:=by omega
  have hS4:S<g4:=by omega
  have hR3:S+1≠g3:=by omega
  have hR4':S+1≠g4:=by omega
  clear hkeep hbg hs6 hs4 hq hq7 q4'' q4' q3' hA4 hB4 hR4 hA0 hB0 hR0 hb0 HG0 hdr HW0 KB HAT1 HAT2 l3 l4 hsz2
  have cB:=hB7.cell 0
  have nS3:g3≠g:=by omega
  have nS4:g4≠g:=by omega
  have nS:S≠g:=by omega
  have nR:S+1≠g:=by omega
  have hO7:Only g w w7:=OFB.out w7 hb7
  clear hb7
  go_wp2_with (refine clear_abs (by rfl) (.tmp 21) 50 (by rfl) 22 Tryz.underlying50 .u64 8 u64Elem g 6 6 6 (by rfl) (by omega) t (a++h) (a++0 :: Z5) hA7 (by rw[List.length_append,LA.out,LH.out];exact Nat.le_refl _) (clear_high LA.out LH.out) (fun w8 hA8 ho=>?_)
               have hB8:=ho.has hB7 nS
               have hR8:=ho.has hR7 nR
               have q38:=ho.has q37 nS3
               have q48:=ho.has q47 nS4
               have HG8:Keep _:=⟨HG7.out.only ho HF.out⟩
               have hO8:=hO7.trans ho
               clear cB hA7 hB7 hR7 q37 q47 ho hO7)
  clear HG7
  go_loopw [22] (fun vi wr=>∃(k:Nat) (o:List Int) (c:Int),k<=6/\vi=.int .i64 k/\Keep (o.length=6/\Words o/\(0<=c/\c<=18446744073709551615)/\num o+wp 6*c=num a+dotR h k)/\Has wr g t (vals .u64 (o++c :: Z5))/\Has wr S 138 #[.pointer (some ⟨g,0,none⟩)]/\Has wr (S+1) 24 (vals .u64 Z6)/\Has wr g3 132 #[.pointer (some ⟨g,0,none⟩)]/\Has wr g4 24 (vals .u64 h)/\Keep (Glob wr)/\Only g w wr) (fun vi _=>6-(intOf vi).toNat)
  case atStart=>exact⟨0,a,0,by omega,rfl,⟨LA.out,WA.out,by omega,by simp[dotR]⟩,hA8,hB8,hR8,q38,q48,HG8,hO8⟩
  case round=>
    clear hA8 hB8 hR8 q38 q48 HG8 hO8
    obtain⟨k,o,c,hk,rfl,HI,hA,hB,hR,q3,q4,HG,hO⟩:=hrel
    by_cases hlt:k<6
    · obtain⟨x,hx⟩:∃x,nth h k=x:=⟨_,rfl⟩
      have bx:0<=x/\x<=18446744073709551615:=hx▸WH.out k
      obtain⟨r,hr⟩:∃r,(rL.drop (6*k)).take 6=r:=⟨_,rfl⟩
      have LR:Keep (r.length=6):=⟨by rw[<-hr];exact rs_len hlt⟩
      have WR:Keep (Words r):=⟨by rw[<-hr];exact rs_words k⟩
      have hrs:rs k=num r:=by rw[rs,hr]
      have hroom:=fold_room NA.out WH.out hlt HI.out.2.2.2 hx hrs
      have RM:Keep _:=⟨hroom⟩
      have HD:Keep (dotR h (k+1)=dotR h k+x*num r):=⟨by rw[dotR,hx,hrs]⟩
      have HR6:Keep (r=(rL.drop (k*6)).take 6/\k*6+6<=rL.length):=⟨⟨by rw[Nat.mul_comm];exact hr.symm,by have:=seg_res hlt;omega⟩⟩
      have Q0:Keep (∀w',Below wr.heap.size wr w'->w'.cell? ⟨g4,k,none⟩=some (.int .u64 x)):=⟨fun w' hb'=>by rw[<-hx];exact (q4.keep hb').val (by rw[LH.out];exact hlt)⟩
      clear hx hr hrs hroom
      go_wp2
      refine wp_fam_all (by kernel_rfl) (by kernel_rfl) (fun I hI' fw hf hback=>?_)
      have c0:∀j,(fw j).cell? ⟨g4,k,none⟩=some (.int .u64 x):=fun j=>Q0.out _ (hf j)
      repeat (go_big_quiet_step (fail))
      refine wpQuiet_nil ?_
      intro w6 hb6
      have hA6:=hA.keep hb6
      have hB6:=hB.keep hb6
      have hR6:=hR.keep hb6
      have q36:=q3.keep hb6
      have q46:=q4.keep hb6
      have HG6:Keep _:=⟨HG.out.keep hb6⟩
      have hO6:=hO.trans (Only.of_below hb6 g)
      obtain⟨tr,hRR⟩:=HG6.out.r
      clear c0 hf hback hb6 hA hB hR q3 q4 HG hO Q0
      go_wp2_with (first
        | (go_at_call 168
           refine (foldStep_c g S g3 t 138 132 o Z5 r c x HI.out.1 HI.out.2.1 LR.out WR.out HI.out.2.2.1 bx RM.out nS nS3 _ hB6 q36 hA6).mono ?_
           rintro e w9 ⟨rfl,o',c',hA9,hl9,hw9,hc0,hc1,hn9,ho⟩
           have hB9:=ho.has hB6 nS
           have hR9:=ho.has hR6 nR
           have q39:=ho.has q36 nS3
           have q49:=ho.has q46 nS4
           have HG9:Keep _:=⟨HG6.out.only ho HF.out⟩
           have hO9:=hO6.trans ho
           have HI9:Keep (o'.length=6/\Words o'/\(0<=c'/\c'<=18446744073709551615)/\num o'+wp 6*c'=num a+dotR h (k+1)):=⟨hl9,hw9,⟨hc0,hc1⟩,by rw[hn9,HI.out.2.2.2,HD.out];omega⟩
           clear hA6 hB6 hR6 q36 q46 hO6 ho hl9 hw9 hc0 hc1 hn9 hRR)
        | (refine load_seg (by rfl) 24 (.tmp 30) (by rfl) 6 (k*6) 6 (by rfl) tr .u64 rL r _ hRR Tryz.underlying24 rfl (by kernel_rfl) HR6.out.1 HR6.out.2 ?_))
      first
        | exact⟨⟨k+1,o',c',by omega,by go_num,HI9,hA9,hB9,hR9,q39,q49,HG9,hO9⟩,by simp[intOf];omega⟩
        | (go_roundw
           case rel=>exact⟨k+1,o',c',by omega,by go_num,HI9,hA9,hB9,hR9,q39,q49,HG9,hO9⟩
           case measure=>simp[intOf];omega)
    · obtain rfl:k=6:=by omega
      have hroom:=fun (o':List Int) (c':Int)=>fold_last (o':=o') (c':=c') NA.out WH.out (num6 HI.out.2.1 HI.out.1).1 (num6 HI.out.2.1 HI.out.1).2 HI.out.2.2.2
      have FR:Keep _:=⟨hroom⟩
      have RM2:Keep _:=⟨fold_room2 NA.out WH.out (num6 HI.out.2.1 HI.out.1).1 (num6 HI.out.2.1 HI.out.1).2 HI.out.2.2.2⟩
      have bc:0<=c/\c<=18446744073709551615:=HI.out.2.2.1
      have c6:wr.cell? ⟨g,6,none⟩=some (.int .u64 c):=at_off hA HI.out.1 (i:=0) (by simp)
      have cB:=hB.cell 0
      clear hroom
      go_wp2_with (first
        | (refine clear_abs (by rfl) (.tmp 41) 50 (by rfl) 22 Tryz.underlying50 .u64 8 u64Elem g 6 6 6 (by rfl) (by omega) t (o++c :: Z5) (o++0 :: Z5) hA (by rw[List.length_append,HI.out.1];exact Nat.le_refl _) (clear_high HI.out.1 rfl) (fun w9 hA9 ho=>?_)
           have hB9:=ho.has hB nS
           have hR9:=ho.has hR nR
           have q39:=ho.has q3 nS3
           have HG9:Keep _:=⟨HG.out.only ho HF.out⟩
           have hO9:=hO.trans ho
           obtain⟨tr,hRR⟩:=HG9.out.r
           clear c6 cB hA hB hR q3 q4 ho hO HG)
        | (go_at_call 168
           refine (foldStep_c g S g3 t 138 132 o Z5 (rL.take 6) 0 c HI.out.1 HI.out.2.1 rfl (rs_words 0) ⟨by omega,by omega⟩ bc RM2.out nS nS3 _ hB9 q39 hA9).mono ?_
           rintro e w10 ⟨rfl,o',c',hA10,hl10,hw10,hc0,hc1,hn10,ho⟩
           have hB10:=ho.has hB9 nS
           have hR10:=ho.has hR9 nR
           have q310:=ho.has q39 nS3
           have HG10:Keep _:=⟨HG9.out.only ho HF.out⟩
           have hO10:=hO9.trans ho
           have HI10:Keep (o'.length=6/\Words o'/\0<=c'/\num o'+wp 6*c'<4611686018427387904*PP/\fe (num o'+wp 6*c')=o0):=⟨hl10,hw10,hc0,(FR.out o' c' hn10).2.1,HO.out _ (FR.out o' c' hn10).2.2⟩
           clear hA9 hB9 hR9 q39 hO9 ho hl10 hw10 hc0 hc1 hn10 hRR)
        | (refine load_seg (by rfl) 24 (.tmp 43) (by rfl) 6 0 6 (by rfl) tr .u64 rL (rL.take 6) _ hRR Tryz.underlying24 rfl (by kernel_rfl) (by rfl) (by decide) ?_))
      refine wp_fam 5 (by kernel_rfl) (by kernel_rfl) (fun I hI' fw hf hback=>?_)
      simp only[List.take_succ_cons,List.take_zero,List.drop_succ_cons,List.drop_zero]
      have c0:∀j,(fw j).cell? ⟨g3,0,none⟩=some (.pointer (some ⟨g,0,none⟩)):=fun j=>(q310.keep (hf j)).cell 0
      have c1:∀j,(fw j).cell? ⟨S,0,none⟩=some (.pointer (some ⟨g,0,none⟩)):=fun j=>(hB10.keep (hf j)).cell 0
      have c2:∀j,(fw j).cell? ⟨g,6,none⟩=some (.int .u64 c'):=fun j=>at_off (hA10.keep (hf j)) HI10.out.1 (i:=0) (by simp)
      repeat (go_big_quiet_step (fail))
      refine wpQuiet_nil ?_
      intro w11 hq
      have hA11:=hA10.keep hq
      have hR11:=hR10.keep hq
      have q311:=q310.keep hq
      have HG11:Keep _:=⟨HG10.out.keep hq⟩
      have hO11:=hO10.trans (Only.of_below hq g)
      clear c0 c1 c2 hf hback hq hA10 hB10 hR10 q310 HG10 hO10
      go_wp2_with (first
        | (refine load_seg (by rfl) 24 (.tmp 54) (by rfl) g 0 6 (by rfl) t .u64 (o0++c' :: Z5) o0 _ hA12 Tryz.underlying24 rfl (by kernel_rfl) (by rw[List.drop_zero,<-OL.out,List.take_left]) (by rw[List.length_append,OL.out];simp) ?_)
        | (refine wpList_store_rowTo rfl 24 (.tmp 2) (.tmp 55) rfl rfl (S+1) (vals .u64 o0) rfl rfl _ _ hR12.eq (by rw[vals_size,OL.out];kernel_rfl) (by rw[vals_size,vals_size,OL.out];rfl) vals_one ?_)
        | (go_at_call 167
           refine (takeMultiples_c g t o' (c' :: Z5) c' HI10.out.1 HI10.out.2.1 HI10.out.2.2.1 HI10.out.2.2.2.1 HF.out _ HG11.out hA11).mono ?_
           rintro e w12 ⟨rfl,hA12,ho⟩
           rw[HI10.out.2.2.2.2] at hA12
           have hR12:=ho.has hR11 nR
           have q312:=(ho.has q311 nS3).cell 0
           have hO12:=hO11.trans ho
           clear hA11 hR11 q311 hO11 ho))
      refine bodyPost_ret (v:=.agg (vals .u64 o0)) (results_cell_row rfl _ _ (S+1) _ _ _ _ rfl (hR12.row _).eq Tryz.underlying24 rfl (by rw[vals_size,OL.out];kernel_rfl)) rfl ⟨rfl,RowOnly.out _ hO12 _⟩
end Fp
namespace Fp
open Go Go.RowKit Reg Base Limb Bits
theorem set_mid {P o r:List Int}{p:Nat}{c v:Int}(hp:P.length=p)(h:o.length=6):(P++(o++c :: r)).set (p+6) v=P++(o++v :: r):=by
 rw[List.set_append_right _ _ (by omega),show p+6-P.length=6 by omega,set_six h]
theorem nth_mid {P o r:List Int}{p:Nat}{c:Int}(hp:P.length=p)(h:o.length=6):nth (P++(o++c :: r)) (p+6)=c:=by
 rw[nth_append_right _ _ _ (by omega),show p+6-P.length=6 by omega,nth_append_right _ _ _ (by omega),show 6-o.length=0 by omega]
 rfl
set_option maxHeartbeats 2000000 in
theorem mulStep_c (g gb:Nat)(t tb:TypeId)(p:Nat)(hp6:p<6)(P a r b:List Int)(c x:Int)(hp:P.length=p)(hla:a.length=6)(hwa:Words a)(hlb:b.length=6)(hwb:Words b)(hx:0<=x/\x<=18446744073709551615)(hne:g≠gb)(w:World)(hA:Has w g t (vals .u64 (P++(a++c :: r))))(hB:Has w gb tb (vals .u64 b)) :
    Calls Tryz.prog 150 #[.int .i64 (p:Int),.int .u64 x,.pointer (some ⟨g,0,none⟩),.pointer (some ⟨gb,0,none⟩)] w fun e w'=>e=.returned (.tuple #[])/\∃(o:List Int) (cy:Int),Has w' g t (vals .u64 (P++(o++cy :: r)))/\o.length=6/\Words o/\num o+wp 6*cy=num a+x*num b/\0<=cy/\cy<=18446744073709551615/\Only g w w':=by
  have HP:Keep _:=⟨hp⟩
  have LA:Keep _:=⟨hla⟩
  have WA:Keep _:=⟨hwa⟩
  have LB:Keep _:=⟨hlb⟩
  have WB:Keep _:=⟨hwb⟩
  have XX:Keep _:=⟨hx⟩
  have hat:∀(w:World) (off c:Nat),(Instr.arrayAt 24 (.slice (some ⟨g,off,none⟩) 6 c)).run Tryz.prog w=.ok (.pointer (some ⟨g,off,none⟩)) w:=fun w off c=>arrayAt_run Tryz.underlying24 (by omega)
  clear hp hla hwa hlb hwb hx
  match p,hp6 with
  | 0,_=>
    go_enter Tryz.func150,Tryz.ntmps150
    go_wp2_with (go_at_call 151
                 refine (fpTimes_c g 0 gb t tb P a (c :: r) b HP.out LA.out WA.out LB.out WB.out x XX.out hne _ hA hB).mono ?_
                 rintro e w2 ⟨o,cy,rfl,hA2,hlo,hwo,hno,hc0,hc1,ho⟩
                 have HNO:Keep _:=⟨And.intro hlo (And.intro hwo (And.intro hno (And.intro hc0 hc1)))⟩
                 have co:w2.cell? ⟨g,6,none⟩=some (.int .u64 c):=by
                   have:=hA2.val (i:=0+6) (by rw[List.length_append,List.length_append,HP.out,hlo];simp<;>omega)
                   rwa [nth_mid HP.out hlo] at this
                 have zo:=hA2.frozen 6
                 have hA3:=hA2.set_ (0+6) (.int .u64 cy)
                 rw[vals_set,set_mid HP.out hlo] at hA3
                 have hO3:=ho.set_ (p:=⟨g,6,none⟩) rfl (.int .u64 cy)
                 clear hA hB hlo hwo hno hc0 hc1 ho)
    go_end0
    exact⟨rfl,o,cy,hA3,HNO.out.1,HNO.out.2.1,HNO.out.2.2.1,HNO.out.2.2.2.1,HNO.out.2.2.2.2,hO3⟩
  | 1,_=>
    go_enter Tryz.func150,Tryz.ntmps150
    go_wp2_with (go_at_call 151
                 refine (fpTimes_c g 1 gb t tb P a (c :: r) b HP.out LA.out WA.out LB.out WB.out x XX.out hne _ hA hB).mono ?_
                 rintro e w2 ⟨o,cy,rfl,hA2,hlo,hwo,hno,hc0,hc1,ho⟩
                 have HNO:Keep _:=⟨And.intro hlo (And.intro hwo (And.intro hno (And.intro hc0 hc1)))⟩
                 have co:w2.cell? ⟨g,7,none⟩=some (.int .u64 c):=by
                   have:=hA2.val (i:=1+6) (by rw[List.length_append,List.length_append,HP.out,hlo];simp<;>omega)
                   rwa [nth_mid HP.out hlo] at this
                 have zo:=hA2.frozen 7
                 have hA3:=hA2.set_ (1+6) (.int .u64 cy)
                 rw[vals_set,set_mid HP.out hlo] at hA3
                 have hO3:=ho.set_ (p:=⟨g,7,none⟩) rfl (.int .u64 cy)
                 clear hA hB hlo hwo hno hc0 hc1 ho)
    go_end0
    exact⟨rfl,o,cy,hA3,HNO.out.1,HNO.out.2.1,HNO.out.2.2.1,HNO.out.2.2.2.1,HNO.out.2.2.2.2,hO3⟩
  | 2,_=>
    go_enter Tryz.func150,Tryz.ntmps150
    go_wp2_with (go_at_call 151
                 refine (fpTimes_c g 2 gb t tb P a (c :: r) b HP.out LA.out WA.out LB.out WB.out x XX.out hne _ hA hB).mono ?_
                 rintro e w2 ⟨o,cy,rfl,hA2,hlo,hwo,hno,hc0,hc1,ho⟩
                 have HNO:Keep _:=⟨And.intro hlo (And.intro hwo (And.intro hno (And.intro hc0 hc1)))⟩
                 have co:w2.cell? ⟨g,8,none⟩=some (.int .u64 c):=by
                   have:=hA2.val (i:=2+6) (by rw[List.length_append,List.length_append,HP.out,hlo];simp<;>omega)
                   rwa [nth_mid HP.out hlo] at this
                 have zo:=hA2.frozen 8
                 have hA3:=hA2.set_ (2+6) (.int .u64 cy)
                 rw[vals_set,set_mid HP.out hlo] at hA3
                 have hO3:=ho.set_ (p:=⟨g,8,none⟩) rfl (.int .u64 cy)
                 clear hA hB hlo hwo hno hc0 hc1 ho)
    go_end0
    exact⟨rfl,o,cy,hA3,HNO.out.1,HNO.out.2.1,HNO.out.2.2.1,HNO.out.2.2.2.1,HNO.out.2.2.2.2,hO3⟩
  | 3,_=>
    go_enter Tryz.func150,Tryz.ntmps150
    go_wp2_with (go_at_call 151
                 refine (fpTimes_c g 3 gb t tb P a (c :: r) b HP.out LA.out WA.out LB.out WB.out x XX.out hne _ hA hB).mono ?_
                 rintro e w2 ⟨o,cy,rfl,hA2,hlo,hwo,hno,hc0,hc1,ho⟩
                 have HNO:Keep _:=⟨And.intro hlo (And.intro hwo (And.intro hno (And.intro hc0 hc1)))⟩
                 have co:w2.cell? ⟨g,9,none⟩=some (.int .u64 c):=by
                   have:=hA2.val (i:=3+6) (by rw[List.length_append,List.length_append,HP.out,hlo];simp<;>omega)
                   rwa [nth_mid HP.out hlo] at this
                 have zo:=hA2.frozen 9
                 have hA3:=hA2.set_ (3+6) (.int .u64 cy)
                 rw[vals_set,set_mid HP.out hlo] at hA3
                 have hO3:=ho.set_ (p:=⟨g,9,none⟩) rfl (.int .u64 cy)
                 clear hA hB hlo hwo hno hc0 hc1 ho)
    go_end0
    exact⟨rfl,o,cy,hA3,HNO.out.1,HNO.out.2.1,HNO.out.2.2.1,HNO.out.2.2.2.1,HNO.out.2.2.2.2,hO3⟩
  | 4,_=>
    go_enter Tryz.func150,Tryz.ntmps150
    go_wp2_with (go_at_call 151
                 refine (fpTimes_c g 4 gb t tb P a (c :: r) b HP.out LA.out WA.out LB.out WB.out x XX.out hne _ hA hB).mono ?_
                 rintro e w2 ⟨o,cy,rfl,hA2,hlo,hwo,hno,hc0,hc1,ho⟩
                 have HNO:Keep _:=⟨And.intro hlo (And.intro hwo (And.intro hno (And.intro hc0 hc1)))⟩
                 have co:w2.cell? ⟨g,10,none⟩=some (.int .u64 c):=by
                   have:=hA2.val (i:=4+6) (by rw[List.length_append,List.length_append,HP.out,hlo];simp<;>omega)
                   rwa [nth_mid HP.out hlo] at this
                 have zo:=hA2.frozen 10
                 have hA3:=hA2.set_ (4+6) (.int .u64 cy)
                 rw[vals_set,set_mid HP.out hlo] at hA3
                 have hO3:=ho.set_ (p:=⟨g,10,none⟩) rfl (.int .u64 cy)
                 clear hA hB hlo hwo hno hc0 hc1 ho)
    go_end0
    exact⟨rfl,o,cy,hA3,HNO.out.1,HNO.out.2.1,HNO.out.2.2.1,HNO.out.2.2.2.1,HNO.out.2.2.2.2,hO3⟩
  | 5,_=>
    go_enter Tryz.func150,Tryz.ntmps150
    go_wp2_with (go_at_call 151
                 refine (fpTimes_c g 5 gb t tb P a (c :: r) b HP.out LA.out WA.out LB.out WB.out x XX.out hne _ hA hB).mono ?_
                 rintro e w2 ⟨o,cy,rfl,hA2,hlo,hwo,hno,hc0,hc1,ho⟩
                 have HNO:Keep _:=⟨And.intro hlo (And.intro hwo (And.intro hno (And.intro hc0 hc1)))⟩
                 have co:w2.cell? ⟨g,11,none⟩=some (.int .u64 c):=by
                   have:=hA2.val (i:=5+6) (by rw[List.length_append,List.length_append,HP.out,hlo];simp<;>omega)
                   rwa [nth_mid HP.out hlo] at this
                 have zo:=hA2.frozen 11
                 have hA3:=hA2.set_ (5+6) (.int .u64 cy)
                 rw[vals_set,set_mid HP.out hlo] at hA3
                 have hO3:=ho.set_ (p:=⟨g,11,none⟩) rfl (.int .u64 cy)
                 clear hA hB hlo hwo hno hc0 hc1 ho)
    go_end0
    exact⟨rfl,o,cy,hA3,HNO.out.1,HNO.out.2.1,HNO.out.2.2.1,HNO.out.2.2.2.1,HNO.out.2.2.2.2,hO3⟩
theorem mul_round {a b o o':List Int}{k:Nat}{cy x:Int}(hk:k<6)(hlo:o.length=k+6)(hn:num o=low a k*num b)(hx:nth a k=x)(hl':o'.length=6)(he:num o'+wp 6*cy=num (o.drop k)+x*num b) :
  num (o.take k++(o'++[cy]))=low a (k+1)*num b/\(o.take k++(o'++[cy])).length=k+1+6:=by
 have hlt:(o.take k).length=k:=by simp;omega
 refine⟨?_,by simp[hlt,hl']⟩
 have h1:=num_append (o.take k) (o.drop k)
 rw[List.take_append_drop,hlt] at h1
 rw[num_append,hlt,num_snoc,hl',he,low_succ,hx,Int.add_mul,<-hn,h1]
 grind
theorem zeros_cons (k:Nat)(h:k<6):List.replicate (6-k) (0:Int)=0 :: List.replicate (5-k) 0:=by
 rw[show 6-k=(5-k)+1 by omega,List.replicate_succ]
set_option maxHeartbeats 2000000 in
theorem fpMul_c (a:List Int)(hla:a.length=6)(hwa:Words a)(b:List Int)(hlb:b.length=6)(hwb:Words b)(w:World)(hG:Glob w):Calls Tryz.prog 120 #[.agg (vals .u64 a),.agg (vals .u64 b)] w fun e w'=>e=.returned (.agg (vals .u64 (fe (num a*num b))))/\Below w.heap.size w w':=by
  obtain⟨o0,ho0⟩:∃o,fe (num a*num b)=o:=⟨_,rfl⟩
  have OL:Keep (o0.length=6):=⟨by rw[<-ho0];exact fe_len _⟩
  have e6:low a 6=num a:=by rw[num,hla]
  have HO:Keep (fe (low a 6*num b)=o0):=⟨by rw[e6,ho0]⟩
  clear e6
  have LA:Keep _:=⟨hla⟩
  have WA:Keep _:=⟨hwa⟩
  have LB:Keep _:=⟨hlb⟩
  have WB:Keep _:=⟨hwb⟩
  rw[ho0]
  obtain⟨S,hS⟩:∃S,w.heap.size=S:=⟨_,rfl⟩
  obtain⟨w0,hw0⟩:∃w0,(((w.alloc (.cells (vals .u64 a) 24)).alloc (.cells (vals .u64 b) 24)).alloc (.cells (vals .u64 Z6) 24)).alloc (.cells (vals .u64 (List.replicate 12 0)) 115)=w0:=⟨_,rfl⟩
  have hA0:Has w0 S 24 (vals .u64 a):=by rw[<-hw0];exact (((Has.new' _ hS.symm _ _).alloc _).alloc _).alloc _
  have hB0:Has w0 (S+1) 24 (vals .u64 b):=by rw[<-hw0];exact ((Has.new' _ (by rw[World.size_alloc,hS]) _ _).alloc _).alloc _
  have hR0:Has w0 (S+2) 24 (vals .u64 Z6):=by rw[<-hw0];exact (Has.new' _ (by rw[World.size_alloc,World.size_alloc,hS]) _ _).alloc _
  have hW0:Has w0 (S+3) 115 (vals .u64 (List.replicate 12 0)):=by rw[<-hw0];exact Has.new' _ (by rw[World.size_alloc,World.size_alloc,World.size_alloc,hS]) _ _
  have hb0:Below S w w0:=by rw[<-hw0,<-hS];exact ((((Below.refl _ _).alloc (Nat.le_refl _) _).alloc (by simp) _).alloc (by simp<;>omega) _).alloc (by simp<;>omega) _
  have HG0:Keep (Glob w0):=⟨hG.keep (by rw[hS];exact hb0)⟩
  have HF:Keep (Free (S+3)):=⟨hG.free (by omega)⟩
  have HSS:Keep (∀w',Below S w w'->S<=w'.heap.size):=⟨fun w' hb=>by have:=hb.size;omega⟩
  clear hla hwa hlb hwb ho0 hG
  go_enter Tryz.func120,Tryz.ntmps120
  go_wp2
  change Code.wp _ _ _ _ ((((w.alloc (.cells (vals .u64 a) 24)).alloc (.cells (vals .u64 b) 24)).alloc (.cells (vals .u64 Z6) 24)).alloc (.cells (vals .u64 (List.replicate 12 0)) 115))
  rw[hw0]
  clear hw0
  go_loopw [10] (fun vi wr=>∃(k:Nat) (o:List Int),k<=6/\vi=.int .i64 k/\Keep (o.length=k+6/\Words o/\num o=low a k*num b)/\Has wr S 24 (vals .u64 a)/\Has wr (S+1) 24 (vals .u64 b)/\Has wr (S+2) 24 (vals .u64 Z6)/\Has wr (S+3) 115 (vals .u64 (o++List.replicate (6-k) 0))/\Keep (Glob wr)/\Below S w wr) (fun vi _=>6-(intOf vi).toNat)
  case atStart=>exact⟨0,List.replicate 6 0,by omega,rfl,⟨rfl,words_zeros 6,by rw[num_zeros,low_zero,Int.zero_mul]⟩,hA0,hB0,hR0,hW0,HG0,hb0⟩
  case round=>
    clear hA0 hB0 hR0 hW0 HG0 hb0
    obtain⟨k,o,hk,rfl,HI,hA,hB,hR,hW,HG,hb⟩:=hrel
    by_cases hlt:k<6
    · obtain⟨x,hx⟩:∃x,nth a k=x:=⟨_,rfl⟩
      have bx:0<=x/\x<=18446744073709551615:=hx▸WA.out k
      have Q0:Keep (∀w',Below wr.heap.size wr w'->w'.cell? ⟨S,k,none⟩=some (.int .u64 x)):=⟨fun w' hb'=>by rw[<-hx];exact (hA.keep hb').val (by rw[LA.out];exact hlt)⟩
      have LT:Keep ((o.take k).length=k/\(o.drop k).length=6/\Words (o.drop k)):=⟨by simp;have:=HI.out.1;omega,by simp;have:=HI.out.1;omega,words_drop HI.out.2.1 _⟩
      have hW':Has wr (S+3) 115 (vals .u64 (o.take k++(o.drop k++0 :: List.replicate (5-k) 0))):=by rw[<-List.append_assoc,List.take_append_drop,<-zeros_cons k hlt];exact hW
      have HX:Keep _:=⟨hx⟩
      clear hx hW
      go_wp2
      refine wp_fam_all (by kernel_rfl) (by kernel_rfl) (fun I hI' fw hf hback=>?_)
      have c0:∀j,(fw j).cell? ⟨S,k,none⟩=some (.int .u64 x):=fun j=>Q0.out _ (hf j)
      repeat (go_big_quiet_step (fail))
      refine wpQuiet_nil ?_
      intro w6 hb6
      have hA6:=hA.keep hb6
      have hB6:=hB.keep hb6
      have hR6:=hR.keep hb6
      have hW6:=hW'.keep hb6
      have HG6:Keep _:=⟨HG.out.keep hb6⟩
      have hbb6:=hb.trans (hb6.mono (HSS.out _ hb))
      clear c0 hf hback hb6 hA hB hR hW' HG hb Q0
      go_wp2_with (go_at_call 150
                   refine (mulStep_c (S+3) (S+1) 115 24 k hlt (o.take k) (o.drop k) (List.replicate (5-k) 0) b 0 x LT.out.1 LT.out.2.1 LT.out.2.2 LB.out WB.out bx (by omega) _ hW6 hB6).mono ?_
                   rintro e w9 ⟨rfl,o',cy,hW9,hl9,hw9,hn9,hc0,hc1,ho⟩
                   have hA9:=ho.has hA6 (by omega)
                   have hB9:=ho.has hB6 (by omega)
                   have hR9:=ho.has hR6 (by omega)
                   have HG9:Keep _:=⟨HG6.out.only ho HF.out⟩
                   have hb9:=hbb6.trans (ho.below (B:=S) (by omega) (HSS.out _ hbb6))
                   have mr:=mul_round hlt HI.out.1 HI.out.2.2 HX.out hl9 hn9
                   have HI9:Keep ((o.take k++(o'++[cy])).length=k+1+6/\Words (o.take k++(o'++[cy]))/\num (o.take k++(o'++[cy]))=low a (k+1)*num b):=⟨mr.2,words_append (words_take HI.out.2.1 _) (words_append hw9 (words_one hc0 hc1)),mr.1⟩
                   have hW99:Has w9 (S+3) 115 (vals .u64 ((o.take k++(o'++[cy]))++List.replicate (6-(k+1)) 0)):=by
                     rw[show 6-(k+1)=5-k by omega,List.append_assoc,List.append_assoc]
                     exact hW9
                   clear hA6 hB6 hR6 hW6 hW9 ho hl9 hw9 hn9 hc0 hc1 mr hbb6)
      first
        | exact⟨⟨k+1,_,by omega,by go_num,HI9,hA9,hB9,hR9,hW99,HG9,hb9⟩,by simp[intOf];omega⟩
        | (go_roundw
           case rel=>exact⟨k+1,_,by omega,by go_num,HI9,hA9,hB9,hR9,hW99,HG9,hb9⟩
           case measure=>simp[intOf];omega)
    · obtain rfl:k=6:=by omega
      have hW':Has wr (S+3) 115 (vals .u64 o):=by simpa using hW
      clear hW
      go_wp2_with (first
        | (refine wpList_store_rowTo rfl 24 (.tmp 4) (.tmp 21) rfl rfl (S+2) (vals .u64 o0) rfl rfl _ _ hR9.eq (by rw[vals_size,OL.out];kernel_rfl) (by rw[vals_size,vals_size,OL.out];rfl) vals_one ?_)
        | (go_at_call 152
           refine (folded_c (S+3) 115 o HI.out.1 HI.out.2.1 HF.out _ HG.out hW').mono ?_
           rintro e w9 ⟨rfl,ho⟩
           rw[HI.out.2.2,HO.out]
           have hR9:=ho.has hR (by omega)
           have hb9:=hb.trans (ho.below (B:=S) (by omega) (HSS.out _ hb))
           clear hA hB hR hW' ho hb))
      refine bodyPost_ret (v:=.agg (vals .u64 o0)) (results_cell_row rfl _ _ (S+2) _ _ _ _ rfl (hR9.row _).eq Tryz.underlying24 rfl (by rw[vals_size,OL.out];kernel_rfl)) rfl ⟨rfl,by rw[hS];exact below_row hb9 (by omega) _⟩
end Fp
end Go.Proofs.YtjamcbjghffboaaGreatDoor
